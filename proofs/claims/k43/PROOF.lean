import PyProof.Rows.All
import Wide.All
import OpenK.AllK
import Wide.FinOn
import Lean
import PyProof.EqAt
import PyProof.EqKinds
import PyProof.TupleCall
import PyProof.NeKinds
import PySem.Challenge.RW_cascade_k43_levels_that_rest
set_option maxHeartbeats 2000000
set_option Elab.async false
set_option linter.all false
set_option maxRecDepth 100000
namespace L2
open PySem PySem.Spec PyProof.Rows
abbrev Key := Sum Int Str
def keyIs : Key -> Value -> Bool
 | .inl k, v => Value.isInt k v
 | .inr x, v => Value.isStrOf x v
def keyH (w : World) : Key -> Int
 | .inl k => hashInt k
 | .inr x => hashStr w x
theorem keyIs_shape : ∀ {k : Key} {v : Value}, keyIs k v = true -> (∃ i t, k = Sum.inl i /\ v = Value.int i t) ∨ (∃ x t, k = Sum.inr x /\ v = Value.str x t)
 | .inl i, v, h => by
  obtain ⟨t, e⟩ := Value.isInt_shape (k := i) (v := v) h
  exact .inl ⟨i, t, rfl, e⟩
 | .inr x, v, h => by
  obtain ⟨t, e⟩ := Value.isStrOf_shape (x := x) (v := v) h
  exact .inr ⟨x, t, rfl, e⟩
theorem keyIs_int (i : Int) (t : Tok) : keyIs (.inl i) (.int i t) = true := by simp [keyIs, Value.isInt]
theorem keyIs_str (x : Str) (t : Tok) : keyIs (.inr x) (.str x t) = true := by simp [keyIs, Value.isStrOf]
theorem key_ll (a b : Int) : decide ((Sum.inl a : Key) = Sum.inl b) = (a == b) := by
 by_cases e : a = b
 ·subst e; simp
 ·have h : ¬ (Sum.inl a : Key) = Sum.inl b := fun q => e (Sum.inl.inj q)
  rw [decide_eq_false h]
  exact (beq_eq_false_iff_ne.mpr e).symm
theorem key_rr (a b : Str) : decide ((Sum.inr a : Key) = Sum.inr b) = decide (a = b) := by
 by_cases e : a = b
 ·subst e; simp
 ·have h : ¬ (Sum.inr a : Key) = Sum.inr b := fun q => e (Sum.inr.inj q)
  rw [decide_eq_false h, decide_eq_false e]
theorem key_lr (a : Int) (b : Str) : decide ((Sum.inl a : Key) = Sum.inr b) = false := decide_eq_false (fun q => nomatch q)
theorem key_rl (a : Str) (b : Int) : decide ((Sum.inr a : Key) = Sum.inl b) = false := decide_eq_false (fun q => nomatch q)
def mixKind (prog : Program) (w : World) : PySem.KeyKind prog w Key where
 is := keyIs
 hash := keyH w
 inj := fun v a b ha hb => by
  rcases keyIs_shape ha with ⟨i, t, rfl, rfl⟩ | ⟨x, t, rfl, rfl⟩
  ·rcases keyIs_shape hb with ⟨j, u, rfl, e⟩ | ⟨y, u, rfl, e⟩
   ·injection e with e1 _; rw [e1]
   ·exact nomatch e
  ·rcases keyIs_shape hb with ⟨j, u, rfl, e⟩ | ⟨y, u, rfl, e⟩
   ·exact nomatch e
   ·injection e with e1 _; rw [e1]
 byValue := fun k v h => by
  rcases keyIs_shape h with ⟨i, t, rfl, rfl⟩ | ⟨x, t, rfl, rfl⟩ <;> rfl
 pyHash := fun hv h => by
  rcases keyIs_shape hv with ⟨i, t, rfl, rfl⟩ | ⟨x, t, rfl, rfl⟩
  ·exact wpAny_pyHash_int h
  ·exact wpAny_pyHash_str h
 eqBool := fun hu hv h => by
  rcases keyIs_shape hu with ⟨i, t, rfl, rfl⟩ | ⟨x, t, rfl, rfl⟩
  ·rcases keyIs_shape hv with ⟨j, u, rfl, rfl⟩ | ⟨y, u, rfl, rfl⟩
   ·rw [key_ll] at h; exact wpAny_eqBool_int h
   ·rw [key_lr] at h; exact SeqAt.EqAt.int_str i t y u _ _ _ _ h
  ·rcases keyIs_shape hv with ⟨j, u, rfl, rfl⟩ | ⟨y, u, rfl, rfl⟩
   ·rw [key_rl] at h; exact SeqAt.EqAt.str_int x t j u _ _ _ _ h
   ·rw [key_rr] at h; exact wpAny_eqBool_str h
 «strs» := fun k x t v h => by
  rcases keyIs_shape h with ⟨i, u, rfl, e⟩ | ⟨y, u, rfl, e⟩
  ·exact nomatch e
  ·injection e with e1 _
   subst e1
   cases v <;> rfl
theorem mixKind_int (prog : Program) (w : World) (i : Int) (t : Tok) : (mixKind prog w).is (.inl i) (.int i t) = true := keyIs_int i t
theorem mixKind_str (prog : Program) (w : World) (x : Str) (t : Tok) : (mixKind prog w).is (.inr x) (.str x t) = true := keyIs_str x t
inductive V where
 | non | bl (b : Bool) | int (i : Int) | str (x : Str) | byt (b : Array UInt8) | flt (b : UInt64) | ref (a : Addr) | ty (n : String)
 deriving DecidableEq
def RelV : V -> Value -> Prop
 | .non, u => u = Value.none
 | .bl b, u => u = Value.bool b
 | .int i, u => ∃ t, u = Value.int i t
 | .str x, u => ∃ t, u = Value.str x t
 | .byt b, u => ∃ t, u = Value.bytes b t
 | .flt b, u => ∃ t, u = Value.float b t
 | .ref a, u => u = Value.ref a
 | .ty n, u => u = Value.type n
abbrev Vals : List V -> List Value -> Prop := Paired RelV
theorem Vals.length {xs : List V} {us : List Value} (r : Vals xs us) : xs.length = us.length := Paired.length r
theorem Vals.get : ∀ {xs : List V} {us : List Value} {i : Nat} {x : V}, Vals xs us -> xs[i]? = some x -> ∃ u, us[i]? = some u /\ RelV x u
 | _, _, _, _, .nil, e => by simp at e
 | _, _, 0, _, .cons r _, e => by simp at e; subst e; exact ⟨_, rfl, r⟩
 | _, _, i + 1, x, .cons _ t, e => by
  obtain ⟨u, h1, h2⟩ := Vals.get (i := i) (x := x) t (by simpa using e)
  exact ⟨u, by simpa using h1, h2⟩
theorem Vals.set {x : V} {u : Value} (r : RelV x u) : ∀ {xs : List V} {us : List Value} (i : Nat), Vals xs us -> Vals (xs.set i x) (us.set i u)
 | _, _, _, .nil => .nil
 | _, _, 0, .cons _ t => .cons r t
 | _, _, i + 1, .cons q t => .cons q (Vals.set r i t)
theorem Vals.append : ∀ {xs ys : List V} {us ws : List Value}, Vals xs us -> Vals ys ws -> Vals (xs ++ ys) (us ++ ws)
 | _, _, _, _, .nil, s => s
 | _, _, _, _, .cons r t, s => .cons r (Vals.append t s)
def RelO : Option V -> Option Value -> Prop
 | some v, some u => RelV v u
 | none, none => True
 | _, _ => False
def KV {κ : Type} : List (κ × V) -> List (κ × Value) -> Prop := Paired fun (p : κ × V) (q : κ × Value) => p.1 = q.1 /\ RelV p.2 q.2
def kV : Key -> V
 | .inl i => .int i
 | .inr x => .str x
inductive HO where
 | lst (xs : List V)
 | tup (xs : List V)
 | dK (kvs : List (Key × V)) | dT (kvs : List (List Key × V))
 | set (S : Int -> Bool) (n : Nat)
 | ins (C dx : Addr) (fs : List (Str × V))
 | own (x : Addr)
 | xd (fs : List (Str × V))
 | met (f x : Addr)
 | rng (lo hi : Int)
 | frz (o : Obj) (u : HO)
 | tbl (ps : Array Value)
 | ext (φ : Heap -> Prop)
abbrev Hp := Addr -> Option HO
def upd (H : Hp) (a : Addr) (o : HO) : Hp := fun b => if b = a then some o else H b
theorem upd_same {H : Hp} {a : Addr} {o : HO} : upd H a o a = some o := by unfold upd; rw [if_pos rfl]
theorem upd_ne {H : Hp} {a b : Addr} {o : HO} (h : b ≠ a) : upd H a o b = H b := by unfold upd; rw [if_neg h]
theorem upd_upd {H : Hp} {a : Addr} {o u : HO} : upd (upd H a o) a u = upd H a u := by
 funext b; unfold upd; split <;> rfl
theorem ne_of {H : Hp} {a b : Addr} {o u : HO} (h : H a = some o) (h' : H b = some u) (d : o ≠ u) : a ≠ b := by
 intro e; subst e; rw [h] at h'; exact d (Option.some.inj h')
theorem ne_of_none {H : Hp} {a b : Addr} {o : HO} (h : H a = some o) (h' : H b = none) : a ≠ b := by
 intro e; subst e; rw [h] at h'; cases h'
section
variable (P : Program) (w : World)
def ObjOk (H : Hp) (h : Heap) (a : Addr) : HO -> Prop
 | .lst xs => xs.length <= sizeLine /\ ∃ (its : List Value) (n : Nat), Vals xs its /\ h.get? a = some { cls := .type "list", data := .seq its.toArray n }
 | .tup xs => xs.length <= sizeLine /\ ∃ its : List Value, Vals xs its /\ IsTup h a its.toArray
 | .dK kvs => kvs.length <= sizeLine /\ (a == sysModules) = false /\ ∃ vs, KV kvs vs /\ h.DictOf (mixKind P w) a vs
 | .dT kvs => kvs.length <= sizeLine /\ (a == sysModules) = false /\ ∃ xs : List (List Key × Addr × Value),
   Paired (fun (p : List Key × V) (q : List Key × Addr × Value) => p.1 = q.1 /\ H q.2.1 = some (.tup (p.1.map kV)) /\ RelV p.2 q.2.2) kvs xs /\
   ∃ o es ep, h.get? a = some o /\ o.ExactDict /\ o.data = .dict es ep /\ es.toList = xs.map (entryOfKey (tupleKind (mixKind P w))) /\ (xs.map (·.1)).Nodup
 | .set S n => h.SetOf (intKind P w) a S n
 | .ins C dx fs => H dx = some (.own a) /\ fs.length <= 1000 /\ dx ≠ a /\ h.get? a = some (PySem.W.instObj C dx) /\
   ∃ mA, h.Ns1 dx mA /\ (∀ f, RelO (fs.lookup f) (mA f)) /\ PySem.Within mA (fs.map (·.1))
 | .own _ => ∃ o, h.get? a = some o
 | .xd fs => ∃ mA, h.Ns1 a mA /\ ∀ f, RelO (fs.lookup f) (mA f)
 | .rng lo hi => ∃ t u v, h.get? a = some { cls := .type "range", data := .fields #[.int lo t, .int hi u, .int 1 v] }
 | .frz o u => h.get? a = some o /\ ObjOk H h a u
 | .tbl ps => h.get? a = some { cls := .none, data := .fields ps }
 | .met f x => h.get? a = some (PySem.W.methodObj (.ref f) (.ref x))
 | .ext φ => φ h /\ (∃ o, h.get? a = some o) /\ ∀ h1 h2 : Heap, φ h1 -> (∀ o, h1.get? a = some o -> h2.get? a = some o) -> φ h2
def HOk (H : Hp) (h : Heap) : Prop := ∀ a o, H a = some o -> ObjOk P w H h a o
end
section
variable {P : Program} {w : World} {H H' : Hp} {h h' : Heap} {a : Addr} {o : HO}
theorem ObjOk.lt (x : ObjOk P w H h a o) : a < h.objs.size := by
 cases o with
 | lst xs => obtain ⟨_, _, _, _, e⟩ := x; exact Heap.lt_size e
 | tup xs => obtain ⟨_, _, _, p⟩ := x; exact p.lt
 | dK kvs => obtain ⟨_, _, _, _, o, _, _, e, _⟩ := x; exact Heap.lt_size e
 | dT kvs => obtain ⟨_, _, _, _, o, _, _, e, _⟩ := x; exact Heap.lt_size e
 | set S n => obtain ⟨o, _, _, _, e, _⟩ := x; exact Heap.lt_size e
 | ins C dx fs => obtain ⟨_, _, _, e, _⟩ := x; exact Heap.lt_size e
 | own y => obtain ⟨_, e⟩ := x; exact Heap.lt_size e
 | xd fs => obtain ⟨_, ⟨_, _, _, e, _⟩, _⟩ := x; exact Heap.lt_size e
 | rng lo hi => obtain ⟨_, _, _, e⟩ := x; exact Heap.lt_size e
 | frz ob u => obtain ⟨e, _⟩ := x; exact Heap.lt_size e
 | tbl ps => exact Heap.lt_size (show h.get? a = some _ from x)
 | met f y => exact Heap.lt_size (show h.get? a = some _ from x)
 | ext φ => obtain ⟨_, ⟨_, e⟩, _⟩ := x; exact Heap.lt_size e
theorem Paired.mapP {α β : Type} {F G : α -> β -> Prop} : ∀ {l₁ : List α} {l₂ : List β}, Paired F l₁ l₂ -> (∀ a b, F a b -> G a b) -> Paired G l₁ l₂
 | _, _, .nil, _ => .nil
 | _, _, .cons r t, f => .cons (f _ _ r) (Paired.mapP t f)
theorem ObjOk.stay (x : ObjOk P w H h a o) (k : ∀ b u, (b = a ∨ H b = some (.own a)) -> h.get? b = some u -> h'.get? b = some u)
  (ho : ∀ b, H b = some (.own a) -> H' b = some (.own a)) (ht : ∀ b xs, H b = some (.tup xs) -> H' b = some (.tup xs)) : ObjOk P w H' h' a o := by
 induction o with
 | lst xs => obtain ⟨z, its, n, r, e⟩ := x; exact ⟨z, its, n, r, k _ _ (.inl rfl) e⟩
 | tup xs => obtain ⟨z, its, r, ob, e, c⟩ := x; exact ⟨z, its, r, ob, k _ _ (.inl rfl) e, c⟩
 | dK kvs => obtain ⟨z, y, vs, r, ob, es, ep, e, c⟩ := x; exact ⟨z, y, vs, r, ob, es, ep, k _ _ (.inl rfl) e, c⟩
 | dT kvs =>
  obtain ⟨z, y, xs, r, ob, es, ep, e, c⟩ := x
  exact ⟨z, y, xs, Paired.mapP r fun p q z => ⟨z.1, ht _ _ z.2.1, z.2.2⟩, ob, es, ep, k _ _ (.inl rfl) e, c⟩
 | set S n => obtain ⟨ob, es, ep, t, e, c⟩ := x; exact ⟨ob, es, ep, t, k _ _ (.inl rfl) e, c⟩
 | ins C dx fs =>
  obtain ⟨d, z, ne, e, mA, ⟨od, es, ep, e2, c⟩, r⟩ := x
  exact ⟨ho _ d, z, ne, k _ _ (.inl rfl) e, mA, ⟨od, es, ep, k _ _ (.inr d) e2, c⟩, r⟩
 | own y => obtain ⟨ob, e⟩ := x; exact ⟨ob, k _ _ (.inl rfl) e⟩
 | xd fs => obtain ⟨mA, ⟨od, es, ep, e, c⟩, r⟩ := x; exact ⟨mA, ⟨od, es, ep, k _ _ (.inl rfl) e, c⟩, r⟩
 | rng lo hi => obtain ⟨t, u, v, e⟩ := x; exact ⟨t, u, v, k _ _ (.inl rfl) e⟩
 | frz ob u ih => obtain ⟨e, q⟩ := x; exact ⟨k _ _ (.inl rfl) e, ih q⟩
 | tbl ps =>
  have e : h.get? a = some { cls := .none, data := .fields ps } := x
  show h'.get? a = some { cls := .none, data := .fields ps }
  exact k a _ (.inl rfl) e
 | met f y =>
  have e : h.get? a = some (PySem.W.methodObj (.ref f) (.ref y)) := x
  show h'.get? a = some (PySem.W.methodObj (.ref f) (.ref y))
  exact k a _ (.inl rfl) e
 | ext φ => obtain ⟨p, ⟨o, e⟩, st⟩ := x; exact ⟨st _ _ p fun o q => k _ _ (.inl rfl) q, ⟨o, k _ _ (.inl rfl) e⟩, st⟩
theorem HOk.lt (x : HOk P w H h) (e : H a = some o) : a < h.objs.size := (x a o e).lt
theorem HOk.fresh (x : HOk P w H h) (e : h.objs.size <= a) : H a = none := by
 cases q : H a with
 | none => rfl
 | some u => exact absurd (Nat.lt_of_lt_of_le (x.lt q) e) (Nat.lt_irrefl _)
theorem HOk.kept (x : HOk P w H h) (k : ∀ b u, h.get? b = some u -> h'.get? b = some u) : HOk P w H h' := fun a o e =>
 (x a o e).stay (fun b u _ q => k b u q) (fun _ q => q) fun _ _ q => q
theorem HOk.laid (x : HOk P w H h) (k : ∀ b u, h.get? b = some u -> h'.get? b = some u) (hp : h.objs.size <= a) (new : ObjOk P w (upd H a o) h' a o) : HOk P w (upd H a o) h' := fun b u e => by
 have hn := x.fresh hp
 by_cases hb : b = a
 ·subst hb; rw [upd_same] at e; cases e; exact new
 ·rw [upd_ne hb] at e
  exact (x b u e).stay (fun c v _ q => k c v q) (fun c q => by rw [upd_ne (ne_of_none q hn)]; exact q) fun c xs q => by rw [upd_ne (ne_of_none q hn)]; exact q
end
def Rd (H : Hp) (a : Addr) (u : HO) : Prop := H a = some u ∨ ∃ o, H a = some (.frz o u)
theorem Rd.ok {P : Program} {w : World} {H : Hp} {h : Heap} {a : Addr} {u : HO} (r : Rd H a u) (x : HOk P w H h) : ObjOk P w H h a u := by
 rcases r with r | ⟨o, r⟩
 ·exact x a u r
 ·obtain ⟨_, q⟩ := x a _ r
  exact q
def Mut : Option HO -> Prop
 | some (.lst _) => True
 | some (.dK _) => True
 | some (.dT _) => True
 | some (.set _ _) => True
 | some (.ins _ _ _) => True
 | some (.ext _) => True
 | _ => False
section
variable {P : Program} {w : World} {H : Hp} {h h' : Heap} {x e : Addr} {o' : HO}
theorem HOk.write (ok : HOk P w H h) (mu : Mut (H x)) (he : e = x ∨ H e = some (.own x)) (k : ∀ b u, b ≠ e -> h.get? b = some u -> h'.get? b = some u) (heo : ∃ u, h'.get? e = some u)
  (new : ObjOk P w (upd H x o') h' x o') : HOk P w (upd H x o') h' := fun b u q => by
 have nown : ∀ c y, H c = some (.own y) -> c ≠ x := fun c y r z => by subst z; rw [r] at mu; exact mu
 have ntup : ∀ c xs, H c = some (.tup xs) -> c ≠ x := fun c xs r z => by subst z; rw [r] at mu; exact mu
 by_cases hb : b = x
 ·subst hb; rw [upd_same] at q; cases q; exact new
 ·rw [upd_ne hb] at q
  by_cases hbe : b = e
  ·have q' : H b = some (.own x) := by
    rcases he with z | z
    ·exact absurd (hbe.trans z) hb
    ·rw [hbe]; exact z
   rw [q] at q'; cases q'
   obtain ⟨v, hv⟩ := heo
   exact ⟨v, by rw [hbe]; exact hv⟩
  ·refine (ok b u q).stay (fun c v hc r => k c v ?_ r) (fun c r => by rw [upd_ne (nown c b r)]; exact r) fun c xs r => by rw [upd_ne (ntup c xs r)]; exact r
   rcases hc with rfl | hc
   ·exact hbe
   ·rintro rfl
    rcases he with z | z
    ·exact nown c b hc z
    ·rw [hc] at z; cases z; exact hb rfl
end
structure Un (fs ex : List Addr) (H H' : Hp) (h h' : Heap) : Prop where
 keep : ∀ b o, h.get? b = some o -> H b = none -> b ∉ fs -> b ∉ ex -> h'.get? b = some o
 slot : ∀ b o, h.get? b = some o -> H b = none -> b ∈ fs -> b ∉ ex -> ∃ sl, h'.get? b = some { o with slots := sl }
 free : ∀ b o, h.get? b = some o -> H b = none -> b ∉ ex -> H' b = none
 there : ∀ b o, h.get? b = some o -> b ∉ ex -> ∃ o', h'.get? b = some o'
 tups : ∀ b xs, H b = some (.tup xs) -> H' b = some (.tup xs)
 frzs : ∀ b o u, H b = some (.frz o u) -> H' b = some (.frz o u)
 tbls : ∀ b ps, H b = some (.tbl ps) -> ∃ more, H' b = some (.tbl (ps ++ more))
section
variable {fs fs' ex ex' : List Addr} {H H1 H2 : Hp} {h h1 h2 h' : Heap} {a x e : Addr} {o : HO}
theorem Un.any (u : Un fs ex H H1 h h1) {b : Addr} {ob : Obj} (q : h.get? b = some ob) (n : H b = none) (hx : b ∉ ex) : ∃ sl, h1.get? b = some { ob with slots := sl } := by
 by_cases hb : b ∈ fs
 ·exact u.slot b ob q n hb hx
 ·exact ⟨ob.slots, u.keep b ob q n hb hx⟩
theorem Un.kept (k : ∀ b u, h.get? b = some u -> h'.get? b = some u) : Un fs ex H H h h' :=
 ⟨fun b ob q _ _ _ => k b ob q, fun b ob q _ _ _ => ⟨ob.slots, k b ob q⟩, fun _ _ _ n _ => n, fun b ob q _ => ⟨ob, k b ob q⟩, fun _ _ q => q, fun _ _ _ q => q, fun _ ps q => ⟨#[], by rw [q]; simp⟩⟩
theorem Un.refl : Un fs ex H H h h := Un.kept fun _ _ q => q
theorem Un.laid (k : ∀ b u, h.get? b = some u -> h'.get? b = some u) (hp : h.objs.size <= a) (hn : H a = none) : Un fs ex H (upd H a o) h h' where
 keep := fun b u q _ _ _ => k b u q
 slot := fun b u q _ _ _ => ⟨u.slots, k b u q⟩
 free := fun b u q n _ => by rw [upd_ne (Nat.ne_of_lt (Nat.lt_of_lt_of_le (Heap.lt_size q) hp))]; exact n
 there := fun b u q _ => ⟨u, k b u q⟩
 tups := fun b xs q => by rw [upd_ne (ne_of_none q hn)]; exact q
 frzs := fun b u xs q => by rw [upd_ne (ne_of_none q hn)]; exact q
 tbls := fun b ps q => ⟨#[], by rw [upd_ne (ne_of_none q hn), q]; simp⟩
theorem Un.write (mu : Mut (H x)) (he : e = x ∨ H e = some (.own x)) (k : ∀ b u, b ≠ e -> h.get? b = some u -> h'.get? b = some u) (heo : ∃ u, h'.get? e = some u) : Un fs ex H (upd H x o) h h' := by
 have hx : ∀ b, H b = none -> b ≠ x := fun b n z => by subst z; rw [n] at mu; exact mu
 have hb : ∀ b, H b = none -> b ≠ e := fun b n z => by
  subst z
  rcases he with r | r
  ·exact hx b n r
  ·rw [n] at r; cases r
 have hm : ∀ b u, H b = some u -> ¬ Mut (some u) -> b ≠ x := fun b u q nm z => by subst z; rw [q] at mu; exact nm mu
 refine ⟨fun b u q n _ _ => k b u (hb b n) q, fun b u q n _ _ => ⟨u.slots, k b u (hb b n) q⟩, fun b u q n _ => by rw [upd_ne (hx b n)]; exact n, fun b u q _ => ?_,
  fun b xs q => by rw [upd_ne (hm b _ q fun z => z)]; exact q, fun b u xs q => by rw [upd_ne (hm b _ q fun z => z)]; exact q, fun b ps q => ⟨#[], by rw [upd_ne (hm b _ q fun z => z), q]; simp⟩⟩
 by_cases hbe : b = e
 ·subst hbe; exact heo
 ·exact ⟨u, k b u hbe q⟩
end
def trk (h : Heap) (H : Hp) : List Addr := (List.range h.objs.size).filter fun a => (H a).isSome
def hidT (h : Heap) (H : Hp) : Heap := PySem.W.hideAll h (trk h H)
theorem hidT_size (h : Heap) (H : Hp) : (hidT h H).objs.size = h.objs.size := PySem.W.hideAll_size _ _
theorem hidT_get {h : Heap} {H : Hp} {b : Addr} {o : Obj} (e : h.get? b = some o) (n : H b = none) : (hidT h H).get? b = some o :=
 PySem.W.hideAll_get _ e fun hm => by
  have q : (H b).isSome = true := (List.mem_filter.mp hm).2
  rw [n] at q; simp at q
theorem of_hidT {h : Heap} {H : Hp} {b : Addr} {o : Obj} (e : (hidT h H).get? b = some o) : h.get? b = some o /\ H b = none := by
 have e' : h.get? b = some o := PySem.W.of_hideAll (trk h H) e
 refine ⟨e', ?_⟩
 cases q : H b with
 | none => rfl
 | some x =>
  have hm : b ∈ trk h H := List.mem_filter.mpr ⟨List.mem_range.mpr (Heap.lt_size e'), by simp [q]⟩
  have z : (hidT h H).get? b = none := PySem.W.hideAll_none (trk h H) hm
  rw [z] at e; cases e
def allNews (g h : Heap) (L : Addr) : List (Addr × Obj) := (List.range h.objs.size).filterMap fun a => if a = L ∨ (g.get? a).isSome = true then none else (h.get? a).map fun o => (a, o)
def rest (g h : Heap) (L d : Addr) : List (Addr × Obj) := (allNews g h L).filter fun p => decide (p.1 ≠ d)
structure Mod (K : W.Frag) (mg : Str -> Option Value) (base : Heap) : Prop where
 kin : K.In base
 glob : base.Ns mainGlobals mg
 blt : ∃ mb, base.Ns builtinsNs mb /\ ∀ x : Str, x ≠ "__name__" -> mb x = bootBuiltins x
 nolimit : base.NoLimit
/-- the context: a def's body (or a comprehension's block) running. base: fixed through the whole law; s₀, H₀: the entry; outer: the frames whose slots others may change (a def's callers); stack: all frames that run;
   ex: iterators that were made ahead of the entry and are walked here (a comprehension's); fn: the names whose cells were made at the entry (a def: all; a comprehension's block: its own); calm: not within an except suite; pn: pins that every state bears; xe: what is wanted of an exception that leaves the code -/
structure Cx where
 prog : Program
 w : World
 K : W.Frag
 mg : Str -> Option Value
 base : Heap
 A : Around
 N : List Str
 s₀ : Shared
 H₀ : Hp
 env : Env
 outer : List Env
 stack : List Env
 ex : List Addr
 fn : Str -> Bool
 calm : Bool
 pn : List (Addr × Obj)
 xe : Value -> Shared -> Prop
def frs (l : List Env) : List Addr := l.filterMap (·.frame)
abbrev Cx.fs (X : Cx) : List Addr := frs X.outer
def Vis (sc : Scope) (x : Str) : Prop := sc.names.lookup x = some .local ∨ sc.names.lookup x = some .cell ∨ sc.names.lookup x = some .free
def Loc (sc : Scope) (x : Str) : Prop := sc.names.lookup x = some .local ∨ sc.names.lookup x = some .cell
def Look (env : Env) (h : Heap) (m : Str -> Option Value) (x : Str) (u : Value) : Prop :=
 (env.kindOf x = some .local /\ m x = some u) ∨ ((env.kindOf x = some .cell ∨ env.kindOf x = some .free) /\ ∃ c, env.cells.lookup x = some c /\ h.IsCell c (some u))
structure Cx.Ok (X : Cx) : Prop where
 mod : Mod X.K X.mg X.base
 kind : X.env.scope.kind = .function
 glob : X.env.globals = mainGlobals
 blt : X.env.builtins = builtinsNs
 above : X.s₀.heap.objs.size <= X.env.locals
 inj : ∀ x y c, X.env.cells.lookup x = some c -> X.env.cells.lookup y = some c -> x = y
 has : ∀ x, (X.env.kindOf x = some .cell ∨ X.env.kindOf x = some .free) -> ∃ c, X.env.cells.lookup x = some c
 cab : ∀ x c, X.fn x = true -> X.env.cells.lookup x = some c -> X.s₀.heap.objs.size <= c
 hd : X.calm = true -> X.A.handled = none
 frames : X.A.frames = some X.stack
 stk : X.stack = X.outer ∨ (X.stack = X.env :: X.outer /\ X.env.frame = some X.env.locals)
 exf : ∀ b ∈ X.ex, b ≠ X.env.locals /\ ∀ x c, X.env.cells.lookup x = some c -> c ≠ b
 bs : ∀ b o, X.base.get? b = some o -> X.s₀.heap.get? b = some o /\ X.H₀ b = none
 bsz : X.base.objs.size <= X.s₀.heap.objs.size
 noex : ∀ b o, X.base.get? b = some o -> b ∉ X.ex
 exfs : ∀ b ∈ X.ex, b ∉ X.fs
 funs : X.s₀.heap.FunFrames X.base X.outer
 frf : ∀ b ∈ X.fs, X.H₀ b = none
structure Inv (X : Cx) (pins : List (Addr × Obj)) (σ : List (Option V)) (H : Hp) (s : Shared) : Prop where
 ok : X.Ok
 os : s.os = X.s₀.os
 bare : AllBare s.gens
 base : Un X.fs X.ex X.H₀ H X.s₀.heap s.heap
 loc : ∃ m, s.heap.Ns X.env.locals m /\ ∀ (i : Nat) (x : Str) (v : V), X.N[i]? = some x -> σ[i]? = some (some v) -> Vis X.env.scope x -> ∃ u, RelV v u /\ Look X.env s.heap m x u
 cell : ∀ x c, X.env.cells.lookup x = some c -> ∃ v, s.heap.IsCell c v
 free : H X.env.locals = none
 freeC : ∀ x c, X.env.cells.lookup x = some c -> H c = none
 pin : ∀ p ∈ X.pn ++ pins, s.heap.get? p.1 = some p.2 /\ H p.1 = none /\ p.1 ≠ X.env.locals /\ p.1 ∉ X.fs /\ ∀ v, p.2.data ≠ .cell v
 hok : HOk X.prog X.w H s.heap
 len : σ.length = X.N.length
section
variable {X : Cx} {pins : List (Addr × Obj)} {σ : List (Option V)} {H H' : Hp} {s : Shared} {h' : Heap}
theorem Cx.Ok.nofr (ok : X.Ok) {b : Addr} {o : Obj} (e : X.base.get? b = some o) : b ∉ X.fs := fun hb => by
 have := (ok.funs.mem hb).1
 rw [e] at this; cases this
theorem Inv.bs (I : Inv X pins σ H s) : ∀ b o, X.base.get? b = some o -> s.heap.get? b = some o /\ H b = none := fun b o e =>
 ⟨I.base.keep b o (I.ok.bs b o e).1 (I.ok.bs b o e).2 (I.ok.nofr e) (I.ok.noex b o e), I.base.free b o (I.ok.bs b o e).1 (I.ok.bs b o e).2 (I.ok.noex b o e)⟩
theorem Inv.bk (I : Inv X pins σ H s) : ∀ b o, X.base.get? b = some o -> s.heap.get? b = some o := fun b o e => (I.bs b o e).1
theorem Inv.mod (I : Inv X pins σ H s) : Mod X.K X.mg X.base := I.ok.mod
theorem Inv.kIn (I : Inv X pins σ H s) : X.K.In s.heap := I.ok.mod.kin.keeps I.bk
theorem Inv.lt (I : Inv X pins σ H s) : X.env.locals < s.heap.objs.size := let ⟨_, hn, _⟩ := I.loc; hn.lt
theorem Inv.sz (I : Inv X pins σ H s) : X.s₀.heap.objs.size <= s.heap.objs.size := Nat.le_trans I.ok.above (Nat.le_of_lt I.lt)
theorem Inv.nofs (I : Inv X pins σ H s) {a : Addr} (h : s.heap.objs.size <= a) : a ∉ X.fs := fun hb => by
 obtain ⟨_, o, ho, _⟩ := I.ok.funs.mem hb
 exact absurd (Nat.lt_of_lt_of_le (Heap.lt_size ho) (Nat.le_trans I.sz h)) (Nat.lt_irrefl _)
theorem Inv.cne (I : Inv X pins σ H s) : ∀ x c, X.env.cells.lookup x = some c -> c ≠ X.env.locals := fun x c e z => by
 obtain ⟨v, o, ho, hd⟩ := I.cell x c e
 obtain ⟨m, ⟨o', es, ep, ho', hd', _⟩, _⟩ := I.loc
 rw [z, ho'] at ho; cases ho; rw [hd'] at hd; cases hd
theorem Inv.funs (I : Inv X pins σ H s) : s.heap.FunFrames X.base X.outer := by
 have all : ∀ (l : List Env), (∀ b ∈ frs l, b ∈ X.fs) -> X.s₀.heap.FunFrames X.base l -> s.heap.FunFrames X.base l := by
  intro l
  induction l with
  | nil => intro _ _; trivial
  | cons env r ih =>
   intro hs hl
   obtain ⟨hk, ⟨L, o, hf, hn, ho, hd⟩, hr⟩ := hl
   have hL : L ∈ X.fs := hs L (by unfold frs; rw [List.filterMap_cons, hf]; exact List.mem_cons_self)
   obtain ⟨sl, e⟩ := I.base.slot L o ho (I.ok.frf L hL) hL fun z => I.ok.exfs L z hL
   exact ⟨hk, ⟨L, _, hf, hn, e, hd⟩, ih (fun b hb => hs b (by unfold frs; rw [List.filterMap_cons, hf]; exact List.mem_cons_of_mem _ hb)) hr⟩
 exact all X.outer (fun _ hb => hb) I.ok.funs
theorem Inv.stack (I : Inv X pins σ H s) : s.heap.FunFrames X.base X.stack := by
 rcases I.ok.stk with e | ⟨e, hf⟩
 ·rw [e]; exact I.funs
 ·rw [e]
  obtain ⟨m, hn, _⟩ := I.loc
  refine .cons (by rw [I.ok.kind]; decide) hf hn ?_ I.funs
  exact Heap.get?_none_of_le (Nat.le_trans I.ok.bsz I.ok.above)
theorem Inv.stkSub (I : Inv X pins σ H s) : ∀ b ∈ frs X.stack, b ∈ X.env.locals :: X.fs := fun b hb => by
 rcases I.ok.stk with e | ⟨e, hf⟩
 ·rw [e] at hb; exact List.mem_cons_of_mem _ hb
 ·rw [e] at hb
  unfold frs at hb
  rw [List.filterMap_cons, hf] at hb
  exact hb
theorem Inv.stkFree (I : Inv X pins σ H s) : ∀ b ∈ frs X.stack, H b = none := fun b hb => by
 rcases List.mem_cons.mp (I.stkSub b hb) with e | hb
 ·rw [e]; exact I.free
 ·obtain ⟨_, o, ho, _⟩ := I.ok.funs.mem hb
  exact I.base.free b o ho (I.ok.frf b hb) fun z => I.ok.exfs b z hb
theorem Inv.step {g' : Array GenState} {t' : Nat} {d' : Drawn} {ch : List Addr} (I : Inv X pins σ H s)
  (hch : ∀ b ∈ ch, (b ∈ X.ex ∨ X.s₀.heap.objs.size <= b) /\ b ≠ X.env.locals /\ (∀ x c, X.env.cells.lookup x = some c -> c ≠ b) /\ ∀ p ∈ X.pn ++ pins, p.1 ≠ b)
  (keep : ∀ b o, b ≠ X.env.locals -> b ∉ X.fs -> b ∉ ch -> s.heap.get? b = some o -> H b = none -> h'.get? b = some o)
  (slot : ∀ b o, b ≠ X.env.locals -> b ∈ X.fs -> b ∉ ch -> s.heap.get? b = some o -> H b = none -> ∃ sl, h'.get? b = some { o with slots := sl }) (free : ∀ b o, b ∉ ch -> s.heap.get? b = some o -> H b = none -> H' b = none)
  (there : ∀ b o, b ∉ ch -> s.heap.get? b = some o -> ∃ o', h'.get? b = some o')
  (tups : ∀ b xs, H b = some (.tup xs) -> H' b = some (.tup xs)) (frzs : ∀ b o u, H b = some (.frz o u) -> H' b = some (.frz o u)) (tbls : ∀ b ps, H b = some (.tbl ps) -> ∃ more, H' b = some (.tbl (ps ++ more)))
  (ns : ∀ m, s.heap.Ns X.env.locals m -> h'.Ns X.env.locals m) (hok : HOk X.prog X.w H' h') (hg : AllBare g') :
  Inv X pins σ H' { s with heap := h', gens := g', drawn := d', toks := t' } := by
 have neL : ∀ b o, X.s₀.heap.get? b = some o -> b ≠ X.env.locals := fun b o e => Nat.ne_of_lt (Nat.lt_of_lt_of_le (Heap.lt_size e) I.ok.above)
 have neC : ∀ b o, X.s₀.heap.get? b = some o -> b ∉ X.ex -> b ∉ ch := fun b o e hx hb => by
  rcases (hch b hb).1 with z | z
  ·exact hx z
  ·exact absurd (Nat.lt_of_lt_of_le (Heap.lt_size e) z) (Nat.lt_irrefl _)
 have cellK : ∀ x c, X.env.cells.lookup x = some c -> ∀ v, s.heap.IsCell c v -> h'.IsCell c v := fun x c e v ⟨o, ho, hd⟩ => by
  have nch : c ∉ ch := fun z => (hch c z).2.2.1 x c e rfl
  by_cases hc : c ∈ X.fs
  ·obtain ⟨sl, q⟩ := slot c o (I.cne x c e) hc nch ho (I.freeC x c e)
   exact ⟨_, q, hd⟩
  ·exact ⟨o, keep c o (I.cne x c e) hc nch ho (I.freeC x c e), hd⟩
 refine ⟨I.ok, I.os, hg, ⟨fun b o e n hb hx => ?_, fun b o e n hb hx => ?_, fun b o e n hx => ?_, fun b o e hx => ?_, fun b xs e => tups b xs (I.base.tups b xs e), fun b o xs e => frzs b o xs (I.base.frzs b o xs e), fun b ps e => ?_⟩, ?_, fun x c e => ?_, ?_, fun x c e => ?_, fun p hp => ?_, hok, I.len⟩
 ·exact keep b o (neL b o e) hb (neC b o e hx) (I.base.keep b o e n hb hx) (I.base.free b o e n hx)
 ·obtain ⟨sl, e1⟩ := I.base.slot b o e n hb hx
  obtain ⟨sl', e2⟩ := slot b _ (neL b o e) hb (neC b o e hx) e1 (I.base.free b o e n hx)
  exact ⟨sl', e2⟩
 ·obtain ⟨o', e1⟩ := I.base.there b o e hx
  exact free b o' (neC b o e hx) e1 (I.base.free b o e n hx)
 ·obtain ⟨o', e1⟩ := I.base.there b o e hx
  exact there b o' (neC b o e hx) e1
 ·obtain ⟨m1, e1⟩ := I.base.tbls b ps e
  obtain ⟨m2, e2⟩ := tbls b _ e1
  exact ⟨m1 ++ m2, by rw [e2, Array.append_assoc]⟩
 ·obtain ⟨m, hn, hl⟩ := I.loc
  refine ⟨m, ns m hn, fun i x v e1 e2 e3 => ?_⟩
  obtain ⟨u, r, l⟩ := hl i x v e1 e2 e3
  refine ⟨u, r, ?_⟩
  rcases l with l | ⟨k, c, e, z⟩
  ·exact .inl l
  ·exact .inr ⟨k, c, e, cellK x c e _ z⟩
 ·obtain ⟨v, z⟩ := I.cell x c e
  exact ⟨v, cellK x c e v z⟩
 ·obtain ⟨m, ⟨o, _, _, ho, _⟩, _⟩ := I.loc
  exact free _ o (fun z => (hch _ z).2.1 rfl) ho I.free
 ·obtain ⟨v, o, ho, hd⟩ := I.cell x c e
  exact free c o (fun z => (hch c z).2.2.1 x c e rfl) ho (I.freeC x c e)
 ·obtain ⟨e, n, ne, nf, d⟩ := I.pin p hp
  have nch : p.1 ∉ ch := fun z => (hch p.1 z).2.2.2 p hp rfl
  exact ⟨keep p.1 p.2 ne nf nch e n, free p.1 p.2 nch e n, ne, nf, d⟩
theorem Inv.un {t' : Nat} (I : Inv X pins σ H s) (u : Un X.fs [] H H' s.heap h') (hok : HOk X.prog X.w H' h') : Inv X pins σ H' { s with heap := h', toks := t' } := by
 obtain ⟨m, ⟨o, es, ep, ho, r⟩, _⟩ := id I.loc
 obtain ⟨sl, hL⟩ := u.any ho I.free (by simp)
 exact I.step (g' := s.gens) (d' := s.drawn) (ch := []) (fun _ z => nomatch z) (fun b o _ hb _ e n => u.keep b o e n hb (by simp)) (fun b o _ hb _ e n => u.slot b o e n hb (by simp)) (fun b o _ e n => u.free b o e n (by simp)) (fun b o _ e => u.there b o e (by simp)) u.tups u.frzs u.tbls (fun m' hm => by
  obtain ⟨o', es', ep', ho', r'⟩ := hm
  rw [ho] at ho'; cases ho'
  exact ⟨_, es', ep', hL, r'⟩) hok I.bare
theorem Inv.call {g' : Array GenState} {t' : Nat} {d' : Drawn} {ch : List Addr} (I : Inv X pins σ H s) (u : Un (frs X.stack) ch H H' s.heap h') (hok : HOk X.prog X.w H' h') (hg : AllBare g')
  (hch : ∀ b ∈ ch, (b ∈ X.ex ∨ X.s₀.heap.objs.size <= b) /\ b ≠ X.env.locals /\ (∀ x c, X.env.cells.lookup x = some c -> c ≠ b) /\ ∀ p ∈ X.pn ++ pins, p.1 ≠ b) :
  Inv X pins σ H' { s with heap := h', gens := g', drawn := d', toks := t' } := by
 obtain ⟨m, ⟨o, es, ep, ho, r⟩, _⟩ := id I.loc
 obtain ⟨sl, hL⟩ := u.any ho I.free fun z => (hch _ z).2.1 rfl
 exact I.step (ch := ch) hch (fun b o hL hb hc e n => u.keep b o e n (fun z => (List.mem_cons.mp (I.stkSub b z)).elim hL hb) hc) (fun b o _ _ hc e n => u.any e n hc) (fun b o hc e n => u.free b o e n hc) (fun b o hc e => u.there b o e hc) u.tups u.frzs u.tbls (fun m' hm => by
  obtain ⟨o', es', ep', ho', r'⟩ := hm
  rw [ho] at ho'; cases ho'
  exact ⟨_, es', ep', hL, r'⟩) hok hg
theorem Inv.turned {t' : Nat} {it : Addr} (I : Inv X pins σ H s) (k : ∀ b o, b ≠ it -> s.heap.get? b = some o -> h'.get? b = some o) (hn : H it = none) (hL : it ≠ X.env.locals)
  (h1 : it ∈ X.ex ∨ X.s₀.heap.objs.size <= it) (h2 : ∀ x c, X.env.cells.lookup x = some c -> c ≠ it) (h3 : ∀ p ∈ X.pn ++ pins, p.1 ≠ it) : Inv X pins σ H { s with heap := h', toks := t' } := by
 have nit : ∀ b u, H b = some u -> b ≠ it := fun b u e z => by rw [z, hn] at e; cases e
 refine I.step (g' := s.gens) (d' := s.drawn) (ch := [it]) (fun b hb => ?_) (fun b o _ _ hc e _ => k b o (fun z => hc (by simp [z])) e) (fun b o _ _ hc e _ => ⟨o.slots, k b o (fun z => hc (by simp [z])) e⟩) (fun _ _ _ _ n => n)
  (fun b o hc e => ⟨o, k b o (fun z => hc (by simp [z])) e⟩) (fun _ _ e => e) (fun _ _ _ e => e) (fun b ps e => ⟨#[], by rw [e]; simp⟩) (fun m hm => ?_) (fun b u e => ?_) I.bare
 ·have e : b = it := by simpa using hb
  subst e
  exact ⟨h1, hL, h2, h3⟩
 ·obtain ⟨o, es, ep, ho, r⟩ := hm
  exact ⟨o, es, ep, k _ o (Ne.symm hL) ho, r⟩
 ·refine (I.hok b u e).stay (fun c v hc q => k c v ?_ q) (fun _ q => q) fun _ _ q => q
  rcases hc with z | z
  ·rw [z]; exact nit b u e
  ·exact nit c _ z
theorem Inv.tok (I : Inv X pins σ H s) (t : Nat) : Inv X pins σ H { s with toks := t } := I.un (h' := s.heap) (t' := t) Un.refl I.hok
theorem Inv.kept {t' : Nat} (I : Inv X pins σ H s) (k : ∀ b u, s.heap.get? b = some u -> h'.get? b = some u) : Inv X pins σ H { s with heap := h', toks := t' } := I.un (Un.kept k) (I.hok.kept k)
theorem Inv.laid {a : Addr} {o : HO} {t' : Nat} (I : Inv X pins σ H s) (k : ∀ b u, s.heap.get? b = some u -> h'.get? b = some u) (hp : s.heap.objs.size <= a) (new : ObjOk X.prog X.w (upd H a o) h' a o) :
  Inv X pins σ (upd H a o) { s with heap := h', toks := t' } := I.un (Un.laid k hp (I.hok.fresh hp)) (I.hok.laid k hp new)
theorem Inv.write {x e : Addr} {o : HO} {t' : Nat} (I : Inv X pins σ H s) (mu : Mut (H x)) (he : e = x ∨ H e = some (.own x)) (k : ∀ b u, b ≠ e -> s.heap.get? b = some u -> h'.get? b = some u) (heo : ∃ u, h'.get? e = some u)
  (new : ObjOk X.prog X.w (upd H x o) h' x o) : Inv X pins σ (upd H x o) { s with heap := h', toks := t' } := I.un (Un.write mu he k heo) (I.hok.write mu he k heo new)
theorem Inv.weak {σ' : List (Option V)} (I : Inv X pins σ H s) (hl : σ'.length = σ.length) (w : ∀ (i : Nat) v, σ'[i]? = some (some v) -> σ[i]? = some (some v)) : Inv X pins σ' H s :=
 ⟨I.ok, I.os, I.bare, I.base, let ⟨m, hn, hl'⟩ := I.loc; ⟨m, hn, fun i x v e1 e2 e3 => hl' i x v e1 (w i v e2) e3⟩, I.cell, I.free, I.freeC, I.pin, I.hok, hl.trans I.len⟩
theorem Inv.pins_of {pins' : List (Addr × Obj)} (I : Inv X pins σ H s) (h : ∀ p ∈ pins', s.heap.get? p.1 = some p.2 /\ H p.1 = none /\ p.1 ≠ X.env.locals /\ p.1 ∉ X.fs /\ ∀ v, p.2.data ≠ .cell v) : Inv X pins' σ H s :=
 ⟨I.ok, I.os, I.bare, I.base, I.loc, I.cell, I.free, I.freeC, fun p hp => (List.mem_append.mp hp).elim (fun z => I.pin p (List.mem_append_left _ z)) (h p), I.hok, I.len⟩
theorem nodup_ix {N : List Str} (hN : N.Nodup) {i j : Nat} {x : Str} (a : N[i]? = some x) (b : N[j]? = some x) : i = j := by
 obtain ⟨h1, e1⟩ := List.getElem?_eq_some_iff.mp a
 obtain ⟨h2, e2⟩ := List.getElem?_eq_some_iff.mp b
 exact (List.getElem_inj hN).mp (e1.trans e2.symm)
theorem store_ok2 {M : Model} {A : Around} {E : Value -> Shared -> Prop} {i : Nat} {x : Str} {v : V} {u : Value} {Q : Unit -> Shared -> Prop} (I : Inv X pins σ H s) (hN : X.N.Nodup) (hi : X.N[i]? = some x) (hx : Loc X.env.scope x) (r : RelV v u)
  (h : ∀ s', Inv X pins (σ.set i (some v)) H s' -> (∃ a, Heap.SameBut a s.heap s'.heap /\ (a = X.env.locals ∨ X.env.cells.lookup x = some a)) -> Q () s') (hf : X.fn x = true ∨ X.env.scope.names.lookup x = some .local := by first | exact .inl rfl | exact .inr rfl | assumption) : wpAny M A (storeName X.env x u) Q E s := by
 obtain ⟨m, hn, hl⟩ := id I.loc
 have hcls : (X.env.scope.kind == .class || (X.env.scope.kind == .module && X.env.locals != X.env.globals)) = false := by rw [I.ok.kind]; rfl
 have hiσ : i < σ.length := by rw [I.len]; exact (List.getElem?_eq_some_iff.mp hi).1
 have cne := I.cne
 have tracked : ∀ {a : Addr} {h' : Heap}, (∃ o, s.heap.get? a = some o /\ H a = none) -> Heap.SameBut a s.heap h' -> HOk X.prog X.w H h' := fun {a h'} ha hs b ob e => by
  obtain ⟨_, _, hfree⟩ := ha
  refine (I.hok b ob e).stay (fun c w' hc q => (hs.2 c ?_).trans q) (fun _ q => q) fun _ _ q => q
  rintro rfl
  rcases hc with rfl | hc
  ·rw [hfree] at e; cases e
  ·rw [hfree] at hc; cases hc
 rcases hx with hk | hk
 ·refine wpAny_storeName_local hk hn (fun h' hn' hs => ?_) hcls
  obtain ⟨oL, _, _, hoL, _⟩ := id hn
  refine h _ ⟨I.ok, I.os, I.bare, ⟨fun b o e n hb hx => ?_, fun b o e n hb hx => ?_, I.base.free, fun b o e hx => ?_, I.base.tups, I.base.frzs, I.base.tbls⟩, ⟨_, hn', fun j y v' e1 e2 e3 => ?_⟩, fun y c e => ?_, I.free, I.freeC, fun p hp => ?_, tracked ⟨oL, hoL, I.free⟩ hs, by simpa using I.len⟩ ⟨_, hs, .inl rfl⟩
  ·exact (hs.2 b (Nat.ne_of_lt (Nat.lt_of_lt_of_le (Heap.lt_size e) I.ok.above))).trans (I.base.keep b o e n hb hx)
  ·obtain ⟨sl, e1⟩ := I.base.slot b o e n hb hx
   exact ⟨sl, (hs.2 b (Nat.ne_of_lt (Nat.lt_of_lt_of_le (Heap.lt_size e) I.ok.above))).trans e1⟩
  ·obtain ⟨o', e1⟩ := I.base.there b o e hx
   exact ⟨o', (hs.2 b (Nat.ne_of_lt (Nat.lt_of_lt_of_le (Heap.lt_size e) I.ok.above))).trans e1⟩
  ·by_cases hj : j = i
   ·subst hj
    rw [hi] at e1; cases e1
    rw [List.getElem?_set_self hiσ] at e2
    cases e2
    exact ⟨u, r, .inl ⟨hk, by simp⟩⟩
   ·rw [List.getElem?_set_ne (Ne.symm hj)] at e2
    obtain ⟨u', r', q⟩ := hl j y v' e1 e2 e3
    refine ⟨u', r', ?_⟩
    rcases q with ⟨k, e⟩ | ⟨k, c, e, z⟩
    ·refine .inl ⟨k, ?_⟩
     have : y ≠ x := fun e => hj (nodup_ix hN e1 (e ▸ hi))
     simp [this, e]
    ·exact .inr ⟨k, c, e, z.sameBut hs (cne y c e)⟩
  ·obtain ⟨w', z⟩ := I.cell y c e
   exact ⟨w', z.sameBut hs (cne y c e)⟩
  ·obtain ⟨e, n, ne, nf, d⟩ := I.pin p hp
   exact ⟨(hs.2 p.1 ne).trans e, n, ne, nf, d⟩
 ·have hfn : X.fn x = true := by
   rcases hf with z | z
   ·exact z
   ·rw [z] at hk; cases hk
  obtain ⟨c, hc⟩ := I.ok.has x (.inl hk)
  obtain ⟨w', z⟩ := I.cell x c hc
  refine wpAny_storeName_cell I.ok.kind hk hc z (fun h' hc' hs => ?_)
  obtain ⟨oc, hoc, hocd⟩ := id z
  refine h { s with heap := h' } ⟨I.ok, I.os, I.bare, ⟨fun b o e n hb hx => ?_, fun b o e n hb hx => ?_, I.base.free, fun b o e hx => ?_, I.base.tups, I.base.frzs, I.base.tbls⟩, ⟨m, hn.sameBut hs (Ne.symm (cne x c hc)), fun j y v' e1 e2 e3 => ?_⟩, fun y c' e => ?_, I.free, I.freeC, fun p hp => ?_, tracked ⟨oc, hoc, I.freeC x c hc⟩ hs, by simpa using I.len⟩ ⟨c, hs, .inr hc⟩
  ·exact (hs.2 b (Nat.ne_of_lt (Nat.lt_of_lt_of_le (Heap.lt_size e) (I.ok.cab x c hfn hc)))).trans (I.base.keep b o e n hb hx)
  ·obtain ⟨sl, e1⟩ := I.base.slot b o e n hb hx
   exact ⟨sl, (hs.2 b (Nat.ne_of_lt (Nat.lt_of_lt_of_le (Heap.lt_size e) (I.ok.cab x c hfn hc)))).trans e1⟩
  ·obtain ⟨o', e1⟩ := I.base.there b o e hx
   exact ⟨o', (hs.2 b (Nat.ne_of_lt (Nat.lt_of_lt_of_le (Heap.lt_size e) (I.ok.cab x c hfn hc)))).trans e1⟩
  ·by_cases hj : j = i
   ·subst hj
    rw [hi] at e1; cases e1
    rw [List.getElem?_set_self hiσ] at e2
    cases e2
    exact ⟨u, r, .inr ⟨.inl hk, c, hc, hc'⟩⟩
   ·rw [List.getElem?_set_ne (Ne.symm hj)] at e2
    obtain ⟨u', r', q⟩ := hl j y v' e1 e2 e3
    refine ⟨u', r', ?_⟩
    rcases q with q | ⟨k, c', e, z'⟩
    ·exact .inl q
    ·refine .inr ⟨k, c', e, z'.sameBut hs ?_⟩
     rintro rfl
     exact hj (nodup_ix hN e1 (I.ok.inj _ _ _ e hc ▸ hi))
  ·by_cases hcc : c' = c
   ·subst hcc; exact ⟨_, hc'⟩
   ·obtain ⟨w2, z2⟩ := I.cell y c' e
    exact ⟨w2, z2.sameBut hs hcc⟩
  ·obtain ⟨e, n, ne, nf, d⟩ := I.pin p hp
   refine ⟨(hs.2 p.1 ?_).trans e, n, ne, nf, d⟩
   intro q
   rw [q, hoc] at e
   have q' : oc = p.2 := Option.some.inj e
   exact d w' (by rw [<- q']; exact hocd)
theorem store_ok {M : Model} {A : Around} {E : Value -> Shared -> Prop} {i : Nat} {x : Str} {v : V} {u : Value} {Q : Unit -> Shared -> Prop} (I : Inv X pins σ H s) (hN : X.N.Nodup) (hi : X.N[i]? = some x) (hx : Loc X.env.scope x) (r : RelV v u)
  (h : ∀ s', Inv X pins (σ.set i (some v)) H s' -> Q () s') (hf : X.fn x = true ∨ X.env.scope.names.lookup x = some .local := by first | exact .inl rfl | exact .inr rfl | assumption) : wpAny M A (storeName X.env x u) Q E s :=
 store_ok2 I hN hi hx r (fun s' I' _ => h s' I') hf
theorem Inv.call' {s' : Shared} {ch : List Addr} (I : Inv X pins σ H s) (ho : s'.os = s.os) (u : Un (frs X.stack) ch H H' s.heap s'.heap) (hok : HOk X.prog X.w H' s'.heap) (hg : AllBare s'.gens)
  (hch : ∀ b ∈ ch, (b ∈ X.ex ∨ X.s₀.heap.objs.size <= b) /\ b ≠ X.env.locals /\ (∀ x c, X.env.cells.lookup x = some c -> c ≠ b) /\ ∀ p ∈ X.pn ++ pins, p.1 ≠ b) : Inv X pins σ H' s' := by
 obtain ⟨h', g', d', t', o'⟩ := s'
 have e : o' = s.os := ho
 subst e
 exact I.call (g' := g') (t' := t') (d' := d') u hok hg hch
end
abbrev XK := Value -> Option Addr -> Hp -> Prop
abbrev St := List (Option V)
abbrev VK := V -> Hp -> Prop
abbrev TE := St -> Hp -> VK -> Prop
abbrev TT := St -> Hp -> (Bool -> Hp -> Prop) -> Prop
abbrev TA := St -> Hp -> (List V -> Hp -> Prop) -> Prop
structure Ends where
 nx : St -> Hp -> Prop
 rt : VK
 bk : St -> Hp -> Prop := fun _ _ => False
 ct : St -> Hp -> Prop := fun _ _ => False
abbrev TS := Ends -> St -> Hp -> Prop
def EP (X : Cx) (pins : List (Addr × Obj)) (σ : St) (Q : VK) (u : Value) (s' : Shared) : Prop := ∃ v H', Inv X pins σ H' s' /\ RelV v u /\ Q v H'
def TP (X : Cx) (pins : List (Addr × Obj)) (σ : St) (Q : Bool -> Hp -> Prop) (b : Bool) (s' : Shared) : Prop := ∃ H', Inv X pins σ H' s' /\ Q b H'
def AP (X : Cx) (pins : List (Addr × Obj)) (σ : St) (Q : List V -> Hp -> Prop) (us : List Value) (s' : Shared) : Prop := ∃ vs H', Inv X pins σ H' s' /\ Vals vs us /\ Q vs H'
def SP (X : Cx) (pins : List (Addr × Obj)) (D : Ends) (f : Flow) (s' : Shared) : Prop :=
 match f with
 | .next => ∃ σ' H', Inv X pins σ' H' s' /\ D.nx σ' H'
 | .brk => ∃ σ' H', Inv X pins σ' H' s' /\ D.bk σ' H'
 | .cont => ∃ σ' H', Inv X pins σ' H' s' /\ D.ct σ' H'
 | .ret u => ∃ v σ' H', Inv X pins σ' H' s' /\ RelV v u /\ D.rt v H'
def PE (X : Cx) (e : Expr) (t : TE) : Prop :=
 ∀ (pins : List (Addr × Obj)) (s : Shared) (σ : St) (H : Hp) (Q : VK), Inv X pins σ H s -> t σ H Q -> wpAny (model X.prog X.w) X.A (eval e X.env) (EP X pins σ Q) X.xe s
def PT (X : Cx) (e : Expr) (t : TT) : Prop :=
 ∀ (pins : List (Addr × Obj)) (s : Shared) (σ : St) (H : Hp) (Q : Bool -> Hp -> Prop), Inv X pins σ H s -> t σ H Q -> wpAny (model X.prog X.w) X.A (isTrue e X.env (eval e X.env)) (TP X pins σ Q) X.xe s
def PW (X : Cx) (e : Expr) (t : TT) : Prop :=
 ∀ (whole : Sem Value) (pins : List (Addr × Obj)) (s : Shared) (σ : St) (H : Hp) (Q : Bool -> Hp -> Prop), Inv X pins σ H s -> t σ H Q -> wpAny (model X.prog X.w) X.A (isTrue e X.env whole) (TP X pins σ Q) X.xe s
theorem PW.pt {X : Cx} {e : Expr} {t : TT} (h : PW X e t) : PT X e t := h _
def PA (X : Cx) (es : List Expr) (t : TA) : Prop :=
 ∀ (pos : Pos) (pins : List (Addr × Obj)) (s : Shared) (σ : St) (H : Hp) (Q : List V -> Hp -> Prop), Inv X pins σ H s -> t σ H Q -> wpAny (model X.prog X.w) X.A (spliced (backTo pos (starEach es X.env))) (AP X pins σ Q) X.xe s
def PS (X : Cx) (st : Stmt) (t : TS) : Prop :=
 ∀ (pins : List (Addr × Obj)) (s : Shared) (σ : St) (H : Hp) (D : Ends), Inv X pins σ H s -> t D σ H -> wpAny (model X.prog X.w) X.A (exec st X.env) (SP X pins D) X.xe s
def PSs (X : Cx) (st : List Stmt) (t : TS) : Prop :=
 ∀ (pins : List (Addr × Obj)) (s : Shared) (σ : St) (H : Hp) (D : Ends), Inv X pins σ H s -> t D σ H -> wpAny (model X.prog X.w) X.A (execs st X.env) (SP X pins D) X.xe s
theorem thn {α : Type} {t : Sem α} {Q Q' : α -> Shared -> Prop} {M : Model} {A : Around} {E : Value -> Shared -> Prop} {s : Shared} (h : wpAny M A t Q E s) (hQ : ∀ a s, Q a s -> Q' a s) : wpAny M A t Q' E s := wpAny_mono h hQ fun _ _ x => x
section
variable {X : Cx}
def tVar (i : Nat) : TE := fun σ H Q => ∃ v, σ[i]? = some (some v) /\ Q v H
def tC (v : V) : TE := fun _ H Q => Q v H
theorem pe_var {i : Nat} {x : Str} {pos : Pos} (hN : X.N[i]? = some x) (hv : Vis X.env.scope x) (hd : (x == ("__debug__" : Str)) = false := by decide) (hcd : (x == ("__classdict__" : Str)) = false := by decide) : PE X (.Name x pos) (tVar i) := by
 intro pins s σ H Q I h
 obtain ⟨v, e, h⟩ := h
 obtain ⟨m, hn, hl⟩ := I.loc
 obtain ⟨u, r, l⟩ := hl i x v hN e hv
 have fin : EP X pins σ Q u s := ⟨v, H, I, r, h⟩
 rcases l with ⟨hk, hm⟩ | ⟨hk, c, hc, hcell⟩
 ·exact wpAny_Name (wpAny_loadName_local I.ok.kind hk hn hm fin) hd
 ·rcases hk with hk | hk
  ·exact wpAny_Name (wpAny_loadName_cell I.ok.kind hk hc hcell fin) hd
  ·exact wpAny_Name (wpAny_loadName_free I.ok.kind hk hc hcell fin hcd) hd
theorem pe_int {i j pos} : PE X (.Constant (.int i) j pos) (tC (.int i)) := fun _ _ _ H _ I h => wpAny_Constant_int ⟨.int i, H, I.tok _, ⟨_, rfl⟩, h⟩
theorem pe_bl {b j pos} : PE X (.Constant (.bool b) j pos) (tC (.bl b)) := fun _ _ _ H _ I h => Constant_bool ⟨.bl b, H, I, rfl, h⟩
theorem pe_non {j pos} : PE X (.Constant .none j pos) (tC .non) := fun _ _ _ H _ I h => Constant_none ⟨.non, H, I, rfl, h⟩
def Gl (X : Cx) (x : Str) : Prop := X.env.kindOf x = some .globalImplicit
theorem ld_glob {E : Value -> Shared -> Prop} {pins : List (Addr × Obj)} {s : Shared} {σ : St} {H : Hp} {x : Str} {u : Value} {pos : Pos} {Q : Value -> Shared -> Prop} (I : Inv X pins σ H s) (hg : Gl X x) (hm : X.mg x = some u) (h : Q u s)
  (hd : (x == ("__debug__" : Str)) = false := by decide) : wpAny (model X.prog X.w) X.A (eval (.Name x pos) X.env) Q E s :=
 Calls.Name_function_global I.ok.kind hg (Calls.loadGlobal_global (by rw [I.ok.glob]; exact I.mod.glob.keeps I.bk) hm h) hd
theorem ld_blt {E : Value -> Shared -> Prop} {pins : List (Addr × Obj)} {s : Shared} {σ : St} {H : Hp} {x : Str} {u : Value} {pos : Pos} {Q : Value -> Shared -> Prop} (I : Inv X pins σ H s) (hg : Gl X x) (hm : X.mg x = none) (hv : bootBuiltins x = some u) (h : Q u s)
  (hn : x ≠ "__name__" := by decide) (hd : (x == ("__debug__" : Str)) = false := by decide) : wpAny (model X.prog X.w) X.A (eval (.Name x pos) X.env) Q E s := by
 obtain ⟨mb, h1, h2⟩ := I.mod.blt
 exact Calls.Name_function_global I.ok.kind hg (Calls.loadGlobal_builtin (by rw [I.ok.glob]; exact I.mod.glob.keeps I.bk) hm (by rw [I.ok.blt]; exact h1.keeps I.bk) ((h2 x hn).trans hv) h) hd
theorem pe_bltn {x : Str} {v : V} {u : Value} {pos : Pos} (hg : Gl X x) (hm : X.mg x = none) (hv : bootBuiltins x = some u) (r : RelV v u) (hn : x ≠ "__name__" := by decide) (hd : (x == ("__debug__" : Str)) = false := by decide) : PE X (.Name x pos) (tC v) :=
 fun _ _ _ H _ I h => ld_blt I hg hm hv ⟨v, H, I, r, h⟩ hn hd
variable {a b : Expr} {ta tb : TE} {pos : Pos}
def PC (X : Cx) (op : CmpOp) (a b : Expr) (t : TE) : Prop :=
 ∀ (pins : List (Addr × Obj)) (s : Shared) (σ : St) (H : Hp) (Q : VK), Inv X pins σ H s -> t σ H Q ->
  wpAny (model X.prog X.w) X.A (eval a X.env) (fun v s₁ => wpAny (model X.prog X.w) X.A (eval b X.env) (fun u s₂ => wpAny (model X.prog X.w) X.A (compareOp op v u) (EP X pins σ Q) X.xe s₂) X.xe s₁) X.xe s
theorem nobehind (b : Expr) {op : CmpOp} (h : op ≠ .In) (h2 : op ≠ .NotIn) : behindInMarks op b = false := by
 have e1 : (op == CmpOp.In) = false := by cases op <;> first | rfl | exact absurd rfl h
 have e2 : (op == CmpOp.NotIn) = false := by cases op <;> first | rfl | exact absurd rfl h2
 cases b <;> simp [behindInMarks, e1, e2]
def tB (t : TE) : TT := fun σ H Q => t σ H fun x H1 => ∃ c, x = .bl c /\ Q c H1
theorem pe_cmp {op : CmpOp} {t : TE} (h : PC X op a b t) (h1 : behindInMarks op b = false := by first | exact nobehind _ (by decide) (by decide) | rfl) : PE X (.Compare a [op] [b] pos) t := fun pins s σ H Q I hw => wpAny_Compare1 (h pins s σ H Q I hw) h1
theorem pt_cmp {op : CmpOp} {t : TE} (h : PC X op a b t) (h1 : behindInMarks op b = false := by first | exact nobehind _ (by decide) (by decide) | rfl) : PT X (.Compare a [op] [b] pos) (tB t) := by
 intro pins s σ H Q I hw
 refine wpAny_isTrue_Compare1 (thn (h pins s σ H _ I hw) fun v s1 h1 => thn h1 fun u s2 h2 => thn h2 fun c s3 ⟨x, H1, I1, r1, q1⟩ => ?_) h1
 obtain ⟨d, rfl, q⟩ := q1
 cases r1
 exact wpAny_truthy_bool ⟨H1, I1, q⟩
theorem pt_val {e : Expr} {t : TE} (h : PE X e t) (he : ∀ whole, isTrue e X.env whole = (do let v <- whole; standAt e.pos; holding [v] (truthy v)) := by intro _; rfl) : PT X e (tB t) := by
 intro pins s σ H Q I hw
 refine isTrue_plain (thn (h pins s σ H _ I hw) fun v s1 ⟨x, H1, I1, r1, q1⟩ => ?_) (he _)
 obtain ⟨d, rfl, q⟩ := q1
 cases r1
 exact wpAny_truthy_bool ⟨H1, I1, q⟩
variable {tA tB' : TT} {rest : List Expr}
def tAnd (t u : TT) : TT := fun σ H Q => t σ H fun c H1 => if c = true then u σ H1 Q else Q false H1
def tOr (t u : TT) : TT := fun σ H Q => t σ H fun c H1 => if c = true then Q true H1 else u σ H1 Q
def tNot (t : TT) : TT := fun σ H Q => t σ H fun c H1 => Q (!c) H1
theorem pw_and1 (ha : PT X a tA) : PW X (.BoolOp .And [a] pos) tA := by
 intro wh pins s σ H Q I h
 refine isTrue_and (thn (ha pins s σ H Q I h) fun c s1 e => ?_)
 cases c with
 | true => exact isTrue_and_nil e
 | false => exact e
theorem pw_or1 (ha : PT X a tA) : PW X (.BoolOp .Or [a] pos) tA := by
 intro wh pins s σ H Q I h
 refine isTrue_or (thn (ha pins s σ H Q I h) fun c s1 e => ?_)
 cases c with
 | false => exact isTrue_or_nil e
 | true => exact e
theorem pw_and (ha : PT X a tA) (hb : PW X (.BoolOp .And (b :: rest) pos) tB') : PW X (.BoolOp .And (a :: b :: rest) pos) (tAnd tA tB') := by
 intro wh pins s σ H Q I h
 refine isTrue_and (thn (ha pins s σ H _ I h) fun c s1 ⟨H1, I1, q1⟩ => ?_)
 cases c with
 | true => exact hb wh pins s1 σ H1 Q I1 q1
 | false => exact ⟨H1, I1, q1⟩
theorem pw_or (ha : PT X a tA) (hb : PW X (.BoolOp .Or (b :: rest) pos) tB') : PW X (.BoolOp .Or (a :: b :: rest) pos) (tOr tA tB') := by
 intro wh pins s σ H Q I h
 refine isTrue_or (thn (ha pins s σ H _ I h) fun c s1 ⟨H1, I1, q1⟩ => ?_)
 cases c with
 | true => exact ⟨H1, I1, q1⟩
 | false => exact hb wh pins s1 σ H1 Q I1 q1
theorem pt_not (ha : PT X a tA) : PT X (.UnaryOp .Not a pos) (tNot tA) := by
 intro pins s σ H Q I h
 exact isTrue_not (ha pins s σ H (fun c H1 => Q (!c) H1) I h)
def tAndV (ta tb : TE) : TE := fun σ H Q => ta σ H fun x H1 => ∃ c, x = .bl c /\ if c = true then tb σ H1 Q else Q (.bl false) H1
theorem pe_one {op} {t : TE} (h : PE X a t) : PE X (.BoolOp op [a] pos) t := fun pins s σ H Q I hw => BoolOp_one (h pins s σ H Q I hw)
theorem pe_and (ha : PE X a ta) (hb : PE X (.BoolOp .And (b :: rest) pos) tb) : PE X (.BoolOp .And (a :: b :: rest) pos) (tAndV ta tb) := by
 intro pins s σ H Q I h
 refine BoolOp_and (thn (ha pins s σ H _ I h) fun v s1 ⟨x, H1, I1, r1, q1⟩ => ?_)
 obtain ⟨c, rfl, q1⟩ := q1
 cases r1
 refine wpAny_truthy_bool ?_
 cases c with
 | true => exact hb pins s1 σ H1 Q I1 q1
 | false => exact ⟨.bl false, H1, I1, rfl, q1⟩
end
def SqL (K : W.Frag) (H : Hp) (a : Addr) (xs : List V) : Prop :=
 Rd H a (.lst xs) ∨
  ∃ (o : Obj) (its : Array Value) (n : Nat), K.lookup a = some o /\ o.cls = .type "list" /\ o.dict = none /\ o.data = .seq its n /\ its.size <= sizeLine /\ Vals xs its.toList
def SqT (K : W.Frag) (H : Hp) (a : Addr) (xs : List V) : Prop :=
 Rd H a (.tup xs) ∨
  ∃ (o : Obj) (its : Array Value) (n : Nat), K.lookup a = some o /\ o.cls = .type "tuple" /\ o.data = .seq its n /\ its.size <= sizeLine /\ Vals xs its.toList
def absV : Value -> Option V
 | .none => some .non
 | .bool b => some (.bl b)
 | .int i _ => some (.int i)
 | .str x _ => some (.str x)
 | .bytes b _ => some (.byt b)
 | .float b _ => some (.flt b)
 | .ref a => some (.ref a)
 | .type n => some (.ty n)
 | _ => none
theorem RelV.abs {x : V} {u : Value} (r : RelV x u) : absV u = some x := by
 cases x with
 | non => cases r; rfl
 | bl _ => cases r; rfl
 | int _ => obtain ⟨t, rfl⟩ := r; rfl
 | str _ => obtain ⟨t, rfl⟩ := r; rfl
 | byt _ => obtain ⟨t, rfl⟩ := r; rfl
 | flt _ => obtain ⟨t, rfl⟩ := r; rfl
 | ref _ => cases r; rfl
 | ty _ => cases r; rfl
theorem RelV.inj {x y : V} {u : Value} (r : RelV x u) (q : RelV y u) : x = y := Option.some.inj (r.abs.symm.trans q.abs)
theorem Vals.inj : ∀ {xs ys : List V} {us : List Value}, Vals xs us -> Vals ys us -> xs = ys
 | _, _, _, .nil, .nil => rfl
 | _, _, _, .cons r t, .cons r' t' => by rw [r.inj r', Vals.inj t t']
section
variable {X : Cx} {pins : List (Addr × Obj)} {σ : St} {H : Hp} {s : Shared} {a : Addr} {xs ys : List V}
theorem SqL.of {K : W.Frag} (h : H a = some (.lst xs)) : SqL K H a xs := .inl (.inl h)
theorem SqT.of {K : W.Frag} (h : H a = some (.tup xs)) : SqT K H a xs := .inl (.inl h)
theorem Inv.list (I : Inv X pins σ H s) (h : SqL X.K H a xs) : ∃ its : List Value, Vals xs its /\ PlainL s.heap a its.toArray /\ xs.length <= sizeLine := by
 rcases h with h | ⟨o, its, n, hk, hc, hd, hs, hz, r⟩
 ·obtain ⟨z, its, n, r, e⟩ := h.ok I.hok
  exact ⟨its, r, ⟨_, n, e, rfl, rfl, rfl⟩, z⟩
 ·refine ⟨its.toList, r, ⟨o, n, I.kIn a o hk, hc, hd, by simpa using hs⟩, ?_⟩
  have e := r.length
  simp only [Array.length_toList] at e
  lia
theorem Inv.tuple (I : Inv X pins σ H s) (h : SqT X.K H a xs) : ∃ its : List Value, Vals xs its /\ IsTup s.heap a its.toArray /\ xs.length <= sizeLine := by
 rcases h with h | ⟨o, its, n, hk, hc, hs, hz, r⟩
 ·obtain ⟨z, its, r, p⟩ := h.ok I.hok
  exact ⟨its, r, p, z⟩
 ·refine ⟨its.toList, r, ⟨o, I.kIn a o hk, hc, n, by simpa using hs⟩, ?_⟩
  have e := r.length
  simp only [Array.length_toList] at e
  lia
theorem Inv.list_inj (I : Inv X pins σ H s) (h : SqL X.K H a xs) (h' : SqL X.K H a ys) : xs = ys := by
 obtain ⟨its, r, ⟨o, n, e, _, _, d⟩, _⟩ := I.list h
 obtain ⟨its', r', ⟨o', n', e', _, _, d'⟩, _⟩ := I.list h'
 rw [e] at e'; cases e'
 rw [d] at d'
 injection d' with d1 _
 have : its = its' := by simpa using congrArg Array.toList d1
 subst this
 exact r.inj r'
theorem Inv.tuple_inj (I : Inv X pins σ H s) (h : SqT X.K H a xs) (h' : SqT X.K H a ys) : xs = ys := by
 obtain ⟨its, r, ⟨o, e, _, n, d⟩, _⟩ := I.tuple h
 obtain ⟨its', r', ⟨o', e', _, n', d'⟩, _⟩ := I.tuple h'
 rw [e] at e'; cases e'
 rw [d] at d'
 injection d' with d1 _
 have : its = its' := by simpa using congrArg Array.toList d1
 subst this
 exact r.inj r'
end
abbrev Cx.wish (X : Cx) (E : Value -> Shared -> Prop) : Cx := { X with xe := E }
abbrev Cx.nox (X : Cx) : Cx := X.wish fun _ _ => False
theorem Cx.Ok.wish {X : Cx} (ok : X.Ok) (E : Value -> Shared -> Prop) : (X.wish E).Ok :=
 ⟨ok.mod, ok.kind, ok.glob, ok.blt, ok.above, ok.inj, ok.has, ok.cab, ok.hd, ok.frames, ok.stk, ok.exf, ok.bs, ok.bsz, ok.noex, ok.exfs, ok.funs, ok.frf⟩
theorem Cx.Ok.unwish {X : Cx} {E : Value -> Shared -> Prop} (ok : (X.wish E).Ok) : X.Ok :=
 ⟨ok.mod, ok.kind, ok.glob, ok.blt, ok.above, ok.inj, ok.has, ok.cab, ok.hd, ok.frames, ok.stk, ok.exf, ok.bs, ok.bsz, ok.noex, ok.exfs, ok.funs, ok.frf⟩
section
variable {X : Cx} {pins : List (Addr × Obj)} {σ : St} {H : Hp} {s : Shared} {E : Value -> Shared -> Prop}
theorem Inv.wish (I : Inv X pins σ H s) (E : Value -> Shared -> Prop) : Inv (X.wish E) pins σ H s := ⟨I.ok.wish E, I.os, I.bare, I.base, I.loc, I.cell, I.free, I.freeC, I.pin, I.hok, I.len⟩
theorem Inv.unwish (I : Inv (X.wish E) pins σ H s) : Inv X pins σ H s := ⟨I.ok.unwish, I.os, I.bare, I.base, I.loc, I.cell, I.free, I.freeC, I.pin, I.hok, I.len⟩
theorem SP.unwish {D : Ends} {f : Flow} {s' : Shared} (h : SP (X.wish E) pins D f s') : SP X pins D f s' := by
 cases f with
 | next => obtain ⟨σ', H', I, q⟩ := h; exact ⟨σ', H', I.unwish, q⟩
 | brk => obtain ⟨σ', H', I, q⟩ := h; exact ⟨σ', H', I.unwish, q⟩
 | cont => obtain ⟨σ', H', I, q⟩ := h; exact ⟨σ', H', I.unwish, q⟩
 | ret u => obtain ⟨v, σ', H', I, r, q⟩ := h; exact ⟨v, σ', H', I.unwish, r, q⟩
theorem PSs.nox {st : List Stmt} {t : TS} (h : PSs X.nox st t) : PSs X st t := fun pins s σ H D I hw =>
 wpAny_mono (h pins s σ H D (I.wish _) hw) (fun _ _ q => q.unwish) fun _ _ z => False.elim z
end
section
variable {X : Cx} {st : Stmt} {rest : List Stmt} {t u : TS} {e : Expr} {te : TE} {pos : Pos}
def tNext : TS := fun D σ H => D.nx σ H
def tSeq (t u : TS) : TS := fun D σ H => t { D with nx := u D } σ H
theorem pss_nil : PSs X [] tNext := fun _ _ σ H _ I h => wpAny_execs_nil ⟨σ, H, I, h⟩
theorem pss_cons (h1 : PS X st t) (h2 : PSs X rest u) : PSs X (st :: rest) (tSeq t u) := by
 intro pins s σ H D I h
 refine wpAny_execs_cons (thn (h1 pins s σ H { D with nx := u D } I h) fun f s1 q => ?_)
 cases f with
 | next =>
  obtain ⟨σ', H', I', q⟩ := q
  exact h2 pins s1 σ' H' D I' q
 | ret v => exact q
 | brk => exact q
 | cont => exact q
theorem pss_one (h1 : PS X st t) : PSs X [st] t := by
 intro pins s σ H D I h
 refine wpAny_execs_cons (thn (h1 pins s σ H D I h) fun f s1 q => ?_)
 cases f with
 | next => exact wpAny_execs_nil q
 | ret v => exact q
 | brk => exact q
 | cont => exact q
theorem Inv.quiet {pins : List (Addr × Obj)} {σ : St} {H : Hp} {s : Shared} (I : Inv X pins σ H s) : interactive X.env = false := by simp [interactive, I.ok.kind]
def tDrop (te : TE) : TS := fun D σ H => te σ H fun _ H1 => D.nx σ H1
theorem ps_expr (he : PE X e te) (hs : swapsWith e none pos.line X.env = pure false := by rfl) : PS X (.Expr e pos) (tDrop te) := by
 intro pins s σ H D I h
 exact wpAny_Expr_any (thn (he pins s σ H _ I h) fun v s1 ⟨x, H1, I1, r1, q1⟩ => ⟨σ, H1, I1, q1⟩) I.quiet hs
def tRet (te : TE) : TS := fun D σ H => te σ H D.rt
theorem ps_ret (he : PE X e te) : PS X (.Return (some e) pos) (tRet te) := by
 intro pins s σ H D I h
 exact wpAny_Return_some (thn (he pins s σ H _ I h) fun v s1 ⟨x, H1, I1, r1, q1⟩ => ⟨x, σ, H1, I1, r1, q1⟩)
def tIfS (c : TT) (t u : TS) : TS := fun D σ H => c σ H fun b H1 => if b = true then t D σ H1 else u D σ H1
theorem ps_if {c : Expr} {a b : List Stmt} {tc : TT} (hc : PT X c tc) (ha : PSs X a t) (hb : PSs X b u) : PS X (.If c a b pos) (tIfS tc t u) := by
 intro pins s σ H D I h
 refine wpAny_If (thn (hc pins s σ H _ I h) fun d s1 ⟨H1, I1, q1⟩ => ?_)
 cases d with
 | true => exact ha pins s1 σ H1 D I1 q1
 | false => exact hb pins s1 σ H1 D I1 q1
def tNever : TS := fun _ _ _ => False
theorem ps_never : PS X st tNever := fun _ _ _ _ _ _ h => h.elim
end
abbrev TG := V -> St -> Hp -> (St -> Hp -> Prop) -> Prop
abbrev TGs := List V -> St -> Hp -> (St -> Hp -> Prop) -> Prop
def PG (X : Cx) (target : Expr) (t : TG) : Prop :=
 ∀ (pins : List (Addr × Obj)) (s : Shared) (σ : St) (H : Hp) (v : V) (u : Value) (Q : St -> Hp -> Prop), Inv X pins σ H s -> RelV v u -> t v σ H Q ->
  wpAny (model X.prog X.w) X.A (assign target X.env u) (fun _ s' => ∃ σ' H', Inv X pins σ' H' s' /\ Q σ' H') X.xe s
def PGs (X : Cx) (ts : List Expr) (t : TGs) : Prop :=
 ∀ (pins : List (Addr × Obj)) (s : Shared) (σ : St) (H : Hp) (vs : List V) (us : List Value) (Q : St -> Hp -> Prop), Inv X pins σ H s -> Vals vs us -> t vs σ H Q ->
  wpAny (model X.prog X.w) X.A (assignInOrder ((assignEach ts X.env).map (·.2)) us) (fun _ s' => ∃ σ' H', Inv X pins σ' H' s' /\ Q σ' H') X.xe s
abbrev TSet := V -> V -> V -> Hp -> (Hp -> Prop) -> Prop
def PSet (X : Cx) (t : TSet) : Prop :=
 ∀ (pins : List (Addr × Obj)) (s : Shared) (σ : St) (H : Hp) (o i v : V) (ov iv u : Value) (Q : Hp -> Prop), Inv X pins σ H s -> RelV o ov -> RelV i iv -> RelV v u -> t o i v H Q ->
  wpAny (model X.prog X.w) X.A (setItem ov iv u) (fun _ s' => ∃ H', Inv X pins σ H' s' /\ Q H') X.xe s
section
variable {X : Cx} {pos : Pos}
def gName (i : Nat) : TG := fun v σ H Q => Q (σ.set i (some v)) H
theorem pg_name {i : Nat} {x : Str} (hN : X.N.Nodup) (hi : X.N[i]? = some x) (hx : Loc X.env.scope x) (hf : X.fn x = true ∨ X.env.scope.names.lookup x = some .local := by first | exact .inl rfl | exact .inr rfl | assumption) : PG X (.Name x pos) (gName i) := by
 intro pins s σ H v u Q I r h
 exact wpAny_assign_Name (store_ok I hN hi hx r (fun s' I' => ⟨_, H, I', h⟩) hf)
def gNil : TGs := fun vs σ H Q => vs = [] /\ Q σ H
def gCons (t : TG) (u : TGs) : TGs := fun vs σ H Q => ∃ v r, vs = v :: r /\ t v σ H fun σ' H' => u r σ' H' Q
theorem pgs_nil : PGs X [] gNil := by
 intro pins s σ H vs us Q I r h
 obtain ⟨e, h⟩ := h
 subst e
 cases r
 exact assignInOrder_nil ⟨σ, H, I, h⟩
theorem pgs_cons {e : Expr} {es : List Expr} {t : TG} {u : TGs} (h1 : PG X e t) (h2 : PGs X es u)
  (hs : (assignEach (e :: es) X.env).map (·.2) = assign e X.env :: (assignEach es X.env).map (·.2) := by rfl) : PGs X (e :: es) (gCons t u) := by
 intro pins s σ H vs us Q I r h
 obtain ⟨v, vr, e1, h⟩ := h
 subst e1
 cases r with
 | cons r rr =>
  rw [hs]
  refine assignInOrder_cons (thn (h1 pins s σ H _ _ _ I r h) fun _ s1 ⟨σ1, H1, I1, q1⟩ => ?_)
  exact h2 pins s1 σ1 H1 _ _ Q I1 rr q1
def gTup (K : W.Frag) (n : Nat) (t : TGs) : TG := fun v σ H Q => ∃ a xs, v = .ref a /\ SqT K H a xs /\ xs.length = n /\ t xs σ H Q
theorem pg_tup {es : List Expr} {k : Nat} {t : TGs} {n : Nat} (hc : X.calm = true) (h : PGs X es t)
  (hn : (assignEach es X.env).length = n := by rfl) (hst : (assignEach es X.env).findIdx? (·.1) = none := by rfl) : PG X (.Tuple es k pos) (gTup X.K n t) := by
 intro pins s σ H v u Q I r hw
 obtain ⟨a, xs, e1, hq, hl, hw⟩ := hw
 subst e1
 cases r
 obtain ⟨its, rv, ht, hz⟩ := I.tuple hq
 refine assign_Tuple_tuple (I.ok.hd hc) ht (by simp [hn, <- hl, rv.length]) hst fun h' hx => ?_
 have I1 : Inv X pins σ H { s with heap := h' } := I.kept (t' := s.toks) fun b o e => hx b o (Nat.ne_of_lt (Heap.lt_size e)) e
 exact h pins _ σ H xs _ Q I1 (by simpa using rv) hw
def gSub (to ti : TE) (t : TSet) : TG := fun v σ H Q => to σ H fun o H1 => ti σ H1 fun i H2 => t o i v H2 fun H3 => Q σ H3
theorem pg_sub {o i : Expr} {to ti : TE} {t : TSet} (ho : PE X o to) (hi : PE X i ti) (hs : PSet X t)
  (ha : ∀ v, assign (.Subscript o i pos) X.env v = (do
   let ov <- holding [v] (eval o X.env)
   let iv <- holding [v, ov] (eval i X.env)
   standAt pos
   holding [v, ov, iv] (setItem ov iv v)
   release [v, ov, iv] []) := by intro _; rfl) : PG X (.Subscript o i pos) (gSub to ti t) := by
 intro pins s σ H v u Q I r h
 rw [ha]
 refine wpAny_bind (wpAny_holding (thn (ho pins s σ H _ I h) fun ov s1 ⟨x, H1, I1, r1, q1⟩ => ?_))
 refine wpAny_bind (wpAny_holding (thn (hi pins s1 σ H1 _ I1 q1) fun iv s2 ⟨y, H2, I2, r2, q2⟩ => ?_))
 refine wpAny_bind (wpAny_standAt (wpAny_bind (wpAny_holding (thn (hs pins s2 σ H2 x y v ov iv u _ I2 r1 r2 r q2) fun _ s3 ⟨H3, I3, q3⟩ => ?_))))
 exact wpAny_release ⟨σ, H3, I3, q3⟩
def tAsg (te : TE) (g : TG) : TS := fun D σ H => te σ H fun x H1 => g x σ H1 D.nx
theorem ps_asg {tg e : Expr} {te : TE} {g : TG} (he : PE X e te) (hg : PG X tg g) (hs : swapsWithSole [tg] e pos.line X.env = pure false := by rfl) (hw : swappedStores [tg] e X.env = pure none := by rfl)
  (h1 : (assignEach [tg] X.env).map (·.2) = [assign tg X.env] := by rfl) : PS X (.Assign [tg] e pos) (tAsg te g) := by
 intro pins s σ H D I h
 refine wpAny_Assign_stores (thn (he pins s σ H _ I h) fun v s1 ⟨x, H1, I1, r1, q1⟩ => ?_) hs hw
 rw [h1]
 exact thn (hg pins s1 σ H1 x v _ I1 r1 q1) fun _ s2 q => q
theorem ps_set {i : Nat} {x : Str} {e : Expr} {te : TE} {pos' : Pos} (hN : X.N.Nodup) (hi : X.N[i]? = some x) (hx : Loc X.env.scope x) (he : PE X e te) (hs : swapsWith e (some (.Name x pos')) pos.line X.env = pure false := by rfl) (hf : X.fn x = true ∨ X.env.scope.names.lookup x = some .local := by first | exact .inl rfl | exact .inr rfl | assumption) :
  PS X (.Assign [.Name x pos'] e pos) (tAsg te (gName i)) := by
 intro pins s σ H D I h
 refine wpAny_Assign_Name (thn (he pins s σ H _ I h) fun v s1 ⟨y, H1, I1, r1, q1⟩ => ?_) hs
 exact store_ok I1 hN hi hx r1 (fun s2 I2 => ⟨_, H1, I2, q1⟩) hf
end
section
variable {X : Cx} {pos : Pos}
def tWhile (c : TT) (tb : TS) : TS := fun D σ H => ∃ W : Nat -> St -> Hp -> Prop, (∃ m, W m σ H) /\ ∀ m σ H, W m σ H ->
 c σ H fun b H1 => if b = true then ∃ N : St -> Hp -> Prop, (∀ σ' H', N σ' H' -> ∃ m', m' < m /\ W m' σ' H') /\ tb { D with nx := N, ct := N, bk := D.nx } σ H1 else D.nx σ H1
theorem ps_while {c : Expr} {body : List Stmt} {tc : TT} {tb : TS} (hp : PassesOwn (model X.prog X.w) X.A X.env X.xe) (hc : PT X c tc) (hb : PSs X body tb) : PS X (.While c body [] pos) (tWhile tc tb) := by
 intro pins s σ H D I h
 obtain ⟨W, ⟨m0, w0⟩, turn⟩ := h
 refine wpAny_While (codeAny_whileLoop (fun n s' => ∃ σ' H', Inv X pins σ' H' s' /\ W n σ' H') ?_ m0 ⟨σ, H, I, w0⟩)
 rintro n s1 ⟨σ1, H1, I1, w1⟩
 refine wpAny_passesOwn hp (thn (hc pins s1 σ1 H1 _ I1 (turn n σ1 H1 w1)) fun b s2 ⟨H2, I2, q2⟩ => ?_)
 cases b with
 | true =>
  obtain ⟨N, hN, q2⟩ := q2
  rw [if_pos rfl]
  refine wpAny_passesOwn hp (thn (hb pins s2 σ1 H2 _ I2 q2) fun f s3 q3 => ?_)
  cases f with
  | next =>
   obtain ⟨σ3, H3, I3, n3⟩ := q3
   obtain ⟨m', hm, w3⟩ := hN σ3 H3 n3
   exact ⟨m', hm, σ3, H3, I3, w3⟩
  | cont =>
   obtain ⟨σ3, H3, I3, n3⟩ := q3
   obtain ⟨m', hm, w3⟩ := hN σ3 H3 n3
   exact ⟨m', hm, σ3, H3, I3, w3⟩
  | brk => exact q3
  | ret v => exact q3
 | false =>
  rw [if_neg Bool.false_ne_true]
  exact wpAny_execs_nil ⟨σ1, H2, I2, q2⟩
end
structure It where
 go : Nat -> Hp -> Prop
 yld : Nat -> Hp -> V -> Hp -> Prop
 stop : Nat -> Hp -> Prop
def FpOk (X : Cx) (pins : List (Addr × Obj)) (H : Hp) (b : Addr) : Prop :=
 H b = none /\ b ≠ X.env.locals /\ b ∉ X.fs /\ (b ∈ X.ex ∨ X.s₀.heap.objs.size <= b) /\ (∀ x c, X.env.cells.lookup x = some c -> c ≠ b) /\ ∀ p ∈ X.pn ++ pins, p.1 ≠ b
theorem Inv.fpOk {X : Cx} {pins : List (Addr × Obj)} {σ : St} {H H' : Hp} {s : Shared} {b : Addr} (I : Inv X pins σ H s) (hb : s.heap.objs.size <= b) (hn : H' b = none) : FpOk X pins H' b := by
 refine ⟨hn, Nat.ne_of_gt (Nat.lt_of_lt_of_le I.lt hb), I.nofs hb, .inr (Nat.le_trans I.sz hb), fun x c e z => ?_, fun p hp z => ?_⟩
 ·obtain ⟨v, q⟩ := I.cell x c e
  exact absurd (Nat.lt_of_lt_of_le q.lt (by rw [z]; exact hb)) (Nat.lt_irrefl _)
 ·exact absurd (Nat.lt_of_lt_of_le (Heap.lt_size (I.pin p hp).1) (by rw [z]; exact hb)) (Nat.lt_irrefl _)
structure Turn (P : Program) (w : World) (K : W.Frag) (tg : Expr) (J : It) (fp : List Addr) (it : Addr) (tn : Nat -> Heap -> Prop) : Prop where
 mem : it ∈ fp
 obj : ∀ i h, tn i h -> ∀ b ∈ fp, ∃ o, h.get? b = some o /\ ∀ v, o.data ≠ .cell v
 keep : ∀ i h h', tn i h -> (∀ b ∈ fp, ∀ o, h.get? b = some o -> h'.get? b = some o) -> tn i h'
 item : ∀ (X : Cx), X.prog = P -> X.w = w -> X.K = K -> X.calm = true -> ∀ (i : Nat) (pins : List (Addr × Obj)) (s : Shared) (σ : St) (H : Hp) (E : Value -> Shared -> Prop), Inv X pins σ H s -> (∀ b ∈ fp, FpOk X pins H b) -> tn i s.heap -> J.go i H ->
  wpAny (model P w) X.A (pyNext (.ref it)) (fun r s1 => ∃ u, r = some u /\
   wpAny (model P w) X.A (letOwnedTupleGo tg (.ref it) u) (fun _ s2 => ∃ x H', Inv X pins σ H' s2 /\ RelV x u /\ J.yld i H x H' /\ tn (i + 1) s2.heap /\ ∀ b ∈ fp, H' b = none) E s1) E s
 done : ∀ (X : Cx), X.prog = P -> X.w = w -> X.K = K -> X.calm = true -> ∀ (i : Nat) (pins : List (Addr × Obj)) (s : Shared) (σ : St) (H : Hp) (E : Value -> Shared -> Prop), Inv X pins σ H s -> (∀ b ∈ fp, FpOk X pins H b) -> tn i s.heap -> J.stop i H ->
  wpAny (model P w) X.A (pyNext (.ref it)) (fun r s1 => r = none /\ Inv X pins σ H s1) E s
 self : ∀ (A : Around) (i : Nat) (s : Shared) (Q : Value -> Shared -> Prop) (E : Value -> Shared -> Prop), tn i s.heap -> Q (.ref it) s -> wpAny (model P w) A (pyIter (.ref it)) Q E s
abbrev TI := St -> Hp -> (It -> Hp -> Prop) -> Prop
def PIE (X : Cx) (pins : List (Addr × Obj)) (σ : St) (tg : Expr) (R : It -> Hp -> Prop) (itv : Value) (s2 : Shared) : Prop :=
 ∃ (it : Addr) (fp : List Addr) (tn : Nat -> Heap -> Prop) (J : It) (H' : Hp), itv = .ref it /\ Inv X pins σ H' s2 /\ Turn X.prog X.w X.K tg J fp it tn /\ tn 0 s2.heap /\ (∀ b ∈ fp, FpOk X pins H' b) /\ R J H'
def PI (X : Cx) (tg iter : Expr) (wi : TI) : Prop :=
 ∀ (pins : List (Addr × Obj)) (s : Shared) (σ : St) (H : Hp) (R : It -> Hp -> Prop), Inv X pins σ H s -> wi σ H R ->
  wpAny (model X.prog X.w) X.A (eval iter X.env) (fun v s1 => wpAny (model X.prog X.w) X.A (pyIter v) (PIE X pins σ tg R) X.xe s1) X.xe s
theorem go_of {M : Model} {A : Around} {E : Value -> Shared -> Prop} {s : Shared} {tg : Expr} {it : Addr} {u : Value} {o : Obj} {n : String} {vs : Array Value} {Q : Unit -> Shared -> Prop} (ho : s.heap.get? it = some o) (hc : o.cls = .type n) (hd : o.data = .fields vs)
    (hn : ["enumerate", "zip", "dict_itemiterator", "dict_reverseitemiterator", "odict_iterator", "itertools.zip_longest", "itertools.pairwise"].contains n = false) (hQ : Q () s) : wpAny M A (letOwnedTupleGo tg (.ref it) u) Q E s := by
  unfold letOwnedTupleGo
  cases tg <;> first
    | exact wpAny_pure hQ
    | (cases u <;> first
        | exact wpAny_pure hQ
        | (refine wpAny_bind (wpAny_load ho ?_)
           rw [hc, hd]
           show wpAny M A (if (["enumerate", "zip", "dict_itemiterator", "dict_reverseitemiterator", "odict_iterator", "itertools.zip_longest", "itertools.pairwise"].contains n && vs[0]? == some (rawInt _)) = true then _ else _) Q E s
           rw [if_neg (by intro h; rw [hn, Bool.false_and] at h; cases h)]
           exact wpAny_pure hQ))
def Itl (K : W.Frag) (a : Addr) : It :=
 ⟨fun i H => ∃ xs x, SqL K H a xs /\ xs[i]? = some x, fun i H x H' => H' = H /\ ∀ xs, SqL K H a xs -> xs[i]? = some x, fun i H => ∃ xs, SqL K H a xs /\ xs.length <= i⟩
def Itt (K : W.Frag) (a : Addr) : It :=
 ⟨fun i H => ∃ xs x, SqT K H a xs /\ xs[i]? = some x, fun i H x H' => H' = H /\ ∀ xs, SqT K H a xs -> xs[i]? = some x, fun i H => ∃ xs, SqT K H a xs /\ xs.length <= i⟩
def Itr (lo : Int) (n : Nat) : It := ⟨fun i _ => i < n, fun i H x H' => H' = H /\ x = .int (lo + i), fun i _ => n <= i⟩
theorem turn_list {P : Program} {w : World} {K : W.Frag} {tg : Expr} (a it : Addr) : Turn P w K tg (Itl K a) [it] it (fun i h => h.IsListIter it a i) where
 mem := by simp
 obj := fun i h st b hb => by
  have e : b = it := by simpa using hb
  subst e
  obtain ⟨o, e, c, d⟩ := st
  exact ⟨o, e, fun v z => by rw [d] at z; cases z⟩
 keep := fun i h h' st k => st.at fun o e => k it (by simp) o e
 item := by
  intro X hP hw hK hc i pins s σ H E I hf st hg
  subst hP hw hK
  obtain ⟨xs, x, hq, hx⟩ := hg
  obtain ⟨its, rv, p, hz⟩ := I.list hq
  obtain ⟨u, hu, ru⟩ := rv.get hx
  obtain ⟨f0, f1, f2, f3, f4, f5⟩ := hf it (by simp)
  refine wpAny_pyNext_list_item st p.isList (x := u) (by simpa using hu) fun h' st' sb => ?_
  have I1 : Inv X pins σ H { s with heap := h' } := I.turned (t' := s.toks) (fun b o hb e => (sb.2 b hb).trans e) f0 f1 f3 f4 f5
  obtain ⟨o, e, c, d⟩ := id st'
  exact ⟨u, rfl, go_of (s := { s with heap := h' }) e c d (by decide) ⟨x, H, I1, ru, ⟨rfl, fun ys hy => by rw [I.list_inj hy hq]; exact hx⟩, st', fun b hb => (hf b hb).1⟩⟩
 done := by
  intro X hP hw hK hc i pins s σ H E I hf st hg
  subst hP hw hK
  obtain ⟨xs, hq, hx⟩ := hg
  obtain ⟨its, rv, p, hz⟩ := I.list hq
  obtain ⟨f0, f1, f2, f3, f4, f5⟩ := hf it (by simp)
  have hl := rv.length
  exact wpAny_pyNext_list_end (I.ok.hd hc) st p.isList (by simp; lia) fun h' eb => ⟨rfl, I.turned (t' := s.toks) (fun b o hb e => eb b o hb e) f0 f1 f3 f4 f5⟩
 self := fun _ _ _ _ _ st h => wpAny_pyIter_listiter st h
theorem turn_tuple {P : Program} {w : World} {K : W.Frag} {tg : Expr} (a it : Addr) : Turn P w K tg (Itt K a) [it] it (fun i h => h.IsTupleIter it a i) where
 mem := by simp
 obj := fun i h st b hb => by
  have e : b = it := by simpa using hb
  subst e
  obtain ⟨o, e, c, d⟩ := st
  exact ⟨o, e, fun v z => by rw [d] at z; cases z⟩
 keep := fun i h h' st k => st.at fun o e => k it (by simp) o e
 item := by
  intro X hP hw hK hc i pins s σ H E I hf st hg
  subst hP hw hK
  obtain ⟨xs, x, hq, hx⟩ := hg
  obtain ⟨its, rv, p, hz⟩ := I.tuple hq
  obtain ⟨u, hu, ru⟩ := rv.get hx
  obtain ⟨f0, f1, f2, f3, f4, f5⟩ := hf it (by simp)
  refine wpAny_pyNext_tuple_item st (show s.heap.IsTuple a its.toArray from p) (x := u) (by simpa using hu) fun h' st' sb => ?_
  have I1 : Inv X pins σ H { s with heap := h' } := I.turned (t' := s.toks) (fun b o hb e => (sb.2 b hb).trans e) f0 f1 f3 f4 f5
  obtain ⟨o, e, c, d⟩ := id st'
  exact ⟨u, rfl, go_of (s := { s with heap := h' }) e c d (by decide) ⟨x, H, I1, ru, ⟨rfl, fun ys hy => by rw [I.tuple_inj hy hq]; exact hx⟩, st', fun b hb => (hf b hb).1⟩⟩
 done := by
  intro X hP hw hK hc i pins s σ H E I hf st hg
  subst hP hw hK
  obtain ⟨xs, hq, hx⟩ := hg
  obtain ⟨its, rv, p, hz⟩ := I.tuple hq
  obtain ⟨f0, f1, f2, f3, f4, f5⟩ := hf it (by simp)
  have hl := rv.length
  exact wpAny_pyNext_tuple_end (I.ok.hd hc) st (show s.heap.IsTuple a its.toArray from p) (by simp; lia) fun h' eb => ⟨rfl, I.turned (t' := s.toks) (fun b o hb e => eb b o hb e) f0 f1 f3 f4 f5⟩
 self := fun _ _ _ _ _ st h => wpAny_pyIter_tupleiter st h
theorem turn_range {P : Program} {w : World} {K : W.Frag} {tg : Expr} (it : Addr) (lo : Int) (n : Nat) : Turn P w K tg (Itr lo n) [it] it (fun i h => IsRangeIter h it (lo + (i : Nat) * 1) ((n : Int) - (i : Nat)) 1) where
 mem := by simp
 obj := fun i h st b hb => by
  have e : b = it := by simpa using hb
  subst e
  exact ⟨_, st, fun v z => by
   have z' : Data.fields _ = Data.cell v := z
   cases z'⟩
 keep := fun i h h' st k => k it (by simp) _ st
 item := by
  intro X hP hw hK hc i pins s σ H E I hf st hg
  subst hP hw hK
  obtain ⟨f0, f1, f2, f3, f4, f5⟩ := hf it (by simp)
  have W := Walks.range (prog := X.prog) (w := X.w) (I.ok.hd hc) it lo 1 n
  refine W.item i s _ _ hg st fun v h' tk hv st' kk => ?_
  obtain ⟨t, rfl⟩ := hv
  have I1 : Inv X pins σ H { s with heap := h', toks := tk } := I.turned (fun b o hb e => kk b o (by simpa using hb) e) f0 f1 f3 f4 f5
  refine ⟨_, rfl, go_of (s := { s with heap := h', toks := tk }) (n := "range_iterator") st' rfl rfl (by decide) ⟨.int (lo + i), H, I1, ⟨t, ?_⟩, ⟨rfl, rfl⟩, st', fun b hb => (hf b hb).1⟩⟩
  rw [Int.mul_one]
 done := by
  intro X hP hw hK hc i pins s σ H E I hf st hg
  subst hP hw hK
  obtain ⟨f0, f1, f2, f3, f4, f5⟩ := hf it (by simp)
  exact wpAny_pyNext_range_end (I.ok.hd hc) st (by have : n <= i := hg; lia) fun h' eb => ⟨rfl, I.turned (t' := s.toks) (fun b o hb e => eb b o hb e) f0 f1 f3 f4 f5⟩
 self := fun _ _ _ _ _ st h => wpAny_pyIter_rangeiter st h
section
variable {X : Cx} {tg : Expr}
def iList (K : W.Frag) (tl : TE) : TI := fun σ H R => tl σ H fun x H1 => ∃ a, x = .ref a /\ (∃ xs, SqL K H1 a xs) /\ R (Itl K a) H1
def iTup (K : W.Frag) (tl : TE) : TI := fun σ H R => tl σ H fun x H1 => ∃ a, x = .ref a /\ (∃ xs, SqT K H1 a xs) /\ R (Itt K a) H1
theorem pi_list {l : Expr} {tl : TE} (hl : PE X l tl) : PI X tg l (iList X.K tl) := by
 intro pins s σ H R I h
 refine thn (hl pins s σ H _ I h) fun v s1 ⟨x, H1, I1, r1, q1⟩ => ?_
 obtain ⟨a, e, ⟨xs, hq⟩, q⟩ := q1
 subst e
 cases r1
 obtain ⟨its, rv, p, hz⟩ := I1.list hq
 refine wpAny_pyIter_list p.isList ?_
 refine ⟨s1.heap.objs.size, [s1.heap.objs.size], _, _, H1, rfl, I1.kept (t' := s1.toks) fun b o e => Heap.get?_push_of_some _ e, turn_list a _, ⟨_, Heap.get?_push_size _ rfl, rfl, rfl⟩, fun b hb => ?_, q⟩
 have e : b = s1.heap.objs.size := by simpa using hb
 subst e
 exact I1.fpOk (Nat.le_refl _) (I1.hok.fresh (Nat.le_refl _))
theorem pi_tup {l : Expr} {tl : TE} (hl : PE X l tl) : PI X tg l (iTup X.K tl) := by
 intro pins s σ H R I h
 refine thn (hl pins s σ H _ I h) fun v s1 ⟨x, H1, I1, r1, q1⟩ => ?_
 obtain ⟨a, e, ⟨xs, hq⟩, q⟩ := q1
 subst e
 cases r1
 obtain ⟨its, rv, p, hz⟩ := I1.tuple hq
 refine wpAny_pyIter_tuple (show s1.heap.IsTuple a its.toArray from p) ?_
 refine ⟨s1.heap.objs.size, [s1.heap.objs.size], _, _, H1, rfl, I1.kept (t' := s1.toks) fun b o e => Heap.get?_push_of_some _ e, turn_tuple a _, ⟨_, Heap.get?_push_size _ rfl, rfl, rfl⟩, fun b hb => ?_, q⟩
 have e : b = s1.heap.objs.size := by simpa using hb
 subst e
 exact I1.fpOk (Nat.le_refl _) (I1.hok.fresh (Nat.le_refl _))
theorem range_it {pins : List (Addr × Obj)} {σ : St} {H : Hp} {s : Shared} {R : It -> Hp -> Prop} {E : Value -> Shared -> Prop} {lo hi : Int} {t u v : Tok} {tk : Nat} (I : Inv X pins σ H s) (h1 : -(2 ^ 62) <= lo) (h2 : lo < 2 ^ 62) (h3 : -(2 ^ 62) <= hi) (h4 : hi < 2 ^ 62)
  (q : R (Itr lo (hi - lo).toNat) H) : wpAny (model X.prog X.w) X.A (pyIter (.ref s.heap.objs.size)) (PIE X pins σ tg R) E { s with heap := s.heap.push { cls := .type "range", data := .fields #[.int lo t, .int hi u, .int 1 v] }, toks := tk } := by
 refine wpAny_pyIter_range (IsRange.new ..) (small_one h1 h2 h3 h4) ?_
 have I1 : Inv X pins σ H { s with heap := s.heap.push { cls := .type "range", data := .fields #[.int lo t, .int hi u, .int 1 v] }, toks := tk } := I.kept fun b o e => Heap.get?_push_of_some _ e
 refine ⟨(s.heap.push { cls := .type "range", data := .fields #[.int lo t, .int hi u, .int 1 v] }).objs.size, [(s.heap.push { cls := .type "range", data := .fields #[.int lo t, .int hi u, .int 1 v] }).objs.size], _, _, H, rfl,
  I1.kept (t' := tk) fun b o e => Heap.get?_push_of_some _ e, turn_range _ lo (hi - lo).toNat, ?_, fun b hb => ?_, q⟩
 ·have e1 : lo + ((0 : Nat) : Int) * 1 = lo := by simp
  have e2 : (((hi - lo).toNat : Nat) : Int) - ((0 : Nat) : Int) = Builtin.Range.rangeSize lo hi 1 := by rw [rangeSize_one]; split <;> lia
  show IsRangeIter _ _ (lo + ((0 : Nat) : Int) * 1) ((((hi - lo).toNat : Nat) : Int) - ((0 : Nat) : Int)) 1
  rw [e1, e2]
  exact Heap.get?_push_size _ rfl
 ·have e : b = (s.heap.push { cls := .type "range", data := .fields #[.int lo t, .int hi u, .int 1 v] }).objs.size := by simpa using hb
  subst e
  exact I1.fpOk (Nat.le_refl _) (I1.hok.fresh (Nat.le_refl _))
def iRng1 (ta : TA) : TI := fun σ H R => ta σ H fun vs H1 => ∃ j : Int, vs = [.int j] /\ -(2 ^ 62) <= j /\ j < 2 ^ 62 /\ R (Itr 0 j.toNat) H1
theorem pi_range1 {a : Expr} {ta : TA} {p pos : Pos} (hg : Gl X "range") (hm : X.mg "range" = none) (ha : PA X [a] ta) (hs : starEach [a] X.env = [(false, eval a X.env)] := by rfl) : PI X tg (.Call (.Name "range" p) [a] [] pos) (iRng1 ta) := by
 intro pins s σ H R I h
 refine Call_ (ld_blt I hg hm boot_range (PyProof.Rows.callWith_type1 (thn (ha pos pins s σ H _ I h) fun us s1 ⟨vs, H1, I1, r1, q1⟩ => ?_) hs rfl))
 obtain ⟨j, e, q1, q2, q⟩ := q1
 subst e
 cases r1 with
 | cons r rr =>
  cases rr
  obtain ⟨t, rfl⟩ := r
  exact call_range_1 (range_it I1 (by lia) (by lia) q1 q2 (by simpa using q))
def tFor (wi : TI) (g : TG) (tb : TS) : TS := fun D σ H => wi σ H fun J H1 => ∃ W : Nat -> Nat -> St -> Hp -> Prop, (∃ m, W 0 m σ H1) /\ ∀ i m σ H, W i m σ H ->
 (J.stop i H /\ D.nx σ H) ∨ (J.go i H /\ ∃ N : St -> Hp -> Prop, (∀ σ' H', N σ' H' -> ∃ m', m' < m /\ W (i + 1) m' σ' H') /\ ∀ x H', J.yld i H x H' -> g x σ H' fun σ2 H2 => tb { D with nx := N, ct := N, bk := D.nx } σ2 H2)
def pinsAt (fp : List Addr) (h : Heap) : List (Addr × Obj) := fp.filterMap fun b => (h.get? b).map fun o => (b, o)
theorem mem_pinsAt {fp : List Addr} {h : Heap} {b : Addr} {o : Obj} (hb : b ∈ fp) (e : h.get? b = some o) : (b, o) ∈ pinsAt fp h := List.mem_filterMap.mpr ⟨b, hb, by rw [e]; rfl⟩
theorem of_pinsAt {fp : List Addr} {h : Heap} {p : Addr × Obj} (hp : p ∈ pinsAt fp h) : p.1 ∈ fp /\ h.get? p.1 = some p.2 := by
 obtain ⟨b, hb, e⟩ := List.mem_filterMap.mp hp
 cases q : h.get? b with
 | none => rw [q] at e; cases e
 | some o =>
  rw [q] at e
  have e' : (b, o) = p := Option.some.inj e
  subst e'
  exact ⟨hb, q⟩
theorem Inv.pinned {pins : List (Addr × Obj)} {σ : St} {H : Hp} {s : Shared} {fp : List Addr} (I : Inv X pins σ H s) (hf : ∀ b ∈ fp, FpOk X pins H b) (ho : ∀ b ∈ fp, ∃ o, s.heap.get? b = some o /\ ∀ v, o.data ≠ .cell v) : Inv X (pins ++ pinsAt fp s.heap) σ H s :=
 I.pins_of fun p hp => (List.mem_append.mp hp).elim (fun z => I.pin p (List.mem_append_right _ z)) fun z => by
  obtain ⟨hb, e⟩ := of_pinsAt z
  obtain ⟨f0, f1, f2, _⟩ := hf p.1 hb
  obtain ⟨o, e', d⟩ := ho p.1 hb
  rw [e] at e'; cases e'
  exact ⟨e, f0, f1, f2, d⟩
theorem Inv.unpinned {pins pl : List (Addr × Obj)} {σ : St} {H : Hp} {s : Shared} (I : Inv X (pins ++ pl) σ H s) : Inv X pins σ H s := I.pins_of fun p hp => I.pin p (List.mem_append_right _ (List.mem_append_left _ hp))
theorem ps_for {iter : Expr} {body : List Stmt} {wi : TI} {g : TG} {tb : TS} {pos : Pos} (hp : PassesOwn (model X.prog X.w) X.A X.env X.xe) (hc : X.calm = true) (hi : PI X tg iter wi) (hg : PG X tg g) (hb : PSs X body tb)
  (hs : ∀ x, foldedSetIterable iter X.env x = pure x := by intro _; rfl) : PS X (.For tg iter body [] pos) (tFor wi g tb) := by
 intro pins s σ H D I h
 refine wpAny_For (thn (hi pins s σ H _ I h) fun v s1 h1 => thn h1 fun itv s2 h2 => ?_) hs
 obtain ⟨it, fp, tn, J, H2, e, I2, T, st2, f2, W, ⟨m0, w0⟩, turn⟩ := h2
 subst e
 have stat : ∀ {H' : Hp}, (∀ b ∈ fp, H' b = none) -> ∀ b ∈ fp, FpOk X pins H' b := fun hn b hb => ⟨hn b hb, (f2 b hb).2⟩
 refine codeAny_forLoop_any (fun n s' => ∃ i σ' H', Inv X pins σ' H' s' /\ tn i s'.heap /\ (∀ b ∈ fp, H' b = none) /\ W i n σ' H') ?_ m0 ⟨0, σ, H2, I2, st2, fun b hb => (f2 b hb).1, w0⟩
 rintro n s3 ⟨i, σ3, H3, I3, st3, fr3, w3⟩
 rcases turn i n σ3 H3 w3 with ⟨stop, qn⟩ | ⟨go, N, hN, step⟩
 ·refine wpAny_passesOwn hp (thn (T.done X rfl rfl rfl hc i pins s3 σ3 H3 X.xe I3 (stat fr3) st3 stop) fun r s4 ⟨hr, I4⟩ => ?_)
  subst hr
  exact wpAny_execs_nil ⟨σ3, H3, I4, qn⟩
 ·refine wpAny_passesOwn hp (thn (T.item X rfl rfl rfl hc i pins s3 σ3 H3 X.xe I3 (stat fr3) st3 go) fun r s4 ⟨u, hr, h4⟩ => ?_)
  subst hr
  refine wpAny_passesOwn hp (thn h4 fun _ s5 ⟨x, H5, I5, r5, y5, st5, fr5⟩ => ?_)
  have I5' := I5.pinned (stat fr5) (T.obj _ _ st5)
  refine wpAny_passesOwn hp (thn (hg _ s5 σ3 H5 x u _ I5' r5 (step x H5 y5)) fun _ s6 ⟨σ6, H6, I6, q6⟩ => ?_)
  refine wpAny_passesOwn hp (thn (hb _ s6 σ6 H6 _ I6 q6) fun f s7 q7 => ?_)
  have again : ∀ {σ7 : St} {H7 : Hp}, Inv X (pins ++ pinsAt fp s5.heap) σ7 H7 s7 -> N σ7 H7 -> ∃ m, m < n /\ ∃ i σ' H', Inv X pins σ' H' s7 /\ tn i s7.heap /\ (∀ b ∈ fp, H' b = none) /\ W i m σ' H' := fun {σ7 H7} I7 n7 => by
   obtain ⟨m', hm, w7⟩ := hN σ7 H7 n7
   refine ⟨m', hm, i + 1, σ7, H7, I7.unpinned, T.keep _ _ _ st5 fun b hb o e => (I7.pin (b, o) (List.mem_append_right _ (List.mem_append_right _ (mem_pinsAt hb e)))).1, fun b hb => ?_, w7⟩
   obtain ⟨o, e, d⟩ := T.obj _ _ st5 b hb
   exact (I7.pin (b, o) (List.mem_append_right _ (List.mem_append_right _ (mem_pinsAt hb e)))).2.1
  cases f with
  | next => obtain ⟨σ7, H7, I7, n7⟩ := q7; exact again I7 n7
  | cont => obtain ⟨σ7, H7, I7, n7⟩ := q7; exact again I7 n7
  | brk => obtain ⟨σ7, H7, I7, q7⟩ := q7; exact ⟨σ7, H7, I7.unpinned, q7⟩
  | ret v => obtain ⟨x7, σ7, H7, I7, r7, q7⟩ := q7; exact ⟨x7, σ7, H7, I7.unpinned, r7, q7⟩
end
theorem for_list {K : W.Frag} {a : Addr} {xs : List V} {g : TG} {tb : TS} {D : Ends} {σ : St} {H : Hp} (Pv : Nat -> St -> Hp -> Prop) (h0 : Pv 0 σ H) (hl : ∀ i σ H, i <= xs.length -> Pv i σ H -> SqL K H a xs)
  (hs : ∀ i x σ H, xs[i]? = some x -> Pv i σ H -> g x σ H fun σ2 H2 => tb { D with nx := Pv (i + 1), ct := Pv (i + 1), bk := D.nx } σ2 H2) (hd : ∀ σ H, Pv xs.length σ H -> D.nx σ H) :
  ∃ W : Nat -> Nat -> St -> Hp -> Prop, (∃ m, W 0 m σ H) /\ ∀ i m σ H, W i m σ H ->
   ((Itl K a).stop i H /\ D.nx σ H) ∨ ((Itl K a).go i H /\ ∃ N : St -> Hp -> Prop, (∀ σ' H', N σ' H' -> ∃ m', m' < m /\ W (i + 1) m' σ' H') /\ ∀ x H', (Itl K a).yld i H x H' -> g x σ H' fun σ2 H2 => tb { D with nx := N, ct := N, bk := D.nx } σ2 H2) := by
 refine ⟨fun i m σ H => m = xs.length - i /\ i <= xs.length /\ Pv i σ H, ⟨xs.length, by simp, Nat.zero_le _, h0⟩, ?_⟩
 rintro i m σ H ⟨rfl, hi, p⟩
 have q := hl i σ H hi p
 by_cases hlt : i < xs.length
 ·refine .inr ⟨⟨xs, xs[i], q, by simp [hlt]⟩, Pv (i + 1), fun σ' H' p' => ⟨xs.length - (i + 1), by lia, rfl, hlt, p'⟩, fun x H' y => ?_⟩
  obtain ⟨e, y⟩ := y
  subst e
  exact hs i x σ _ (y xs q) p
 ·have e : i = xs.length := by lia
  subst e
  exact .inl ⟨⟨xs, q, Nat.le_refl _⟩, hd σ H p⟩
theorem for_range {lo : Int} {n : Nat} {g : TG} {tb : TS} {D : Ends} {σ : St} {H : Hp} (Pv : Nat -> St -> Hp -> Prop) (h0 : Pv 0 σ H)
  (hs : ∀ i σ H, i < n -> Pv i σ H -> g (.int (lo + i)) σ H fun σ2 H2 => tb { D with nx := Pv (i + 1), ct := Pv (i + 1), bk := D.nx } σ2 H2) (hd : ∀ σ H, Pv n σ H -> D.nx σ H) :
  ∃ W : Nat -> Nat -> St -> Hp -> Prop, (∃ m, W 0 m σ H) /\ ∀ i m σ H, W i m σ H ->
   ((Itr lo n).stop i H /\ D.nx σ H) ∨ ((Itr lo n).go i H /\ ∃ N : St -> Hp -> Prop, (∀ σ' H', N σ' H' -> ∃ m', m' < m /\ W (i + 1) m' σ' H') /\ ∀ x H', (Itr lo n).yld i H x H' -> g x σ H' fun σ2 H2 => tb { D with nx := N, ct := N, bk := D.nx } σ2 H2) := by
 refine ⟨fun i m σ H => m = n - i /\ i <= n /\ Pv i σ H, ⟨n, by simp, Nat.zero_le _, h0⟩, ?_⟩
 rintro i m σ H ⟨rfl, hi, p⟩
 by_cases hlt : i < n
 ·refine .inr ⟨hlt, Pv (i + 1), fun σ' H' p' => ⟨n - (i + 1), by lia, rfl, hlt, p'⟩, fun x H' y => ?_⟩
  obtain ⟨e, y⟩ := y
  subst e y
  exact hs i σ _ hlt p
 ·have e : i = n := by lia
  subst e
  exact .inl ⟨Nat.le_refl _, hd σ H p⟩
abbrev R2 := V -> V -> Hp -> VK -> Prop
def OpR (X : Cx) (f : Value -> Value -> Sem Value) (r : R2) : Prop :=
 ∀ (pins : List (Addr × Obj)) (s : Shared) (σ : St) (H : Hp) (x y : V) (v u : Value) (Q : VK), Inv X pins σ H s -> RelV x v -> RelV y u -> r x y H Q ->
  wpAny (model X.prog X.w) X.A (f v u) (EP X pins σ Q) X.xe s
def UnR (X : Cx) (f : Value -> Sem Value) (r : V -> Hp -> VK -> Prop) : Prop :=
 ∀ (pins : List (Addr × Obj)) (s : Shared) (σ : St) (H : Hp) (x : V) (v : Value) (Q : VK), Inv X pins σ H s -> RelV x v -> r x H Q ->
  wpAny (model X.prog X.w) X.A (f v) (EP X pins σ Q) X.xe s
def CallR (X : Cx) (f : Value) (r : List V -> Hp -> VK -> Prop) : Prop :=
 ∀ (pins : List (Addr × Obj)) (s : Shared) (σ : St) (H : Hp) (xs : List V) (us : List Value) (Q : VK), Inv X pins σ H s -> Vals xs us -> r xs H Q ->
  wpAny (model X.prog X.w) X.A (call f us) (EP X pins σ Q) X.xe s
def TruR (X : Cx) (r : V -> Hp -> (Bool -> Hp -> Prop) -> Prop) : Prop :=
 ∀ (pins : List (Addr × Obj)) (s : Shared) (σ : St) (H : Hp) (x : V) (v : Value) (Q : Bool -> Hp -> Prop), Inv X pins σ H s -> RelV x v -> r x H Q ->
  wpAny (model X.prog X.w) X.A (truthy v) (TP X pins σ Q) X.xe s
def tOp (r : R2) (ta tb : TE) : TE := fun σ H Q => ta σ H fun x H1 => tb σ H1 fun y H2 => r x y H2 Q
def tUn (r : V -> Hp -> VK -> Prop) (ta : TE) : TE := fun σ H Q => ta σ H fun x H1 => r x H1 Q
def rI (C : Int -> Int -> Prop) (g : Int -> Int -> V) : R2 := fun x y H Q => ∃ i j, x = .int i /\ y = .int j /\ C i j /\ Q (g i j) H
def rI0 (g : Int -> Int -> V) : R2 := fun x y H Q => ∃ i j, x = .int i /\ y = .int j /\ Q (g i j) H
def rU (g : Int -> V) : V -> Hp -> VK -> Prop := fun x H Q => ∃ i, x = .int i /\ Q (g i) H
section
variable {X : Cx} {a b c : Expr} {ta tb tc : TE} {pos : Pos}
theorem binT (ha : PE X a ta) (hb : PE X b tb) {pins : List (Addr × Obj)} {s : Shared} {σ : St} {H : Hp} {R : V -> V -> Hp -> Prop} (I : Inv X pins σ H s)
  (h : ta σ H fun x H1 => tb σ H1 fun y H2 => R x y H2) {Q : Value -> Shared -> Prop} {f : Value -> Value -> Sem Value}
  (hf : ∀ v u s2 x y H2, Inv X pins σ H2 s2 -> RelV x v -> RelV y u -> R x y H2 -> wpAny (model X.prog X.w) X.A (f v u) Q X.xe s2) :
  wpAny (model X.prog X.w) X.A (eval a X.env) (fun v s₁ => wpAny (model X.prog X.w) X.A (eval b X.env) (fun u s₂ => wpAny (model X.prog X.w) X.A (f v u) Q X.xe s₂) X.xe s₁) X.xe s := by
 refine thn (ha pins s σ H _ I h) fun v s1 ⟨x, H1, I1, r1, q1⟩ => ?_
 refine thn (hb pins s1 σ H1 _ I1 q1) fun u s2 ⟨y, H2, I2, r2, q2⟩ => ?_
 exact hf v u s2 x y H2 I2 r1 r2 q2
theorem pe_op {op : Operator} {r : R2} (ho : OpR X (binaryOp op) r) (ha : PE X a ta) (hb : PE X b tb) : PE X (.BinOp a op b pos) (tOp r ta tb) := by
 intro pins s σ H Q I h
 exact wpAny_BinOp (binT ha hb I h fun v u s2 x y H2 I2 rx ry q => ho pins s2 σ H2 x y v u Q I2 rx ry q)
theorem pe_un {op : UnaryOp} {r : V -> Hp -> VK -> Prop} (ho : UnR X (unaryOp op) r) (ha : PE X a ta) : PE X (.UnaryOp op a pos) (tUn r ta) := by
 intro pins s σ H Q I h
 exact UnaryOp_ (thn (ha pins s σ H _ I h) fun v s1 ⟨x, H1, I1, r1, q1⟩ => ho pins s1 σ H1 x v Q I1 r1 q1)
theorem opI {f : Value -> Value -> Sem Value} {C : Int -> Int -> Prop} {g : Int -> Int -> Int}
  (rule : ∀ (i j : Int) (t u : Tok) (s : Shared) (Q : Value -> Shared -> Prop) (E : Value -> Shared -> Prop), C i j -> Q (.int (g i j) s.toks) { s with toks := s.toks + 1 } -> wpAny (model X.prog X.w) X.A (f (.int i t) (.int j u)) Q E s) :
  OpR X f (rI C fun i j => .int (g i j)) := by
 intro pins s σ H x y v u Q I rx ry h
 obtain ⟨i, j, rfl, rfl, hc, q⟩ := h
 obtain ⟨t, rfl⟩ := rx
 obtain ⟨t', rfl⟩ := ry
 exact rule i j t t' s _ _ hc ⟨.int (g i j), H, I.tok _, ⟨_, rfl⟩, q⟩
theorem opI0 {f : Value -> Value -> Sem Value} {g : Int -> Int -> Int}
  (rule : ∀ (i j : Int) (t u : Tok) (s : Shared) (Q : Value -> Shared -> Prop) (E : Value -> Shared -> Prop), Q (.int (g i j) s.toks) { s with toks := s.toks + 1 } -> wpAny (model X.prog X.w) X.A (f (.int i t) (.int j u)) Q E s) :
  OpR X f (rI0 fun i j => .int (g i j)) := by
 intro pins s σ H x y v u Q I rx ry h
 obtain ⟨i, j, rfl, rfl, q⟩ := h
 obtain ⟨t, rfl⟩ := rx
 obtain ⟨t', rfl⟩ := ry
 exact rule i j t t' s _ _ ⟨.int (g i j), H, I.tok _, ⟨_, rfl⟩, q⟩
theorem opB0 {f : Value -> Value -> Sem Value} {g : Int -> Int -> Bool}
  (rule : ∀ (i j : Int) (t u : Tok) (s : Shared) (Q : Value -> Shared -> Prop) (E : Value -> Shared -> Prop), Q (.bool (g i j)) s -> wpAny (model X.prog X.w) X.A (f (.int i t) (.int j u)) Q E s) :
  OpR X f (rI0 fun i j => .bl (g i j)) := by
 intro pins s σ H x y v u Q I rx ry h
 obtain ⟨i, j, rfl, rfl, q⟩ := h
 obtain ⟨t, rfl⟩ := rx
 obtain ⟨t', rfl⟩ := ry
 exact rule i j t t' s _ _ ⟨.bl (g i j), H, I, rfl, q⟩
def CDiv (i j : Int) : Prop := 0 < j /\ j < 1073741824
theorem op_add : OpR X (binaryOp .Add) (rI0 fun i j => .int (i + j)) := opI0 fun _ _ _ _ _ _ _ q => add_int q
theorem op_fdiv : OpR X (binaryOp .FloorDiv) (rI CDiv fun i j => .int (i / j)) := opI fun i j _ _ _ _ _ hc q => by
 have h1 : (0 : Int) < j := hc.1
 have h2 : j < 1073741824 := hc.2
 exact floordiv_int (by lia) (by rw [Int.fdiv_eq_ediv_of_nonneg i (by lia)]; exact q) (.inl (PyProof.noPylong_small (by lia)))
theorem op_mod : OpR X (binaryOp .Mod) (rI (fun _ j => 0 < j) fun i j => .int (i % j)) := opI fun i j _ _ _ _ _ hc q => by
 have h1 : (0 : Int) < j := hc
 exact mod_int' (by lia) (by rw [Int.fmod_eq_emod_of_nonneg i (by lia)]; exact q)
theorem unI {f : Value -> Sem Value} {g : Int -> Int}
  (rule : ∀ (i : Int) (t : Tok) (s : Shared) (Q : Value -> Shared -> Prop) (E : Value -> Shared -> Prop), Q (.int (g i) s.toks) { s with toks := s.toks + 1 } -> wpAny (model X.prog X.w) X.A (f (.int i t)) Q E s) :
  UnR X f (rU fun i => .int (g i)) := by
 intro pins s σ H x v Q I rx h
 obtain ⟨i, rfl, q⟩ := h
 obtain ⟨t, rfl⟩ := rx
 exact rule i t s _ _ ⟨.int (g i), H, I.tok _, ⟨_, rfl⟩, q⟩
theorem un_neg : UnR X (unaryOp .USub) (rU fun i => .int (-i)) := unI fun _ _ _ _ _ q => neg_int q
end
def scal : V -> V -> Bool
 | .non, .non => true | .non, .int _ => true | .int _, .non => true | .non, .bl _ => true | .bl _, .non => true | .non, .str _ => true | .str _, .non => true
 | .int _, .int _ => true | .bl _, .bl _ => true | .str _, .str _ => true | .byt _, .byt _ => true
 | .int _, .str _ => true | .str _, .int _ => true | .bl _, .str _ => true | .str _, .bl _ => true
 | _, _ => false
def rEq : R2 := fun x y H Q => scal x y = true /\ Q (.bl (decide (x = y))) H
def rNe : R2 := fun x y H Q => scal x y = true /\ Q (.bl (!decide (x = y))) H
theorem dec_int {i j : Int} : decide (V.int i = V.int j) = (i == j) := by
 rw [Bool.eq_iff_iff]
 simp
theorem dec_bl {i j : Bool} : decide (V.bl i = V.bl j) = (i == j) := by
 rw [Bool.eq_iff_iff]
 simp
theorem dec_str {i j : Str} : decide (V.str i = V.str j) = (i == j) := by
 rw [Bool.eq_iff_iff]
 simp
theorem dec_byt {i j : Array UInt8} : decide (V.byt i = V.byt j) = (i.toList == j.toList) := by
 rw [Bool.eq_iff_iff]
 cases i
 cases j
 simp
section
variable {X : Cx} {a b c : Expr} {ta tb tc : TE} {pos : Pos}
theorem fin_bl {pins : List (Addr × Obj)} {σ : St} {H : Hp} {s : Shared} {Q : VK} {k k' : Bool} (I : Inv X pins σ H s) (q : Q (.bl k) H) (e : k = k') : EP X pins σ Q (.bool k') s := by
 subst e
 exact ⟨.bl k, H, I, rfl, q⟩
theorem op_eq : OpR X (compareOp .Eq) rEq := by
 intro pins s σ H x y v u Q I rx ry h
 obtain ⟨hs, q⟩ := h
 cases x with
 | non =>
  cases rx
  cases y with
  | non => cases ry; exact PySem.EqNone.eq_none_none (fin_bl I q (by simp))
  | bl j => cases ry; exact PySem.EqNone.eq_none_bool (fin_bl I q (by simp))
  | int j => obtain ⟨t', rfl⟩ := ry; exact PySem.EqNone.eq_none_int (fin_bl I q (by simp))
  | str j => obtain ⟨t', rfl⟩ := ry; exact PySem.EqNone.eq_none_str (fin_bl I q (by simp))
  | _ => exact absurd (show false = true from hs) Bool.false_ne_true
 | bl i =>
  cases rx
  cases y with
  | non => cases ry; exact PySem.EqNone.eq_bool_none (fin_bl I q (by simp))
  | bl j => cases ry; exact eq_bool (fin_bl I q dec_bl)
  | str j => obtain ⟨t', rfl⟩ := ry; exact PySem.EqMixed.eq_bool_str (fin_bl I q (by simp))
  | _ => exact absurd (show false = true from hs) Bool.false_ne_true
 | int i =>
  obtain ⟨t, rfl⟩ := rx
  cases y with
  | non => cases ry; exact PySem.EqNone.eq_int_none (fin_bl I q (by simp))
  | int j => obtain ⟨t', rfl⟩ := ry; exact eq_int (fin_bl I q dec_int)
  | str j => obtain ⟨t', rfl⟩ := ry; exact PySem.EqMixed.eq_int_str (fin_bl I q (by simp))
  | _ => exact absurd (show false = true from hs) Bool.false_ne_true
 | str i =>
  obtain ⟨t, rfl⟩ := rx
  cases y with
  | non => cases ry; exact PySem.EqNone.eq_str_none (fin_bl I q (by simp))
  | bl j => cases ry; exact PySem.EqMixed.eq_str_bool (fin_bl I q (by simp))
  | int j => obtain ⟨t', rfl⟩ := ry; exact PySem.EqMixed.eq_str_int (fin_bl I q (by simp))
  | str j => obtain ⟨t', rfl⟩ := ry; exact eq_str (fin_bl I q dec_str)
  | _ => exact absurd (show false = true from hs) Bool.false_ne_true
 | byt i =>
  obtain ⟨t, rfl⟩ := rx
  cases y with
  | byt j => obtain ⟨t', rfl⟩ := ry; exact PySem.W.eq_bytes (fin_bl I q dec_byt)
  | _ => exact absurd (show false = true from hs) Bool.false_ne_true
 | _ => cases y <;> exact absurd (show false = true from hs) Bool.false_ne_true
theorem op_ne : OpR X (compareOp .NotEq) rNe := by
 intro pins s σ H x y v u Q I rx ry h
 obtain ⟨hs, q⟩ := h
 cases x with
 | non =>
  cases rx
  cases y with
  | non => cases ry; exact PySem.EqNone.ne_none_none (fin_bl I q (by simp))
  | bl j => cases ry; exact PySem.EqNone.ne_none_bool (fin_bl I q (by simp))
  | int j => obtain ⟨t', rfl⟩ := ry; exact PySem.EqNone.ne_none_int (fin_bl I q (by simp))
  | str j => obtain ⟨t', rfl⟩ := ry; exact PySem.EqNone.ne_none_str (fin_bl I q (by simp))
  | _ => exact absurd (show false = true from hs) Bool.false_ne_true
 | bl i =>
  cases rx
  cases y with
  | non => cases ry; exact PySem.EqNone.ne_bool_none (fin_bl I q (by simp))
  | bl j => cases ry; exact ne_bool (fin_bl I q (congrArg not dec_bl))
  | str j => obtain ⟨t', rfl⟩ := ry; exact PySem.EqMixed.ne_bool_str (fin_bl I q (by simp))
  | _ => exact absurd (show false = true from hs) Bool.false_ne_true
 | int i =>
  obtain ⟨t, rfl⟩ := rx
  cases y with
  | non => cases ry; exact PySem.EqNone.ne_int_none (fin_bl I q (by simp))
  | int j => obtain ⟨t', rfl⟩ := ry; exact ne_int (fin_bl I q (congrArg not dec_int))
  | str j => obtain ⟨t', rfl⟩ := ry; exact PySem.EqMixed.ne_int_str (fin_bl I q (by simp))
  | _ => exact absurd (show false = true from hs) Bool.false_ne_true
 | str i =>
  obtain ⟨t, rfl⟩ := rx
  cases y with
  | non => cases ry; exact PySem.EqNone.ne_str_none (fin_bl I q (by simp))
  | bl j => cases ry; exact PySem.EqMixed.ne_str_bool (fin_bl I q (by simp))
  | int j => obtain ⟨t', rfl⟩ := ry; exact PySem.EqMixed.ne_str_int (fin_bl I q (by simp))
  | str j => obtain ⟨t', rfl⟩ := ry; exact ne_str (fin_bl I q (congrArg not dec_str))
  | _ => exact absurd (show false = true from hs) Bool.false_ne_true
 | byt i =>
  obtain ⟨t, rfl⟩ := rx
  cases y with
  | byt j => obtain ⟨t', rfl⟩ := ry; exact PySem.W.ne_bytes (fin_bl I q (congrArg not dec_byt))
  | _ => exact absurd (show false = true from hs) Bool.false_ne_true
 | _ => cases y <;> exact absurd (show false = true from hs) Bool.false_ne_true
theorem op_lt : OpR X (compareOp .Lt) (rI0 fun i j => .bl (decide (i < j))) := opB0 fun _ _ _ _ _ _ _ q => lt_int q
theorem op_gt : OpR X (compareOp .Gt) (rI0 fun i j => .bl (decide (j < i))) := opB0 fun _ _ _ _ _ _ _ q => gt_int q
theorem op_notN : OpR X (compareOp .IsNot) (fun x y H Q => y = .non /\ Q (.bl (!decide (x = .non))) H) := by
 intro pins s σ H x y v u Q I rx ry h
 obtain ⟨rfl, q⟩ := h
 cases ry
 refine isnot_none_gen (fin_bl I q ?_)
 cases x <;> first
  | (cases rx; rfl)
  | (obtain ⟨t, rfl⟩ := rx; rfl)
theorem nomark (b : Expr) {op : CmpOp} (h : op ≠ .In := by decide) (h2 : op ≠ .NotIn := by decide) : behindInMarks op b = false := by
 have e1 : (op == CmpOp.In) = false := by cases op <;> first | rfl | exact absurd rfl h
 have e2 : (op == CmpOp.NotIn) = false := by cases op <;> first | rfl | exact absurd rfl h2
 cases b <;> simp [behindInMarks, e1, e2]
theorem pe_cmpR {op : CmpOp} {r : R2} (ho : OpR X (compareOp op) r) (ha : PE X a ta) (hb : PE X b tb) (hm : behindInMarks op b = false) : PE X (.Compare a [op] [b] pos) (tOp r ta tb) := by
 intro pins s σ H Q I h
 exact wpAny_Compare1 (binT ha hb I h fun v u s2 x y H2 I2 rx ry q => ho pins s2 σ H2 x y v u Q I2 rx ry q) hm
def tTest (t : TE) : TT := fun σ H Q => t σ H fun x H' => ∃ k, x = .bl k /\ Q k H'
theorem pt_cmpR {op : CmpOp} {r : R2} (ho : OpR X (compareOp op) r) (ha : PE X a ta) (hb : PE X b tb) (hm : behindInMarks op b = false) : PT X (.Compare a [op] [b] pos) (tTest (tOp r ta tb)) := by
 intro pins s σ H Q I h
 refine wpAny_isTrue_Compare1 (thn (ha pins s σ H _ I h) fun v s1 ⟨x, H1, I1, r1, q1⟩ => thn (hb pins s1 σ H1 _ I1 q1) fun u s2 ⟨y, H2, I2, r2, q2⟩ =>
  thn (ho pins s2 σ H2 x y v u _ I2 r1 r2 q2) fun c s3 ⟨z, H3, I3, r3, k, e, q3⟩ => ?_) hm
 subst e
 cases r3
 exact wpAny_truthy_bool ⟨H3, I3, q3⟩
def TruV (K : W.Frag) (x : V) (H : Hp) (k : Bool) : Prop :=
 match x with
 | .non => k = false
 | .bl b => k = b
 | .int i => k = (i != 0)
 | .str y => y.length <= sizeLine /\ k = ((y.length : Int) != 0)
 | .byt y => y.size <= sizeLine /\ k = ((y.size : Int) != 0)
 | .ref p => (∃ xs, SqL K H p xs /\ k = !xs.isEmpty) ∨ (∃ xs, SqT K H p xs /\ k = !xs.isEmpty) ∨ ∃ kvs, H p = some (.dK kvs) /\ k = !kvs.isEmpty
 | _ => False
theorem isEmpty_kv {κ : Type} {kvs : List (κ × V)} {vs : List (κ × Value)} (r : KV kvs vs) : (!vs.isEmpty) = !kvs.isEmpty := by
 cases r <;> rfl
theorem isEmpty_of {xs : List V} {its : List Value} (r : Vals xs its) : (!its.toArray.isEmpty) = !xs.isEmpty := by
 cases r <;> simp
theorem line63 : (sizeLine : Nat) < 2 ^ 63 := by rw [sizeLine_eq]; decide
theorem tru_ok : TruR X (fun x H Q => ∃ k, TruV X.K x H k /\ Q k H) := by
 intro pins s σ H x v Q I rx h
 obtain ⟨k, e, q⟩ := h
 have hl := line63
 have hs : sizeLine = 16777216 := sizeLine_eq
 cases x with
 | non =>
  cases rx
  have e' : k = false := e
  subst e'
  exact truthy_none ⟨H, I, q⟩
 | bl b =>
  cases rx
  have e' : k = b := e
  subst e'
  exact wpAny_truthy_bool ⟨H, I, q⟩
 | int i =>
  obtain ⟨t, rfl⟩ := rx
  have e' : k = (i != 0) := e
  subst e'
  exact PySem.P.truthy_int ⟨H, I, q⟩
 | str y =>
  obtain ⟨t, rfl⟩ := rx
  obtain ⟨hy, e'⟩ : y.length <= sizeLine /\ k = ((y.length : Int) != 0) := e
  subst e'
  exact PySem.P.truthy_str (by lia) ⟨H, I.tok _, q⟩
 | byt y =>
  obtain ⟨t, rfl⟩ := rx
  obtain ⟨hy, e'⟩ : y.size <= sizeLine /\ k = ((y.size : Int) != 0) := e
  subst e'
  exact PySem.W.truthy_bytes (by lia) ⟨H, I.tok _, q⟩
 | ref p =>
  cases rx
  have e' : (∃ xs, SqL X.K H p xs /\ k = !xs.isEmpty) ∨ (∃ xs, SqT X.K H p xs /\ k = !xs.isEmpty) ∨ ∃ kvs, H p = some (.dK kvs) /\ k = !kvs.isEmpty := e
  rcases e' with ⟨xs, hx, e'⟩ | ⟨xs, hx, e'⟩ | ⟨kvs, hx, e'⟩
  ·subst e'
   obtain ⟨its, r, pl, hz⟩ := I.list hx
   have hlen := r.length
   exact wpAny_truthy_list pl.isList (by simp only [List.size_toArray]; lia) ⟨H, I.tok _, by rw [isEmpty_of r]; exact q⟩
  ·subst e'
   obtain ⟨its, r, pl, hz⟩ := I.tuple hx
   have hlen := r.length
   exact truthy_tuple pl (by simp only [List.size_toArray]; lia) ⟨H, I.tok _, by rw [isEmpty_of r]; exact q⟩
  ·subst e'
   obtain ⟨hz, hS, vs, r, m⟩ : kvs.length <= sizeLine /\ (p == sysModules) = false /\ ∃ vs, KV kvs vs /\ s.heap.DictOf (mixKind X.prog X.w) p vs := I.hok p _ hx
   have hlen : kvs.length = vs.length := Paired.length r
   exact wpAny_truthy_dict hS m (by lia) ⟨H, I.tok _, by rw [isEmpty_kv r]; exact q⟩
 | _ => exact (show False from e).elim
theorem pt_truth (ha : PE X a ta) (he : ∀ whole, isTrue a X.env whole = (do let v <- whole; standAt a.pos; holding [v] (truthy v))) :
  PT X a (fun σ H Q => ta σ H fun x H' => ∃ k, TruV X.K x H' k /\ Q k H') := by
 intro pins s σ H Q I h
 exact isTrue_plain (thn (ha pins s σ H _ I h) fun v s1 ⟨x, H1, I1, r1, q1⟩ => tru_ok pins s1 σ H1 x v Q I1 r1 q1) (he _)
theorem vals1 {x : V} {us : List Value} (r : Vals [x] us) : ∃ u, us = [u] /\ RelV x u := by
 cases r with
 | cons r1 r2 => cases r2; exact ⟨_, rfl, r1⟩
theorem vals2 {x y : V} {us : List Value} (r : Vals [x, y] us) : ∃ u w', us = [u, w'] /\ RelV x u /\ RelV y w' := by
 cases r with
 | cons r1 r2 =>
  cases r2 with
  | cons r3 r4 => cases r4; exact ⟨_, _, rfl, r1, r3⟩
end
structure ObjM (h : Heap) (x dx C : Addr) (mA : Str -> Option Value) : Prop where
 obj : h.get? x = some (PySem.W.instObj C dx)
 ns : h.Ns1 dx mA
 ne : dx ≠ x
theorem lookIn_ns {h : Heap} {dx : Addr} {mA : Str -> Option Value} (n : h.Ns1 dx mA) : ∃ od, h.get? dx = some od /\ ∀ name, PySem.W.lookIn name od = some (mA name) := by
 obtain ⟨o, es, ep, ho, hd, hk, _, hm⟩ := n
 refine ⟨o, ho, fun name => ?_⟩
 have e := hm name
 unfold nsFind findBy at e
 rw [<- Array.find?_toList] at e
 unfold PySem.W.lookIn
 rw [hd]
 dsimp only
 split
 ·rename_i y q
  rw [q] at e
  exact congrArg some e
 ·rename_i q
  rw [q] at e
  have a : es.toList.any (·.refKey) = false := by
   rw [List.any_eq_false]
   intro y hy
   obtain ⟨z, t, hkey⟩ := hk y (Array.mem_toList_iff.mp hy)
   simp [DictEntry.refKey, hkey]
  have a' : ¬ es.toList.any (·.refKey) = true := by rw [a]; exact Bool.false_ne_true
  rw [if_neg a']
  exact congrArg some e
theorem ObjM.look {h : Heap} {x dx C : Addr} {mA : Str -> Option Value} (I : ObjM h x dx C mA) : ∃ od, PySem.W.InstAt h x (PySem.W.instObj C dx) C (some od) /\ ∀ name, PySem.W.lookIn name od = some (mA name) :=
 let ⟨od, ho, hl⟩ := lookIn_ns I.ns
 ⟨od, ⟨I.obj, rfl, rfl, ho⟩, hl⟩
theorem RelO.some_of {v : V} {o : Option Value} (r : RelO (some v) o) : ∃ u, o = some u /\ RelV v u := by
 cases o with
 | none => exact (show False from r).elim
 | some u => exact ⟨u, rfl, r⟩
section
variable {P : Program} {w : World} {H H' : Hp} {h h' : Heap} {a C dx : Addr} {fs fs' : List (Str × V)}
theorem ins_get (hok : HOk P w H h) (e : H a = some (.ins C dx fs)) : ∃ mA, ObjM h a dx C mA /\ (∀ f, RelO (fs.lookup f) (mA f)) /\ PySem.Within mA (fs.map (·.1)) /\ fs.length <= 1000 /\ H dx = some (.own a) := by
 obtain ⟨d, z, ne, ob, mA, n, r, q⟩ := (show ObjOk P w H h a (.ins C dx fs) from hok a _ e)
 exact ⟨mA, ⟨ob, n, ne⟩, r, q, z, d⟩
end
structure Cls (K : W.Frag) (C : Addr) : Prop where
 pg : PySem.W.plainGet K C Str.empty = true
 hd : PySem.W.hasDictIn K C = true
 po : PySem.W.plainOver K C = true
 sa : PySem.W.findIn K (.ref C) "__setattr__" = some (some (.builtin "object.__setattr__"))
theorem Cls.get {K : W.Frag} {C : Addr} (c : Cls K C) (f : Str) : PySem.W.plainGet K C f = true := c.pg
section
variable {X : Cx} {pins : List (Addr × Obj)} {σ : St} {H : Hp} {s : Shared} {A : Around} {E : Value -> Shared -> Prop} {Q : Value -> Shared -> Prop} {c : Value} {b : Bool}
inductive TyOf (K : W.Frag) (H : Hp) : V -> Value -> Prop where
 | non : TyOf K H .non (.type "NoneType")
 | bl (x : Bool) : TyOf K H (.bl x) (.type "bool")
 | int (i : Int) : TyOf K H (.int i) (.type "int")
 | str (x : Str) : TyOf K H (.str x) (.type "str")
 | flt (x : UInt64) : TyOf K H (.flt x) (.type "float")
 | lst {a : Addr} {xs : List V} (e : H a = some (.lst xs)) : TyOf K H (.ref a) (.type "list")
 | frz {a : Addr} {o : Obj} {xs : List V} (e : H a = some (.frz o (.lst xs))) : TyOf K H (.ref a) (.type "list")
 | tup {a : Addr} {xs : List V} (e : H a = some (.tup xs)) : TyOf K H (.ref a) (.type "tuple")
 | dK {a : Addr} {kvs : List (Key × V)} (e : H a = some (.dK kvs)) : TyOf K H (.ref a) (.type "dict")
 | dT {a : Addr} {kvs : List (List Key × V)} (e : H a = some (.dT kvs)) : TyOf K H (.ref a) (.type "dict")
 | ins {a C dx : Addr} {fs : List (Str × V)} (e : H a = some (.ins C dx fs)) (cl : Cls K C) (ha : PySem.W.findIn K (.ref C) "__class__" = some (some (.builtin "object.__class__")))
   (hn : PySem.W.specialIn K (.builtin "object.__class__") "__get__" = some (some (.builtin "getset_descriptor.__get__"))) (htk : PySem.W.takesIn K (.builtin "object.__class__") = some true)
   (hm : PySem.W.mroIn K C (.type "object") = some true) : TyOf K H (.ref a) (.ref C)
theorem isinst_ok {x : V} {u t : Value} (I : Inv X pins σ H s) (rx : RelV x u) (ty : TyOf X.K H x t) (e : PySem.W.kitOne X.K t c = some b) (h : ∀ tk, Q (.bool b) { s with toks := tk }) :
  wpAny (model X.prog X.w) A (call (.builtin "isinstance") [u, c]) Q E s := by
 cases ty with
 | non => cases (show u = Value.none from rx); exact PySem.W.kia_one PySem.W.kitx_none I.kIn True.intro e (fun z => nomatch z) h
 | bl y => cases (show u = Value.bool y from rx); exact PySem.W.kia_one PySem.W.kitx_bool I.kIn True.intro e (fun z => nomatch z) h
 | int i => obtain ⟨t, q⟩ := (show ∃ t, u = Value.int i t from rx); cases q; exact PySem.W.kia_one PySem.W.kitx_int I.kIn True.intro e (fun z => nomatch z) h
 | str y => obtain ⟨t, q⟩ := (show ∃ t, u = Value.str y t from rx); cases q; exact PySem.W.kia_one PySem.W.kitx_str I.kIn True.intro e (fun z => nomatch z) h
 | flt y => obtain ⟨t, q⟩ := (show ∃ t, u = Value.float y t from rx); cases q; exact PySem.W.kia_one PySem.W.kitx_float I.kIn True.intro e (fun z => nomatch z) h
 | @lst a xs ea =>
  cases (show u = Value.ref a from rx)
  obtain ⟨_, _, n, _, h1⟩ := (show ObjOk X.prog X.w H s.heap a (.lst xs) from I.hok a _ ea)
  exact PySem.W.kia_one PySem.W.kitx_list I.kIn ⟨_, h1, rfl⟩ e (fun z => nomatch z) h
 | @frz a ob xs ea =>
  cases (show u = Value.ref a from rx)
  obtain ⟨_, _, _, n, _, h1⟩ := (show ObjOk X.prog X.w H s.heap a (.frz ob (.lst xs)) from I.hok a _ ea)
  exact PySem.W.kia_one PySem.W.kitx_list I.kIn ⟨_, h1, rfl⟩ e (fun z => nomatch z) h
 | @tup a xs ea =>
  cases (show u = Value.ref a from rx)
  obtain ⟨_, _, _, p⟩ := (show ObjOk X.prog X.w H s.heap a (.tup xs) from I.hok a _ ea)
  obtain ⟨o, h1, h2, _⟩ := p
  exact PySem.W.kia_one PySem.W.kitx_tuple I.kIn ⟨o, h1, h2⟩ e (fun z => nomatch z) h
 | @dK a kvs ea =>
  cases (show u = Value.ref a from rx)
  obtain ⟨_, _, vs, _, p⟩ := (show ObjOk X.prog X.w H s.heap a (.dK kvs) from I.hok a _ ea)
  obtain ⟨o, es, ep, h1, h2, _⟩ := p
  exact PySem.W.kia_one PySem.W.kitx_dict I.kIn ⟨o, h1, h2.1⟩ e (fun z => nomatch z) h
 | @dT a kvs ea =>
  cases (show u = Value.ref a from rx)
  obtain ⟨_, _, xs, _, o, es, ep, h1, h2, _⟩ := (show ObjOk X.prog X.w H s.heap a (.dT kvs) from I.hok a _ ea)
  exact PySem.W.kia_one PySem.W.kitx_dict I.kIn ⟨o, h1, h2.1⟩ e (fun z => nomatch z) h
 | @ins a C dx fs ea cl ha hn htk hm =>
  cases (show u = Value.ref a from rx)
  obtain ⟨mA, O, _⟩ := ins_get I.hok ea
  obtain ⟨od, J, _⟩ := O.look
  exact PySem.W.kia_one (PySem.W.kitx_own (cl.get _) cl.hd ha hn htk hm) I.kIn J e (fun z => nomatch z) h
end
structure Room (k : Nat) (A : Around) : Prop where
 hd : A.handled = none
 dp : A.depth + 3 * k + 5 < recursionLimit
 un : A.units + 16 * k + 200 < cLine
theorem Room.mono {j k : Nat} {A : Around} (r : Room k A) (h : j <= k) : Room j A := ⟨r.hd, by have := r.dp; lia, by have := r.un; lia⟩
theorem Room.deeper {k : Nat} {A : Around} (r : Room (k + 1) A) (env : Env) : Room k (A.deeper env) :=
 ⟨r.hd, by have := r.dp; show A.depth + 1 + 3 * k + 5 < _; lia, by have := r.un; show A.units + 3 + 16 * k + 200 < _; lia⟩
theorem Room.in1 {k : Nat} {A : Around} (r : Room (k + 1) A) : Room k A.in1 :=
 ⟨r.hd, by have := r.dp; show A.depth + 3 * k + 5 < _; lia, by have := r.un; show A.units + 1 + 16 * k + 200 < _; lia⟩
theorem Room.depth {k : Nat} {A : Around} (r : Room k A) : A.depth < recursionLimit := by have := r.dp; lia
theorem Room.units {k : Nat} {A : Around} (r : Room k A) : A.units + 64 < cLine := by have := r.un; lia
def tNil : TA := fun _ H Q => Q [] H
def tCons (ta : TE) (tr : TA) : TA := fun σ H Q => ta σ H fun x H1 => tr σ H1 fun xs H2 => Q (x :: xs) H2
section
variable {X : Cx} {e : Expr} {es : List Expr} {te : TE} {t : TA} {pos : Pos}
theorem pa_nil : PA X [] tNil := fun _ _ _ _ H Q I h => Calls.spliced_nil ⟨[], H, I, .nil, h⟩
theorem pa_cons (ha : PE X e te) (hr : PA X es t) (hs : starEach (e :: es) X.env = (false, eval e X.env) :: starEach es X.env := by rfl) : PA X (e :: es) (tCons te t) := by
 intro pos pins s σ H Q I h
 rw [hs]
 show wpAny _ _ (spliced ((false, eval e X.env) :: backTo pos (starEach es X.env))) _ _ s
 refine Calls.spliced_cons (thn (ha pins s σ H _ I h) fun u s1 ⟨x, H1, I1, r1, q1⟩ => ?_)
 exact thn (hr pos pins s1 σ H1 _ I1 q1) fun us s2 ⟨xs, H2, I2, r2, q2⟩ => ⟨x :: xs, H2, I2, .cons r1 r2, q2⟩
def tTup (t : TA) : TE := fun σ H Q => t σ H fun xs H1 => xs.length <= sizeLine /\ ∀ p, H1 p = none -> Q (.ref p) (upd H1 p (.tup xs))
def tLst (t : TA) : TE := fun σ H Q => t σ H fun xs H1 => xs.length <= sizeLine /\ ∀ p, H1 p = none -> Q (.ref p) (upd H1 p (.lst xs))
theorem pe_tup {x1} (h : PA X es t) : PE X (.Tuple es x1 pos) (tTup t) := by
 intro pins s σ H Q I hq
 refine wpAny_Tuple_spliced (thn (h pos pins s σ H _ I hq) fun us s1 ⟨xs, H1, I1, r, z, q⟩ => ⟨by rw [<- r.length]; exact z, ?_⟩)
 have hf : H1 s1.heap.objs.size = none := I1.hok.fresh (Nat.le_refl _)
 refine ⟨.ref s1.heap.objs.size, upd H1 s1.heap.objs.size (.tup xs), I1.laid (t' := s1.toks) (fun b u e => Heap.get?_push_of_some _ e) (Nat.le_refl _) ?_, rfl, q _ hf⟩
 exact ⟨z, us, r, ⟨_, Heap.get?_push_size _ rfl, rfl, _, rfl⟩⟩
theorem pe_lst (h : PA X es t) : PE X (.List es pos) (tLst t) := by
 intro pins s σ H Q I hq
 refine wpAny_List_spliced (thn (h pos pins s σ H _ I hq) fun us s1 ⟨xs, H1, I1, r, z, q⟩ => ⟨by rw [<- r.length]; exact z, ?_⟩)
 have hf : H1 s1.heap.objs.size = none := I1.hok.fresh (Nat.le_refl _)
 refine ⟨.ref s1.heap.objs.size, upd H1 s1.heap.objs.size (.lst xs), I1.laid (t' := s1.toks) (fun b u e => Heap.get?_push_of_some _ e) (Nat.le_refl _) ?_, rfl, q _ hf⟩
 exact ⟨z, us, 0, r, Heap.get?_push_size _ rfl⟩
end
abbrev Sp := List V -> Hp -> VK -> XK -> Prop
abbrev CXT := List Env -> Hp -> Shared -> XK -> Value -> Shared -> Prop
structure Env0 (P : Program) (w : World) (K : W.Frag) (mg : Str -> Option Value) (base : Heap) (A : Around) (outer : List Env) (s : Shared) (H : Hp) : Prop where
 frames : A.frames = some outer
 mod : Mod K mg base
 bs : ∀ b o, base.get? b = some o -> s.heap.get? b = some o /\ H b = none
 bsz : base.objs.size <= s.heap.objs.size
 funs : s.heap.FunFrames base outer
 frf : ∀ b ∈ frs outer, H b = none
 hok : HOk P w H s.heap
 bare : AllBare s.gens
def CE (outer : List Env) (P : Program) (w : World) (H : Hp) (s : Shared) (Q : VK) (u : Value) (s' : Shared) : Prop :=
 ∃ v H', s'.os = s.os /\ AllBare s'.gens /\ Un (frs outer) [] H H' s.heap s'.heap /\ HOk P w H' s'.heap /\ RelV v u /\ Q v H'
def CR (CX : CXT) (outer : List Env) (P : Program) (w : World) (H : Hp) (s : Shared) (Q : VK) (E : XK) (r : Result) (s' : Shared) : Prop :=
 match r with
 | .ok (.ret u) => CE outer P w H s Q u s'
 | .ok _ => False
 | .error e => CX outer H s E e s'
structure FnOk (P : Program) (w : World) (K : W.Frag) (mg : Str -> Option Value) (base : Heap) (CX : CXT) (k : Nat) (f : Addr) (fd : FuncData) (ps : List Str) (sp : Sp) : Prop where
 len : ∀ vs H Q E, sp vs H Q E -> vs.length = ps.length
 run : ∀ (A : Around) (outer : List Env) (s : Shared) (H : Hp) (args : Args) (us : List Value) (vs : List V) (Q : VK) (E : XK), Room k A -> Env0 P w K mg base A outer s H -> BindsTo s fd args (ps.zip us) -> Vals vs us -> sp vs H Q E ->
  codeAny (model P w) A (.call (.ref f) args) (CR CX outer P w H s Q E) s
theorem Env0.in1 {P : Program} {w : World} {K : W.Frag} {mg : Str -> Option Value} {base : Heap} {A : Around} {outer : List Env} {s : Shared} {H : Hp} (e : Env0 P w K mg base A outer s H) :
  Env0 P w K mg base A.in1 outer s H := ⟨e.frames, e.mod, e.bs, e.bsz, e.funs, e.frf, e.hok, e.bare⟩
section
variable {X : Cx} {pins : List (Addr × Obj)} {σ : St} {H : Hp} {s s' : Shared}
theorem Inv.env0 (I : Inv X pins σ H s) : Env0 X.prog X.w X.K X.mg X.base X.A X.stack s H :=
 ⟨I.ok.frames, I.ok.mod, I.bs, Nat.le_trans I.ok.bsz I.sz, I.stack, I.stkFree, I.hok, I.bare⟩
theorem Inv.after {Q : VK} {u : Value} (I : Inv X pins σ H s) (h : CE X.stack X.prog X.w H s Q u s') : EP X pins σ Q u s' := by
 obtain ⟨v, H', os, bare, un, hok, r, q⟩ := h
 obtain ⟨hh, g, d, t, os'⟩ := s'
 obtain rfl : os' = s.os := os
 exact ⟨v, H', I.call (h' := hh) (g' := g) (d' := d) (t' := t) (ch := []) un hok bare (fun b z => absurd z (by simp)), r, q⟩
end
def tCall (sp : Sp) (dvs : List V) (E : XK) (t : TA) : TE := fun σ H Q => t σ H fun vs H1 => sp (vs ++ dvs) H1 Q E
def Binds (K : W.Frag) (fd : FuncData) (ps : List Str) (ds : List Value) : Prop :=
 ∀ (s : Shared) (us : List Value), K.In s.heap -> (us ++ ds).length = ps.length -> BindsTo s fd ⟨us, []⟩ (ps.zip (us ++ ds))
theorem Binds.all {K : W.Frag} {fd : FuncData} {ps : List Str} (h : ∀ us : List Value, us.length = ps.length -> bindArgs fd ⟨us, []⟩ = pure (ps.zip us)) : Binds K fd ps [] := fun s us _ hl => by
 rw [List.append_nil] at hl ⊢
 exact .of_eq (h us hl)
def Passes (CX : CXT) (X : Cx) (E : XK) : Prop := ∀ (pins : List (Addr × Obj)) (σ : St) (H : Hp) (s : Shared) (e : Value) (s' : Shared), Inv X pins σ H s -> CX X.stack H s E e s' -> X.xe e s'
section
variable {X : Cx} {CX : CXT} {k : Nat} {f C : Addr} {fd : FuncData} {ps : List Str} {sp : Sp} {dvs : List V} {ds : List Value} {E : XK} {x m : Str} {p pos apos : Pos} {e o : Expr} {es : List Expr} {ta : TE} {t : TA}
theorem run_fn {pins : List (Addr × Obj)} {σ : St} {H : Hp} {s : Shared} {Q : VK} {us : List Value} {vs : List V} (F : FnOk X.prog X.w X.K X.mg X.base CX k f fd ps sp) (hr : Room k X.A) (hb : Binds X.K fd ps ds) (hd : Vals dvs ds) (hx : Passes CX X E)
  (I : Inv X pins σ H s) (r : Vals vs us) (h : sp (vs ++ dvs) H Q E) : wpAny (model X.prog X.w) X.A (call (.ref f) us) (EP X pins σ Q) X.xe s := by
 have r2 : Vals (vs ++ dvs) (us ++ ds) := r.append hd
 have hl : (us ++ ds).length = ps.length := by rw [<- r2.length]; exact F.len _ _ _ _ h
 refine wpAny_call (codeAny_mono (F.run X.A X.stack s H ⟨us, []⟩ (us ++ ds) (vs ++ dvs) Q E hr I.env0 (hb s us I.kIn hl) r2 h) fun r s' hq => ?_)
 cases r with
 | error e => exact hx pins σ H s e s' I hq
 | ok fl =>
  cases fl with
  | ret u => exact I.after hq
  | next => exact False.elim hq
  | brk => exact False.elim hq
  | cont => exact False.elim hq
theorem pe_call (F : FnOk X.prog X.w X.K X.mg X.base CX k f fd ps sp) (hr : Room k X.A) (hg : Gl X x) (hm : X.mg x = some (.ref f)) (hk : PySem.W.keepIn X.K (.ref f) = true) (hb : Binds X.K fd ps ds) (hd : Vals dvs ds) (hx : Passes CX X E)
  (ha : PA X (e :: es) t) (hdb : (x == ("__debug__" : Str)) = false := by decide) (he : starEach (e :: es) X.env = (false, eval e X.env) :: starEach es X.env := by rfl) (hpl : (backTo pos (starEach es X.env)).any (·.1) = false := by rfl) :
  PE X (.Call (.Name x p) (e :: es) [] pos) (tCall sp dvs E t) := by
 intro pins s σ H Q I h
 refine wpAny_Call_Name_kw (ld_glob I hg hm ?_ hdb)
 refine PySem.W.callWith_K (h₀ := X.base) I.ok.mod.kin hk (thn (ha pos pins s σ H _ I h) fun us s1 ⟨vs, H1, I1, r, q⟩ => ⟨I1.kIn, ?_⟩) he hpl
 exact run_fn F hr hb hd hx I1 r q
structure Mk (K : W.Frag) (C f : Addr) : Prop where
 makes : PySem.W.makesIn K C = true
 init : PySem.W.findIn K (.ref C) "__init__" = some (some (.ref f))
 fn : PySem.W.isFn K (.ref f) = true
 kp : PySem.W.keepIn K (.ref C) = true
end
structure FnScope (N P : List Str) (sc : Scope) : Prop where
 kind : sc.kind = .function
 co : sc.isCoroutine = false
 gen : sc.isGenerator = false
 nd : N.Nodup
 pre : N.take P.length = P
 par : ∀ x ∈ P, sc.names.lookup x = some .local ∨ sc.names.lookup x = some .cell
 nofree : ∀ y ∈ sc.names, y.2 ≠ .free
theorem bindL_out {kindOf : Str -> Option NameKind} {x : Str} : ∀ {binds : List (Str × Value)} {m : Str -> Option Value}, (∀ v, (x, v) ∉ binds) -> bindL kindOf binds m x = m x
 | [], _, _ => rfl
 | (n, v) :: r, m, h => by
  unfold bindL
  rw [bindL_out fun w hw => h w (List.mem_cons_of_mem _ hw)]
  split
  ·have : x ≠ n := by rintro rfl; exact h v List.mem_cons_self
   simp [this]
  ·rfl
theorem bindC_out {kindOf : Str -> Option NameKind} {x : Str} : ∀ {binds : List (Str × Value)} {m : Str -> Option Value}, (∀ v, (x, v) ∉ binds) -> bindC kindOf binds m x = m x
 | [], _, _ => rfl
 | (n, v) :: r, m, h => by
  unfold bindC
  rw [bindC_out fun w hw => h w (List.mem_cons_of_mem _ hw)]
  split
  ·rfl
  ·have : x ≠ n := by rintro rfl; exact h v List.mem_cons_self
   simp [this]
theorem bindL_get {kindOf : Str -> Option NameKind} {x : Str} {v : Value} : ∀ {P : List Str} {vs : List Value} {i : Nat} {m : Str -> Option Value}, P.Nodup -> P[i]? = some x -> vs[i]? = some v -> kindOf x = some .local ->
  bindL kindOf (P.zip vs) m x = some v
 | [], _, _, _, _, h, _, _ => by simp at h
 | _ :: _, [], _, _, _, _, h, _ => by simp at h
 | p :: P, w :: vs, 0, m, nd, h1, h2, hk => by
  simp at h1 h2; subst h1; subst h2
  show bindL kindOf ((p, w) :: P.zip vs) m p = _
  unfold bindL
  rw [bindL_out fun v hv => (List.nodup_cons.mp nd).1 (List.of_mem_zip hv).1, if_pos hk]
  simp
 | p :: P, w :: vs, i + 1, m, nd, h1, h2, hk => by
  show bindL kindOf ((p, w) :: P.zip vs) m x = _
  unfold bindL
  exact bindL_get (i := i) (List.nodup_cons.mp nd).2 (by simpa using h1) (by simpa using h2) hk
theorem bindC_get {kindOf : Str -> Option NameKind} {x : Str} {v : Value} : ∀ {P : List Str} {vs : List Value} {i : Nat} {m : Str -> Option Value}, P.Nodup -> P[i]? = some x -> vs[i]? = some v -> kindOf x ≠ some .local ->
  bindC kindOf (P.zip vs) m x = some v
 | [], _, _, _, _, h, _, _ => by simp at h
 | _ :: _, [], _, _, _, _, h, _ => by simp at h
 | p :: P, w :: vs, 0, m, nd, h1, h2, hk => by
  simp at h1 h2; subst h1; subst h2
  show bindC kindOf ((p, w) :: P.zip vs) m p = _
  unfold bindC
  rw [bindC_out fun v hv => (List.nodup_cons.mp nd).1 (List.of_mem_zip hv).1, if_neg hk]
  simp
 | p :: P, w :: vs, i + 1, m, nd, h1, h2, hk => by
  show bindC kindOf ((p, w) :: P.zip vs) m x = _
  unfold bindC
  exact bindC_get (i := i) (List.nodup_cons.mp nd).2 (by simpa using h1) (by simpa using h2) hk
def start (N : List Str) (vs : List V) : St := vs.map some ++ List.replicate (N.length - vs.length) none
def cxOf (CX : CXT) (P : Program) (w : World) (K : W.Frag) (mg : Str -> Option Value) (base : Heap) (N : List Str) (qual : Str) (scope : Scope) (f : Addr) (cd : Value) (A : Around) (outer : List Env) (s : Shared) (H : Hp) (E : XK) : Cx where
 prog := P
 w := w
 K := K
 mg := mg
 base := base
 A := A.deeper (envOfC qual scope s.heap.objs.size f cd)
 N := N
 s₀ := s
 H₀ := H
 env := envOfC qual scope s.heap.objs.size f cd
 outer := outer
 stack := envOfC qual scope s.heap.objs.size f cd :: outer
 ex := []
 calm := true
 fn := fun _ => true
 pn := []
 xe := fun e s' => wpAny (model P w) (A.deeper (envOfC qual scope s.heap.objs.size f cd)) (leaving (envOfC qual scope s.heap.objs.size f cd) e) (fun _ s'' => CX outer H s E e s'') (fun e' s'' => CX outer H s E e' s'') s'
theorem cell_has {sc : Scope} {n : Nat} {x : Str} (h : sc.names.lookup x = some .cell) : ∃ c, (cellsFrom n sc.names []).lookup x = some c := by
 have q := PySem.W.cellsFrom_some sc.names n [] (.inl h)
 exact Option.isSome_iff_exists.mp q
theorem inv_start {CX : CXT} {P : Program} {w : World} {K : W.Frag} {mg : Str -> Option Value} {base : Heap} {N ps : List Str} {qual : Str} {scope : Scope} {f : Addr} {cd : Value} {A : Around} {outer : List Env} {s s1 : Shared} {H : Hp} {E : XK} {us : List Value} {vs : List V}
  (S : FnScope N ps scope) (hd : A.handled = none) (e0 : Env0 P w K mg base A outer s H) (hl : vs.length = ps.length) (r : Vals vs us)
  (x : InCallC s s.heap.objs.size (bindL (envOfC qual scope s.heap.objs.size f cd).kindOf (ps.zip us) fun _ => none) (cellsFrom (s.heap.objs.size + 1) scope.names []) (bindC (envOfC qual scope s.heap.objs.size f cd).kindOf (ps.zip us) fun _ => none) s1) :
  Inv (cxOf CX P w K mg base N qual scope f cd A outer s H E) [] (start N vs) H s1 := by
 have hpl : ps.length <= N.length := by have := congrArg List.length S.pre; rw [List.length_take] at this; lia
 obtain ⟨h1, tk, rfl, hk⟩ := x.done
 have noA : ∀ b : Addr, b ∉ (cxOf CX P w K mg base N qual scope f cd A outer s H E).ex := fun b z => absurd (show b ∈ ([] : List Addr) from z) (by simp)
 refine ⟨⟨e0.mod, S.kind, rfl, rfl, Nat.le_refl _, fun y z c h1 h2 => ?_, fun y hy => ?_, fun y c _ h => ?_, fun _ => hd, Around.frames_deeper e0.frames, .inr ⟨rfl, rfl⟩, fun b z => absurd z (noA b), e0.bs, e0.bsz, fun b _ _ => noA b, fun b z => absurd z (noA b), e0.funs, e0.frf⟩,
  rfl, e0.bare, Un.kept hk, ⟨_, x.toInCall.ns, fun i y v h1 h2 h3 => ?_⟩, fun y c h => ⟨_, x.cell y c h⟩, e0.hok.fresh (Nat.le_refl _), fun y c h => ?_, fun p hp => absurd (show p ∈ ([] : List (Addr × Obj)) from hp) (by simp), e0.hok.kept hk, ?_⟩
 ·exact name_of_addr x.apart (PySem.mem_of_lookup h1) (PySem.mem_of_lookup h2)
 ·have hy : scope.names.lookup y = some .cell ∨ scope.names.lookup y = some .free := hy
  rcases hy with hy | hy
  ·exact cell_has hy
  ·exact absurd rfl (S.nofree _ (PySem.mem_of_lookup hy))
 ·exact Nat.le_of_lt (x.above y c (PySem.mem_of_lookup h))
 ·have hi : i < vs.length := by
   unfold start at h2
   by_cases hi : i < vs.length
   ·exact hi
   ·rw [List.getElem?_append_right (by simpa using hi)] at h2
    rw [List.getElem?_replicate] at h2
    split at h2 <;> cases h2
  have ha : vs[i]? = some v := by
   unfold start at h2
   rw [List.getElem?_append_left (by simpa using hi), List.getElem?_map] at h2
   cases e : vs[i]? with
   | none => rw [e] at h2; cases h2
   | some a => rw [e] at h2; cases h2; rfl
  obtain ⟨u, hu, rv⟩ := r.get ha
  have hp : ps[i]? = some y := by
   rw [<- S.pre, List.getElem?_take_of_lt (by lia)]; exact h1
  have ndP : ps.Nodup := by rw [<- S.pre]; exact S.nd.sublist (List.take_sublist _ _)
  refine ⟨u, rv, ?_⟩
  rcases S.par y (List.mem_of_getElem? hp) with k | k
  ·exact .inl ⟨k, bindL_get ndP hp hu k⟩
  ·obtain ⟨c, e⟩ := cell_has (n := s.heap.objs.size + 1) k
   refine .inr ⟨.inl k, c, e, ?_⟩
   have q := x.cell y c e
   rw [bindC_get ndP hp hu (by show scope.names.lookup y ≠ _; rw [k]; decide)] at q
   exact q
 ·exact e0.hok.fresh (Nat.le_of_lt (x.above y c (PySem.mem_of_lookup h)))
 ·unfold start
  show _ = N.length
  rw [List.length_append, List.length_map, List.length_replicate]
  lia
theorem fn_of {CX : CXT} {P : Program} {w : World} {K : W.Frag} {mg : Str -> Option Value} {base : Heap} {k : Nat} {f : Addr} {name qual : Str} {params : Arguments} {body : List Stmt} {scope : Scope} {dV kV doc pm cdv ct oc : Value} {an od : Option Addr}
  {osl : Array (Option Value)} {N ps : List Str} {sp : Sp} (lk : K.lookup f = some ⟨oc, od, .func (PySem.W.fnOf name qual params body scope dV kV doc pm an cdv ct), osl⟩) (hcd : PySem.W.codeIn K cdv qual = true) (S : FnScope N ps scope)
  (len : ∀ vs H Q E, sp vs H Q E -> vs.length = ps.length)
  (hbody : ∀ (A : Around) (outer : List Env) (s : Shared) (H : Hp) (vs : List V) (Q : VK) (E : XK), Room k (A.deeper (envOfC qual scope s.heap.objs.size f cdv)) -> sp vs H Q E ->
   ∃ t, PSs (cxOf CX P w K mg base N qual scope f cdv A outer s H E) body t /\ t { nx := fun _ H' => Q .non H', rt := Q } (start N vs) H) :
  FnOk P w K mg base CX (k + 1) f (PySem.W.fnOf name qual params body scope dV kV doc pm an cdv ct) ps sp := by
 refine ⟨len, fun A outer s H args us vs Q E hr e0 hb r hsp => ?_⟩
 have hl := len _ _ _ _ hsp
 have KX : K.In s.heap := e0.mod.kin.keeps fun b o e => (e0.bs b o e).1
 have lim : s.heap.NoLimit := e0.mod.nolimit.keeps fun b o e => (e0.bs b o e).1
 have hkind : ∀ y ∈ ps.zip us, scope.names.lookup y.1 = some .local ∨ (scope.names.lookup y.1 = some .cell /\ ((cellsFrom (s.heap.objs.size + 1) scope.names []).lookup y.1).isSome = true) := fun ⟨n, v⟩ hy => by
  rcases S.par n (List.of_mem_zip hy).1 with q | q
  ·exact .inl q
  ·exact .inr ⟨q, PySem.W.cellsFrom_some _ _ _ (.inl q)⟩
 refine codeAny_call_function hr.depth (KX _ _ lk) rfl S.co S.gen rfl (PySem.W.codeRec_of KX hcd) (hb _ _ _ _ ?_)
 refine wpAny_newFunctionEnv_cells S.kind hkind fun env he s1 x => ?_
 subst he
 refine ⟨lim.keeps x.toInCall.keep, codeAny_func ?_⟩
 obtain ⟨t, ht, hq⟩ := hbody A outer s H vs Q E (hr.deeper _) hsp
 have I : Inv (cxOf CX P w K mg base N qual scope f cdv A outer s H E) [] (start N vs) H s1 := inv_start S hr.hd e0 hl r x
 refine wpAny_mono (ht [] s1 (start N vs) H _ I hq) (fun fl s' hs => ?_) fun e s' hs => hs
 have fin : ∀ {σ' : St} {H' : Hp} {v : V} {u : Value}, Inv (cxOf CX P w K mg base N qual scope f cdv A outer s H E) [] σ' H' s' -> RelV v u -> Q v H' -> CE outer P w H s Q u s' :=
  fun {σ' H' v u} J rv q => ⟨v, H', J.os, J.bare, J.base, J.hok, rv, q⟩
 cases fl with
 | ret u =>
  obtain ⟨v, σ', H', J, rv, q⟩ := hs
  exact fin J rv q
 | next =>
  obtain ⟨σ', H', J, q⟩ := hs
  exact fin (v := V.non) (u := Value.none) J rfl q
 | brk =>
  obtain ⟨_, _, _, q⟩ := hs
  exact False.elim q
 | cont =>
  obtain ⟨_, _, _, q⟩ := hs
  exact False.elim q
section
variable {X : Cx} {x : Str} {p pos : Pos} {e : Expr} {es : List Expr} {t : TA} {id T : String} {r : List V -> Hp -> VK -> Prop}
def tCB (r : List V -> Hp -> VK -> Prop) (t : TA) : TE := fun σ H Q => t σ H fun vs H1 => r vs H1 Q
theorem pe_callB (hc : CallR X (.builtin id) r) (hg : Gl X x) (hm : X.mg x = none) (hv : bootBuiltins x = some (.builtin id)) (ha : PA X (e :: es) t) (hn : x ≠ "__name__" := by decide) (hdb : (x == ("__debug__" : Str)) = false := by decide)
  (he : starEach (e :: es) X.env = (false, eval e X.env) :: starEach es X.env := by rfl) (hpl : (backTo pos (starEach es X.env)).any (·.1) = false := by rfl) : PE X (.Call (.Name x p) (e :: es) [] pos) (tCB r t) := by
 intro pins s σ H Q I h
 refine wpAny_Call_Name_kw (ld_blt I hg hm hv ?_ hn hdb)
 exact PyProof.Rows.callWith_builtin1 (thn (ha pos pins s σ H _ I h) fun us s1 ⟨vs, H1, I1, r1, q1⟩ => hc pins s1 σ H1 vs us Q I1 r1 q1) he hpl
theorem pe_callTy (hc : CallR X (.type T) r) (hg : Gl X x) (hm : X.mg x = none) (hv : bootBuiltins x = some (.type T)) (ha : PA X (e :: es) t) (hn : x ≠ "__name__" := by decide) (hdb : (x == ("__debug__" : Str)) = false := by decide)
  (he : starEach (e :: es) X.env = (false, eval e X.env) :: starEach es X.env := by rfl) (hpl : (backTo pos (starEach es X.env)).any (·.1) = false := by rfl) : PE X (.Call (.Name x p) (e :: es) [] pos) (tCB r t) := by
 intro pins s σ H Q I h
 refine wpAny_Call_Name_kw (ld_blt I hg hm hv ?_ hn hdb)
 exact PyProof.Rows.callWith_type1 (thn (ha pos pins s σ H _ I h) fun us s1 ⟨vs, H1, I1, r1, q1⟩ => hc pins s1 σ H1 vs us Q I1 r1 q1) he hpl
end
end L2
namespace HT
open PySem PyProof.Rows
theorem eqAt_int (A : Around) (s : Shared) (a : Int) (t : Tok) (c : Int) (u : Tok) : ∃ e, SeqAt.EqAt A s (.int a t) (.int c u) e /\ (e = true ↔ a = c) :=
 ⟨(a == c), SeqAt.EqAt.int_int a t c u, by simp⟩
end HT
namespace L2
open PySem PySem.Spec PyProof.Rows
abbrev TO := St -> Hp -> (Option Int -> Hp -> Prop) -> Prop
def ixN (n : Nat) (i : Int) : Option Nat := if 0 <= i then (if i < n then some i.toNat else none) else if -(n : Int) <= i then some (i + n).toNat else none
def atI {α : Type} (xs : List α) (i : Int) : Option α := (ixN xs.length i).bind fun j => xs[j]?
theorem ixN_seq {n : Nat} {i : Int} {j : Nat} (h : ixN n i = some j) : seqIndex? i n = some j /\ j < n /\ -(n : Int) <= i /\ i < n := by
 unfold ixN at h
 by_cases h0 : 0 <= i
 ·rw [if_pos h0] at h
  by_cases h1 : i < n
  ·rw [if_pos h1] at h
   have e : i.toNat = j := Option.some.inj h
   exact ⟨by rw [seqIndex_of h0 h1, e], by lia, by lia, h1⟩
  ·rw [if_neg h1] at h; cases h
 ·rw [if_neg h0] at h
  by_cases h1 : -(n : Int) <= i
  ·rw [if_pos h1] at h
   have e : (i + n).toNat = j := Option.some.inj h
   exact ⟨by rw [seqIndex_neg (by lia) h1, e], by lia, h1, by lia⟩
  ·rw [if_neg h1] at h; cases h
theorem atI_get {α : Type} {xs : List α} {i : Int} {v : α} (h : atI xs i = some v) : ∃ j, seqIndex? i xs.length = some j /\ xs[j]? = some v /\ j < xs.length /\ -(xs.length : Int) <= i /\ i < xs.length := by
 unfold atI at h
 cases e : ixN xs.length i with
 | none => rw [e] at h; cases h
 | some j =>
  rw [e] at h
  obtain ⟨h1, h2, h3, h4⟩ := ixN_seq e
  exact ⟨j, h1, h, h2, h3, h4⟩
theorem atI_nat {α : Type} {xs : List α} {j : Nat} {v : α} (h : xs[j]? = some v) : atI xs (j : Int) = some v := by
 have hj : j < xs.length := (List.getElem?_eq_some_iff.mp h).1
 have e : ixN xs.length (j : Int) = some j := by
  unfold ixN
  rw [if_pos (by lia), if_pos (by lia)]; simp
 unfold atI; rw [e]; exact h
def PlainIx (b : Expr) : Prop := ∀ o i, subscripted b false o i = operate [o, i] (getItem o i)
def IxR (X : Cx) (r : R2) : Prop :=
 ∀ (value slice : Expr) (pins : List (Addr × Obj)) (s : Shared) (σ : St) (H : Hp) (x y : V) (v u : Value) (Q : VK), Inv X pins σ H s -> RelV x v -> RelV y u -> r x y H Q ->
  subscripted slice false v u = operate [v, u] (getItem v u) -> wpAny (model X.prog X.w) X.A (subscriptTail value slice v u) (EP X pins σ Q) X.xe s
def MtR (X : Cx) (id : String) (r : V -> List V -> Hp -> VK -> Prop) : Prop :=
 ∀ (pins : List (Addr × Obj)) (s : Shared) (σ : St) (H : Hp) (x : V) (xs : List V) (v : Value) (us : List Value) (Q : VK), Inv X pins σ H s -> RelV x v -> Vals xs us -> r x xs H Q ->
  wpAny (model X.prog X.w) X.A (call (.builtin id) (v :: us)) (EP X pins σ Q) X.xe s
section
variable {X : Cx} {a b : Expr} {ta tb : TE} {pos : Pos}
theorem pe_ix {r : R2} (hr : IxR X r) (ha : PE X a ta) (hb : PE X b tb) (hs : PlainIx b) : PE X (.Subscript a b pos) (tOp r ta tb) := by
 intro pins s σ H Q I h
 exact Subscript_ (binT ha hb I h fun v u s2 x y H2 I2 rx ry q => hr a b pins s2 σ H2 x y v u Q I2 rx ry q (hs _ _))
def rIxL (K : W.Frag) : R2 := fun x y H Q => ∃ p xs i v, x = .ref p /\ y = .int i /\ SqL K H p xs /\ atI xs i = some v /\ Q v H
def rIxT (K : W.Frag) : R2 := fun x y H Q => ∃ p xs i v, x = .ref p /\ y = .int i /\ SqT K H p xs /\ atI xs i = some v /\ Q v H
theorem ix_list : IxR X (rIxL X.K) := by
 intro value slice pins s σ H x y v u Q I rx ry h hs
 obtain ⟨p, xs, i, z, rfl, rfl, hq, he, q⟩ := h
 cases rx
 obtain ⟨t, rfl⟩ := ry
 obtain ⟨its, r, pl, hz⟩ := I.list hq
 obtain ⟨j, h1, h2, h3, h4, h5⟩ := atI_get he
 obtain ⟨w, ew, rw'⟩ := r.get h2
 have hl := r.length
 have hn := line63
 have fin : EP X pins σ Q w s := ⟨z, H, I, rw', q⟩
 by_cases h0 : 0 <= i
 ·have hj : i.toNat = j := by
   rw [seqIndex_of h0 h5] at h1
   exact Option.some.inj h1
  exact item_listR pl.isList h0 (by lia) (by rw [hj]; simpa using ew) fin hs
 ·have hj : (i + (its.toArray.size : Int)).toNat = j := by
   rw [seqIndex_neg (by lia) h4] at h1
   rw [List.size_toArray, <- hl]
   exact Option.some.inj h1
  exact subscriptTail_builtinR (x := w) pl.isList.typeIs slot_list_getitem.lookup
   (wpAny_getItem_list_neg (Q := fun r s' => r = w /\ EP X pins σ Q r s') pl.isList (by lia) (by rw [List.size_toArray] <;> lia) (by lia) (by rw [hj]; simpa using ew) ⟨rfl, fin⟩) hs
theorem ix_tup : IxR X (rIxT X.K) := by
 intro value slice pins s σ H x y v u Q I rx ry h hs
 obtain ⟨p, xs, i, z, rfl, rfl, hq, he, q⟩ := h
 cases rx
 obtain ⟨t, rfl⟩ := ry
 obtain ⟨its, r, pl, hz⟩ := I.tuple hq
 obtain ⟨j, h1, h2, h3, h4, h5⟩ := atI_get he
 obtain ⟨w, ew, rw'⟩ := r.get h2
 have hl := r.length
 have hn := line63
 have fin : EP X pins σ Q w s := ⟨z, H, I, rw', q⟩
 exact subscriptTail_builtinR (x := w) pl.typeIs slot_tuple_getitem.lookup
  (getItem_tuple (j := j) (Q := fun r s' => r = w /\ EP X pins σ Q r s') pl (by lia) (by lia) (by rw [List.size_toArray, <- hl]; exact h1) (by simpa using ew) ⟨rfl, fin⟩) hs
theorem mapSeq_set (its : List Value) (n j : Nat) (u : Value) : Obj.mapSeq (·.setIfInBounds j u) { cls := .type "list", data := .seq its.toArray n } = { cls := .type "list", data := .seq (its.set j u).toArray n } := by
 simp [Obj.mapSeq]
theorem Inv.lst {pins : List (Addr × Obj)} {σ : St} {H : Hp} {s : Shared} {p : Addr} {xs : List V} (I : Inv X pins σ H s) (h : H p = some (.lst xs)) :
  ∃ (its : List Value) (n : Nat), Vals xs its /\ s.heap.get? p = some { cls := .type "list", data := .seq its.toArray n } /\ xs.length <= sizeLine := by
 obtain ⟨z, its, n, r, e⟩ := I.hok p _ h
 exact ⟨its, n, r, e, z⟩
theorem Inv.lstUpd {pins : List (Addr × Obj)} {σ : St} {H : Hp} {s : Shared} {p : Addr} {xs ys : List V} {its its' : List Value} {n n' : Nat} {f : Obj -> Obj} (I : Inv X pins σ H s) (h : H p = some (.lst xs))
  (ho : s.heap.get? p = some { cls := .type "list", data := .seq its.toArray n }) (hf : f { cls := .type "list", data := .seq its.toArray n } = { cls := .type "list", data := .seq its'.toArray n' }) (r : Vals ys its') (hz : ys.length <= sizeLine) (t : Nat) :
  Inv X pins σ (upd H p (.lst ys)) { s with heap := s.heap.update p f, toks := t } := by
 have e : (s.heap.update p f).get? p = some { cls := .type "list", data := .seq its'.toArray n' } := by
  rw [Heap.get?_update_self f ho (by rw [hf] <;> rfl), hf]
 refine I.write (x := p) (e := p) (by rw [h]; trivial) (.inl rfl) (fun b u hb q => (Heap.get?_update_other _ _ (Ne.symm hb)).trans q) ⟨_, e⟩ ?_
 exact ⟨hz, its', n', r, e⟩
def rSetL : V -> V -> V -> Hp -> (Hp -> Prop) -> Prop := fun o i v H Q => ∃ p xs k j, o = .ref p /\ i = .int k /\ H p = some (.lst xs) /\ ixN xs.length k = some j /\ Q (upd H p (.lst (xs.set j v)))
theorem set_list : PSet X rSetL := by
 intro pins s σ H o i v ov iv u Q I ro ri rv h
 obtain ⟨p, xs, k, j, rfl, rfl, hp, hj, q⟩ := h
 cases ro
 obtain ⟨t, rfl⟩ := ri
 obtain ⟨its, n, r, ho, hz⟩ := I.lst hp
 obtain ⟨h1, h2, h3, h4⟩ := ixN_seq hj
 have hl := r.length
 have hn := line63
 have I' : Inv X pins σ (upd H p (.lst (xs.set j v))) { s with heap := s.heap.update p (Obj.mapSeq (·.setIfInBounds j u)) } :=
  I.lstUpd hp ho (mapSeq_set its n j u) (r.set rv j) (by rw [List.length_set]; exact hz) s.toks
 by_cases h0 : 0 <= k
 ·have hk : k.toNat = j := by
   rw [seqIndex_of h0 h4] at h1
   exact Option.some.inj h1
  exact PySem.W.ki_setAt ho h0 (by lia) (by rw [List.size_toArray, <- hl]; exact h4) (by rw [hk]; exact ⟨_, I', q⟩)
 ·have hk : (k + (its.toArray.size : Int)).toNat = j := by
   rw [seqIndex_neg (by lia) h3] at h1
   rw [List.size_toArray, <- hl]
   exact Option.some.inj h1
  exact PySem.W.ki_setBack ho (by lia) (by rw [List.size_toArray, <- hl]; exact h3) (by lia) (by rw [hk]; exact ⟨_, I', q⟩)
def flatV : V -> Bool
 | .non => true
 | .bl _ => true
 | .int _ => true
 | .str _ => true
 | _ => false
def eqV : V -> V -> Bool
 | .non, .non => true
 | .bl a, .bl b => a == b
 | .bl a, .int b => (if a then 1 else 0) == b
 | .int a, .bl b => a == (if b then 1 else 0)
 | .int a, .int b => a == b
 | .str a, .str b => a == b
 | _, _ => false
theorem eqAt_V {A : Around} {s : Shared} {y x : V} {u v : Value} (ry : RelV y u) (rx : RelV x v) (fy : flatV y = true) (fx : flatV x = true) : SeqAt.EqAt A s u v (eqV y x) := by
 cases y with
 | non =>
  cases ry
  cases x with
  | non => cases rx; exact SeqAt.EqAt.same _
  | bl b => cases rx; exact SeqAt.EqAt.none_bool b
  | int b => obtain ⟨t, rfl⟩ := rx; exact SeqAt.EqAt.none_int b t
  | str b => obtain ⟨t, rfl⟩ := rx; exact SeqAt.EqAt.none_str b t
  | _ => exact absurd (show false = true from fx) Bool.false_ne_true
 | bl a =>
  cases ry
  cases x with
  | non => cases rx; exact SeqAt.EqAt.bool_none a
  | bl b => cases rx; exact SeqAt.EqAt.bool_bool a b
  | int b => obtain ⟨t, rfl⟩ := rx; exact SeqAt.EqAt.bool_int a b t
  | str b => obtain ⟨t, rfl⟩ := rx; exact SeqAt.EqAt.bool_str a b t
  | _ => exact absurd (show false = true from fx) Bool.false_ne_true
 | int a =>
  obtain ⟨t', rfl⟩ := ry
  cases x with
  | non => cases rx; exact SeqAt.EqAt.int_none a t'
  | bl b => cases rx; exact SeqAt.EqAt.int_bool a t' b
  | int b => obtain ⟨t, rfl⟩ := rx; exact SeqAt.EqAt.int_int a t' b t
  | str b => obtain ⟨t, rfl⟩ := rx; exact SeqAt.EqAt.int_str a t' b t
  | _ => exact absurd (show false = true from fx) Bool.false_ne_true
 | str a =>
  obtain ⟨t', rfl⟩ := ry
  cases x with
  | non => cases rx; exact SeqAt.EqAt.str_none a t'
  | bl b => cases rx; exact SeqAt.EqAt.str_bool a t' b
  | int b => obtain ⟨t, rfl⟩ := rx; exact SeqAt.EqAt.str_int a t' b t
  | str b => obtain ⟨t, rfl⟩ := rx; exact SeqAt.EqAt.str_str a t' b t
  | _ => exact absurd (show false = true from fx) Bool.false_ne_true
 | _ => exact absurd (show false = true from fy) Bool.false_ne_true
def eqU (x : V) (u : Value) : Bool := match u with
 | .none => eqV .non x
 | .bool b => eqV (.bl b) x
 | .int i _ => eqV (.int i) x
 | .str z _ => eqV (.str z) x
 | _ => false
theorem eqU_of {x y : V} {u : Value} (r : RelV y u) (f : flatV y = true) : eqU x u = eqV y x := by
 cases y with
 | non => cases r; rfl
 | bl b => cases r; rfl
 | int i => obtain ⟨t, rfl⟩ := r; rfl
 | str z => obtain ⟨t, rfl⟩ := r; rfl
 | _ => exact absurd (show false = true from f) Bool.false_ne_true
theorem any_eqU {x : V} : ∀ {xs : List V} {us : List Value}, Vals xs us -> xs.all flatV = true -> us.any (eqU x) = xs.any fun y => eqV y x
 | _, _, .nil, _ => rfl
 | y :: xs, u :: us, .cons r t, f => by
  rw [List.all_cons, Bool.and_eq_true] at f
  rw [List.any_cons, List.any_cons, eqU_of r f.1, any_eqU t f.2]
theorem mem_eqAt {A : Around} {s : Shared} {x : V} {v : Value} (rx : RelV x v) (fx : flatV x = true) : ∀ {xs : List V} {us : List Value}, Vals xs us -> xs.all flatV = true -> ∀ u ∈ us, SeqAt.EqAt A s u v (eqU x u)
 | _, _, .nil, _ => fun u hu => by cases hu
 | y :: xs, u :: us, .cons r t, f => fun u' hu => by
  rw [List.all_cons, Bool.and_eq_true] at f
  rcases List.mem_cons.mp hu with rfl | hu
  ·rw [eqU_of r f.1]; exact eqAt_V r rx f.1 fx
  ·exact mem_eqAt rx fx t f.2 u' hu
def inV (x : V) (xs : List V) : Bool := xs.any fun y => eqV y x
def rIn (K : W.Frag) (neg : Bool) : R2 := fun x y H Q => ∃ p xs, y = .ref p /\ (SqL K H p xs ∨ SqT K H p xs) /\ flatV x = true /\ xs.all flatV = true /\ Q (.bl (if neg then !inV x xs else inV x xs)) H
theorem op_in_seq : OpR X (compareOp .In) (rIn X.K false) := by
 intro pins s σ H x y v u Q I rx ry h
 obtain ⟨p, xs, rfl, hq, fx, fs, q⟩ := h
 cases ry
 rcases hq with hq | hq
 ·obtain ⟨its, r, pl, hz⟩ := I.list hq
  refine SeqAt.in_listAt (eqU x) pl.isList (fun w hw => mem_eqAt rx fx r fs w (by simpa using hw)) ⟨.bl _, H, I, rfl, ?_⟩
  rw [show its.toArray.any (eqU x) = its.any (eqU x) by simp, any_eqU r fs]
  exact q
 ·obtain ⟨its, r, pl, hz⟩ := I.tuple hq
  refine SeqAt.in_tupleAt (eqU x) pl (fun w hw => mem_eqAt rx fx r fs w (by simpa using hw)) ⟨.bl _, H, I, rfl, ?_⟩
  rw [show its.toArray.any (eqU x) = its.any (eqU x) by simp, any_eqU r fs]
  exact q
theorem call_len_seq : CallR X (.builtin "len") (fun xs H Q => ∃ p ys, xs = [.ref p] /\ (SqL X.K H p ys ∨ SqT X.K H p ys) /\ Q (.int ys.length) H) := by
 intro pins s σ H xs us Q I r h
 obtain ⟨p, ys, rfl, hq, q⟩ := h
 obtain ⟨u, rfl, rx⟩ := vals1 r
 cases rx
 have hn := line63
 rcases hq with hq | hq
 ·obtain ⟨its, r', pl, hz⟩ := I.list hq
  have hlen := r'.length
  exact Calls.call_len_list pl.isList (by simp only [List.size_toArray] <;> lia) ⟨.int ys.length, H, I.tok _, ⟨s.toks + 1, by rw [List.size_toArray, hlen]⟩, q⟩
 ·obtain ⟨its, r', pl, hz⟩ := I.tuple hq
  have hlen := r'.length
  exact len_tuple pl (by simp only [List.size_toArray] <;> lia) ⟨.int ys.length, H, I.tok _, ⟨s.toks + 1, by rw [List.size_toArray, hlen]⟩, q⟩
theorem call_tuple_of : CallR X (.type "tuple") (fun xs H Q => ∃ p ys, xs = [.ref p] /\ ((SqL X.K H p ys /\ ∀ l, H l = none -> Q (.ref l) (upd H l (.tup ys))) ∨ (SqT X.K H p ys /\ Q (.ref p) H))) := by
 intro pins s σ H xs us Q I r h
 obtain ⟨p, ys, rfl, h⟩ := h
 obtain ⟨u, rfl, rx⟩ := vals1 r
 cases rx
 rcases h with ⟨hq, q⟩ | ⟨hq, q⟩
 ·obtain ⟨its, r', pl, hz⟩ := I.list hq
  have hlen := r'.length
  refine call_tuple_list pl.isList (fun h' kp => ?_) (by simp only [List.size_toArray] <;> lia)
  have I1 : Inv X pins σ H { s with heap := h' } := I.kept (t' := s.toks) kp
  have I2 : Inv X pins σ (upd H h'.objs.size (.tup ys)) { s with heap := h'.push { cls := .type "tuple", data := .seq its.toArray } } :=
   I1.laid (t' := s.toks) (fun b o e => Heap.get?_push_of_some _ e) (Nat.le_refl _) (show ObjOk X.prog X.w _ _ _ (.tup ys) from ⟨hz, its, r', IsTup.new _ _⟩)
  exact ⟨.ref h'.objs.size, _, I2, rfl, q _ (I1.hok.fresh (Nat.le_refl _))⟩
 ·obtain ⟨its, r', pl, hz⟩ := I.tuple hq
  exact call_tuple_same pl ⟨.ref p, H, I, rfl, q⟩
def tyV (K : W.Frag) (T : String) (x : V) (H : Hp) : Prop := match x with
 | .str _ => T = "str"
 | .int _ => T = "int"
 | .ref p => (T = "list" /\ ∃ xs, SqL K H p xs) ∨ (T = "tuple" /\ ∃ o, K.lookup p = some o /\ o.cls = .type "tuple" /\ o.dict = none) ∨
   (T = "dict" /\ ((∃ kvs, H p = some (.dK kvs)) ∨ ∃ kvs, H p = some (.dT kvs))) ∨ (T = "set" /\ ∃ S n, H p = some (.set S n))
 | _ => False
theorem tyV_is {pins : List (Addr × Obj)} {σ : St} {H : Hp} {s : Shared} {T : String} {x : V} {v : Value} (I : Inv X pins σ H s) (r : RelV x v) (ty : tyV X.K T x H) :
  s.TypeIs v T /\ ∀ a, v = .ref a -> ∃ ob, s.heap.get? a = some ob /\ ob.dict = none := by
 cases x with
 | str z =>
  obtain ⟨t, rfl⟩ := r
  cases (show T = "str" from ty)
  exact ⟨typeIs_str s z t, fun _ e => nomatch e⟩
 | int i =>
  obtain ⟨t, rfl⟩ := r
  cases (show T = "int" from ty)
  exact ⟨typeIs_int s i t, fun _ e => nomatch e⟩
 | ref p =>
  cases r
  rcases ty with ⟨rfl, xs, hq⟩ | ⟨rfl, o, hk, hc, hd⟩ | ⟨rfl, hk⟩ | ⟨rfl, S, n, hk⟩
  ·obtain ⟨its, _, pl, _⟩ := I.list hq
   refine ⟨pl.isList.typeIs, fun a e => ?_⟩
   cases e
   obtain ⟨o, n, e, c, hd, _⟩ := pl
   exact ⟨o, e, hd⟩
  ·refine ⟨⟨o, I.kIn p o hk, hc⟩, fun a e => ?_⟩
   cases e
   exact ⟨o, I.kIn _ o hk, hd⟩
  ·have z : ∃ o, s.heap.get? p = some o /\ o.ExactDict := by
    rcases hk with ⟨kvs, hk⟩ | ⟨kvs, hk⟩
    ·obtain ⟨_, _, _, _, o, _, _, e, ex, _⟩ := I.hok p _ hk
     exact ⟨o, e, ex⟩
    ·obtain ⟨_, _, _, _, o, _, _, e, ex, _⟩ := I.hok p _ hk
     exact ⟨o, e, ex⟩
   obtain ⟨o, e, ex⟩ := z
   refine ⟨⟨o, e, ex.1⟩, fun a e2 => ?_⟩
   cases e2
   exact ⟨o, e, ex.2.1⟩
  ·obtain ⟨o, _, _, _, e, ex, _⟩ := I.hok p _ hk
   refine ⟨⟨o, e, ex.1⟩, fun a e2 => ?_⟩
   cases e2
   exact ⟨o, e, ex.2.1⟩
 | _ => exact False.elim ty
def tBM0 (K : W.Frag) (T : String) (r : V -> List V -> Hp -> VK -> Prop) (to : TE) : TE := fun σ H Q => to σ H fun x H1 => tyV K T x H1 /\ r x [] H1 Q
def tBM (K : W.Frag) (T : String) (r : V -> List V -> Hp -> VK -> Prop) (to : TE) (t : TA) : TE := fun σ H Q => to σ H fun x H1 => tyV K T x H1 /\ t σ H1 fun xs H2 => r x xs H2 Q
variable {o e : Expr} {es : List Expr} {to : TE} {t : TA} {name : Str} {apos cpos : Pos} {T id : String} {r : V -> List V -> Hp -> VK -> Prop}
theorem pe_bm0 (pa : PlainAttrs T) (slot : Slot T name id) (hty : typeOf (.builtin id) = pure (.type "method_descriptor")) (hm : MtR X id r) (ho : PE X o to)
  (hbase : attributeBase o name X.env (eval o X.env) = eval o X.env := by rfl) (hline : (apos.endLine == cpos.line) = true := by rfl) : PE X (.Call (.Attribute o name apos) [] [] cpos) (tBM0 X.K T r to) := by
 intro pins s σ H Q I h
 refine wpAny_Call_method0_late hbase hline (thn (ho pins s σ H _ I h) fun v s1 ⟨x, H1, I1, r1, ty, q1⟩ => ?_)
 obtain ⟨h1, h2⟩ := tyV_is I1 r1 ty
 exact ⟨T, id, pa, slot, hty, h1, h2, Calls.callWith_builtin rfl (PySem.evalArgs_none (hm pins s1 σ H1 x [] v [] Q I1 r1 .nil q1))⟩
theorem pe_bm (pa : PlainAttrs T) (slot : Slot T name id) (hty : typeOf (.builtin id) = pure (.type "method_descriptor")) (hm : MtR X id r) (ho : PE X o to) (ha : PA X (e :: es) t)
  (hbase : attributeBase o name X.env (eval o X.env) = eval o X.env := by rfl)
  (hfew : ((backTo cpos (starEach (e :: es) X.env)).all (fun x => !x.1) && (backToKw cpos (keywordEach [] X.env)).all (fun x => x.1.isSome)
   && decide ((e :: es).length + ([] : List Keyword).length + (if ([] : List Keyword).isEmpty then 0 else 1) < 30)) = true := by rfl)
  (hline : (apos.endLine == cpos.line) = true := by rfl) (hs : starEach (e :: es) X.env = (false, eval e X.env) :: starEach es X.env := by rfl) (hplain : (backTo cpos (starEach es X.env)).any (·.1) = false := by rfl) :
  PE X (.Call (.Attribute o name apos) (e :: es) [] cpos) (tBM X.K T r to t) := by
 intro pins s σ H Q I h
 refine wpAny_Call_method_late hbase hfew hline rfl (thn (ho pins s σ H _ I h) fun v s1 ⟨x, H1, I1, r1, ty, q1⟩ => ?_)
 obtain ⟨h1, h2⟩ := tyV_is I1 r1 ty
 refine ⟨T, id, pa, slot, hty, h1, h2, ?_⟩
 have hA := ha cpos pins s1 σ H1 _ I1 q1
 rw [hs] at hA ⊢
 refine Calls.callWith_builtin (by show (false || (backTo cpos (starEach es X.env)).any (·.1)) = false; rw [hplain] <;> rfl) (Calls.evalArgs_plain ?_)
 exact thn hA fun us s2 ⟨vs, H2, I2, r2, q2⟩ => hm pins s2 σ H2 x vs v us Q I2 r1 r2 q2
/- xs.append(e), list.index on a module's tuple .. are MtR facts of 06m -/
end
def MtM (X : Cx) (id : String) (r : V -> List V -> Hp -> VK -> Prop) : Prop :=
 ∀ (pins : List (Addr × Obj)) (s : Shared) (σ : St) (H : Hp) (x : V) (xs : List V) (v : Value) (us : List Value) (Q : VK), Inv X pins σ H s -> RelV x v -> Vals xs us -> r x xs H Q ->
  wpAny (model X.prog X.w) X.A (call (.builtin id) (v :: us)) (EP X pins σ Q) X.xe s
theorem Vals.one : ∀ {x : V} {us : List Value}, Vals [x] us -> ∃ u, us = [u] /\ RelV x u
 | _, _, .cons r .nil => ⟨_, rfl, r⟩
theorem Vals.rep {xs : List V} {us : List Value} (h : Vals xs us) : ∀ k : Nat, Vals (List.replicate k xs).flatten (List.replicate k us).flatten
 | 0 => .nil
 | k + 1 => by
  rw [List.replicate_succ, List.replicate_succ, List.flatten_cons, List.flatten_cons]
  exact Vals.append h (Vals.rep h k)
theorem foldl_rep (its : List Value) : ∀ (k : Nat) (acc : List Value),
  List.foldl (fun x1 x2 => x1 ++ x2) acc.toArray (List.replicate k its.toArray) = (acc ++ (List.replicate k its).flatten).toArray
 | 0, acc => by simp
 | k + 1, acc => by
  have e : acc.toArray ++ its.toArray = (acc ++ its).toArray := by simp
  have e2 : (acc ++ its) ++ (List.replicate k its).flatten = acc ++ (List.replicate (k + 1) its).flatten := by
   rw [List.replicate_succ, List.flatten_cons, List.append_assoc]
  rw [<- e2, <- foldl_rep its k (acc ++ its), <- e, List.replicate_succ, List.foldl_cons]
section
variable {X : Cx} {pins : List (Addr × Obj)} {σ : St} {H : Hp} {s : Shared} {l b : Addr} {xs ys zs : List V}
theorem Inv.lset {its its' : List Value} {n : Nat} {f : Array Value -> Array Value} {t' : Nat} (I : Inv X pins σ H s) (hH : H l = some (.lst xs))
  (e : s.heap.get? l = some { cls := .type "list", data := .seq its.toArray n }) (hf : f its.toArray = its'.toArray) (hv : Vals ys its') (hz : ys.length <= sizeLine) :
  Inv X pins σ (upd H l (.lst ys)) { s with heap := s.heap.update l (Obj.mapSeq f), toks := t' } := by
 have q := PySem.IsL.update e f
 rw [hf] at q
 refine I.write (x := l) (e := l) (by rw [hH]; exact trivial) (.inl rfl) (fun b' u hb hu => (Heap.get?_update_other s.heap (Obj.mapSeq f) (Ne.symm hb)).trans hu) ⟨_, q⟩ ?_
 exact ⟨hz, its', _, hv, q⟩
theorem Inv.lnew {its : List Value} {t' : Nat} (I : Inv X pins σ H s) (hv : Vals ys its) (hz : ys.length <= sizeLine) :
  Inv X pins σ (upd H s.heap.objs.size (.lst ys)) { s with heap := s.heap.push { cls := .type "list", data := .seq its.toArray }, toks := t' } :=
 I.laid (fun _ _ q => Heap.get?_push_of_some _ q) (Nat.le_refl _) ⟨hz, its, 0, hv, Heap.get?_push_size _ rfl⟩
theorem Inv.fresh (I : Inv X pins σ H s) : H s.heap.objs.size = none := I.hok.fresh (Nat.le_refl _)
theorem Inv.lstM (I : Inv X pins σ H s) (hH : H l = some (.lst xs)) : xs.length <= sizeLine /\ ∃ (its : List Value) (n : Nat), Vals xs its /\ xs.length = its.length /\ s.heap.get? l = some { cls := .type "list", data := .seq its.toArray n } := by
 obtain ⟨z, its, n, r, e⟩ := I.hok l _ hH
 exact ⟨z, its, n, r, r.length, e⟩
theorem notLongL {n : Nat} (h : n <= sizeLine) : Builtin.List.listTooLong n = false := by
 unfold Builtin.List.listTooLong
 exact decide_eq_false (by lia)
end
section
variable {X : Cx}
def rAppend : V -> List V -> Hp -> VK -> Prop := fun x vs H Q => ∃ l xs y, x = .ref l /\ vs = [y] /\ H l = some (.lst xs) /\ xs.length < sizeLine /\ Q .non (upd H l (.lst (xs ++ [y])))
theorem mt_append : MtM X "list.append" rAppend := by
 intro pins s σ H x vs v us Q I rx rv h
 obtain ⟨l, xs, y, rfl, rfl, hH, hz, q⟩ := h
 cases rx
 obtain ⟨u, rfl, ru⟩ := rv.one
 obtain ⟨z, its, n, r, hl, e⟩ := I.lstM hH
 refine call_meets F.slot_list_append ⟨_, e, rfl⟩ F.entry_list_append (F.args_list_append_2 _ _) (PySem.list_append l its.toArray n u (by rw [List.size_toArray]; lia)) ⟨e, ?_⟩
 refine ⟨.non, _, I.lset (its' := its ++ [u]) hH e (by simp) (r.append (.cons ru .nil)) ?_, rfl, q⟩
 rw [List.length_append, List.length_singleton]
 lia
def rRep : R2 := fun x y H Q => ∃ l k xs, x = .ref l /\ y = .int k /\ H l = some (.lst xs) /\ -(2 ^ 63) <= k /\ k < 2 ^ 63 /\ xs.length * k.toNat <= sizeLine /\
 ∀ p, H p = none -> Q (.ref p) (upd H p (.lst (List.replicate k.toNat xs).flatten))
theorem len_rep {α : Type} (xs : List α) (k : Nat) : (List.replicate k xs).flatten.length = k * xs.length := by
 induction k with
 | zero => simp
 | succ k ih => rw [List.replicate_succ, List.flatten_cons, List.length_append, ih, Nat.succ_mul, Nat.add_comm]
theorem op_rep : OpR X (binaryOp .Mult) rRep := by
 intro pins s σ H x y v u Q I rx ry h
 obtain ⟨l, k, xs, rfl, rfl, hH, h1, h2, hz, q⟩ := h
 cases rx
 obtain ⟨t, rfl⟩ := ry
 obtain ⟨z, its, n, r, hl, e⟩ := I.lstM hH
 have hlen : its.toArray.size * k.toNat <= sizeLine := by rw [List.size_toArray, <- hl]; exact hz
 have hcap : ¬ its.toArray.size * k.toNat > (2 ^ 63 - 1) / 8 := by
  have : (sizeLine : Nat) <= (2 ^ 63 - 1) / 8 := by decide
  lia
 have hfit : ¬ (!Builtin.List.listFitsIndex k) = true := by
  rw [fitsIndex_both h1 h2]
  exact Bool.false_ne_true
 have hlong : ¬ Builtin.List.listTooLong (its.toArray.size * k.toNat) = true := by
  rw [notLongL hlen]
  exact Bool.false_ne_true
 have hnew : List.foldl (fun x1 x2 => x1 ++ x2) #[] (List.replicate (if its.toArray.isEmpty = true then 0 else k.toNat) its.toArray) = (List.replicate k.toNat its).flatten.toArray := by
  have f0 : ∀ m : Nat, List.foldl (fun x1 x2 => x1 ++ x2) #[] (List.replicate m its.toArray) = (List.replicate m its).flatten.toArray := fun m => by
   have := foldl_rep its m []
   rw [List.nil_append] at this
   exact this
  rw [f0]
  cases its with
  | nil => simp
  | cons a r' => rw [if_neg (by simp)]
 refine wpAny_binaryOp_repeat_ref (T := "list") (U := "int") (by decide) ⟨_, e, rfl⟩ (fun s' => typeIs_int s' k t) noFill_list_mul F.fills_int_mul F.slot_int_rmul repeat_list F.slot_int_index.lookup
  (call_meets F.slot_int_rmul (typeIs_int s k t) F.entry_int_rmul (F.args_int_rmul_2 _ _) (int___rmul___int_list k t l its.toArray n)
   ⟨e, rfl, ⟨_, e, rfl⟩, call_meets F.slot_list_mul ⟨_, e, rfl⟩ F.entry_list_mul (F.args_list_mul_2 _ _) (AutoListH.list___mul___list_int_3 l its.toArray n k t hfit hcap hlong) ⟨e, ?_⟩⟩)
 rw [hnew]
 exact ⟨.ref _, _, I.lnew (t' := s.toks) (r.rep k.toNat) (by rw [len_rep, Nat.mul_comm]; exact hz), rfl, q _ I.fresh⟩
end
end L2
namespace Att
open PySem PySem.W PySem.Calls PyProof.Rows
theorem ints_of_wellAll {P : Params} {h : Heap} : ∀ (ns : List Int) (vs : List Value), WellAll P h vs (ns.map WData.int) -> IntsAre vs ns := by
 intro ns
 induction ns with
 | nil =>
  intro vs w
  rw [List.map_nil] at w
  cases w
  exact .nil
 | cons n ns ih =>
  intro vs w
  rw [List.map_cons] at w
  cases w with
  | cons a b =>
   cases a
   exact .cons _ _ (ih _ b)
theorem script_of {l : OpenLaw} {n : Nat} (hn : l.most = some n) {P : Params} {h : Heap} {args : List WData} {vals : List Value}
  (hpre : l.row.toRowW.claim.pre args = true) (hwl : WellAll P h vals args) :
  ∃ a vs ns, vals = [Value.ref a] /\ args = [WData.list (ns.map WData.int)] /\ h.get? a = some { cls := .type "list", data := .seq vs.toArray } /\ IntsAre vs ns /\ ns.length <= n := by
 have hsh : WShape.hasAll [] args [.list .int] = true := (pre_splitW hpre).1
 have hc : l.pre.holds [] { args := args } = true := (pre_splitW hpre).2
 obtain ⟨d, r, rfl, h1, h2⟩ := hasAllW_cons hsh
 obtain rfl := hasAllW_nil h2
 obtain ⟨xs, rfl, h3⟩ := hasW_list h1
 obtain ⟨ns, rfl⟩ := items_int h3
 have hlen : ns.length <= n := by
  unfold OpenLaw.pre at hc
  have h4 : (WTm.not (.lt (.lit (.int (n : Int))) (.len (.arg 0)))).holds [] { args := [.list (ns.map .int)] } = true := by
   have h4 := (holds_andW hc).1
   rw [hn] at h4
   exact h4
  have h5 := condW_of h4 (w_not (w_lt w_lit (w_len_list (w_arg rfl))))
  rw [List.length_map] at h5
  refine Nat.le_of_not_lt fun q => ?_
  have q' : (n : Int) < ((ns.length : Nat) : Int) := by lia
  first
   | (rw [decide_eq_true q'] at h5; exact absurd h5 (by decide))
   | (simp at h5; lia)
 cases hwl with
 | cons w1 w2 =>
  cases w2
  cases w1 with
  | list ho hall => exact ⟨_, _, ns, rfl, rfl, ho, ints_of_wellAll ns _ hall, hlen⟩
theorem post_true (l : OpenLaw) (args : List WData) : l.row.toRowW.claim.post args (.bool true) args = true :=
 postW_of (r := l.row.toRowW) (X := (true == true))
  (show WShape.has [] (.bool true) .bool = true by first | rfl | decide | simp [WShape.has, WShape.arms, WShape.armsAll])
  (show (WTm.eq .res (.lit (.bool true))).value [] { args := args, res := some (.bool true), after := args } = some (.bool (true == true)) from w_eq_bool (w_res rfl) w_lit) rfl
theorem attach_call {l : OpenLaw} {n : Nat} {q : Program} {loose : List Str} {XP : (Str -> Option Value) -> Heap -> Prop} {YP : World -> Heap -> Prop} {d : DefRec}
  (hn : l.most = some n) (hdf : d.params.defaults = [])
  (call : ∀ (w : World) (s₀ s₁ : Shared) (mg mb : Str -> Option Value) (fa : Addr) (o : Obj) (pm cd doc : Value) (a : Addr) (vs : List Value) (ns : List Int),
   Ground q loose [] XP w s₀ mg mb s₁.heap -> YP w s₁.heap ->
   s₁.heap.get? fa = some o -> o.data = .func (docDef d.name d.params d.body d.scope pm cd doc) -> s₁.heap.CodeRec cd d.name -> mg d.name = some (.ref fa) ->
   s₁.heap.get? a = some { cls := .type "list", data := .seq vs.toArray } -> IntsAre vs ns -> ns.length <= n -> s₁.gens = #[] ->
   codeAny (model l.prog w) callerA (.call (.ref fa) ⟨[.ref a], []⟩) (fun r s' => r = .ok (.ret (.bool true)) /\ OldK s₁.heap s'.heap /\ s'.os = s₁.os /\ AllBare s'.gens) s₁) :
  WalkO q loose XP YP l.row.toRowW d [] (fun f vs => PySem.call f vs) := by
 intro w s₀ s₁ mg mb G Y fa o pm cd doc dV kV ho hd hcd hD hmg hg args vals as hpre hlay hrd hwl hlo
 obtain rfl : dV = .none := Dflts.none hD hdf
 obtain rfl : kV = .none := Dflts.noKw hD
 obtain ⟨a, vs, ns, rfl, rfl, hobj, hints, hlen⟩ := script_of hn hpre hwl
 refine enter_call (codeAny_mono (call w s₀ s₁ mg mb fa o pm cd doc a vs ns G Y ho (fd_plain hd) hcd hmg hobj hints hlen hg) fun r s' hq => ?_)
 obtain ⟨rfl, h2, h3, h4⟩ := hq
 exact ⟨.inl ⟨.bool true, .bool true, [], rfl, fun _ => rfl, .bool true, post_true l _, fun _ => ⟨List.Pairwise.nil, fun _ hm => (nomatch hm)⟩⟩, h2, h3, h4⟩
end Att
namespace L2
open PySem PySem.Spec PyProof.Rows
theorem vals_ints : ∀ {vs : List Value} {ns : List Int}, IntsAre vs ns -> Vals (ns.map V.int) vs
 | _, _, .nil => .nil
 | _, _, .cons n t h => .cons ⟨t, rfl⟩ (vals_ints h)
abbrev KOf {K : W.Frag} {h : Heap} (_ : K.In h) : W.Frag := K
end L2
/- THE LAST THEOREM (shape; LID, My.* are yours):
   My.Adr: a structure of the addresses that your layer names (classes, functions); My.Txt K t: a structure (Prop) of the equations over K;
   My.txt_mk : {K} {implicit addresses ..} (e1 : nsIn K mainGlobals "law" = some (some (.ref f))) (e2 : K.lookup f = some ⟨oc, od, .func (fnOf "law" "law" params body scope dV kV doc pm an cdv ct), sl⟩) (e3 : codeIn K cdv "law" = true) .. : ∃ t, My.Txt K t
set_option maxRecDepth 100000 in
set_option maxHeartbeats 0 in
theorem PySem.Challenge.cw_LID_holds : PySem.Challenge.rw_LID.Holds := by
 w_on; o_law; k_head; (case hw => w_witness2)
 k_fill
 refine L2.walk_of (l := PySem.Challenge.rw_LID) (n := 63) (k := 40) (x := "script") (CX := fun w => ..) (sp := fun _ => My.sp_law) rfl (by decide) rfl ⟨rfl, by decide, by decide⟩ (fun w h Y => PySem.W.kIn_of Y) ?F ?S ?C
 case F =>
  intro w mg fa h KX G hmg
  have T : ∃ t, My.Txt (L2.KOf KX) t := by
   dsimp only [L2.KOf]                          -- K must stand as «<heap const> w.params» for k_is
   refine' My.txt_mk ?e1 ?e2 ?e3 ..
   (case e1 => PySem.W.k_is)                    -- in the order: a name -> its address -> its object -> its parts
   (case e2 => PySem.W.k_is)
   ..
  obtain ⟨t, T⟩ := T
  have e0 := hmg.symm.trans (PySem.W.mg_of KX G T.law)
  cases e0                                       -- fa is the law's own address
  exact ⟨_, fun s u => .of_eq rfl, fun base kb nb => My.law_fn T kb nb⟩     -- if «.of_eq rfl» comes too early: refine' ⟨_, ?b, fun base kb nb => My.law_fn T kb nb⟩; exact fun s u => .of_eq rfl
 case S => exact fun w H a ns hl hO hS => ..
 case C => exact ..
(the tactic k_is has no namespace: write k_is) -/
namespace L2
open PySem PySem.Spec PyProof.Rows
def defArgs (s : Stmt) : Arguments := match s with
 | .FunctionDef _ a _ _ _ _ _ _ _ _ => a
 | _ => { posonlyargs := [], args := [], vararg := none, kwonlyargs := [], kw_defaults := [], kwarg := none, defaults := [] }
def defBody (s : Stmt) : List Stmt := match s with
 | .FunctionDef _ _ b _ _ _ _ _ _ _ => b
 | _ => []
def defScope (s : Stmt) : Scope := match s with
 | .FunctionDef _ _ _ _ _ _ sc _ _ _ => sc
 | _ => { kind := .function, names := [], isGenerator := false, isCoroutine := false }
abbrev CX0 : CXT := fun _ _ _ _ _ _ => False
abbrev E0 : XK := fun _ _ _ => False
theorem pass0 {X : Cx} : Passes CX0 X E0 := fun _ _ _ _ _ _ _ h => h.elim
structure Fun (K : W.Frag) (x qual : Str) (st : Stmt) (f : Addr) (fd : FuncData) : Prop where
 ex : ∃ (oc : Value) (od : Option Addr) (kV doc pm : Value) (an : Option Addr) (cdv ct : Value) (osl : Array (Option Value)),
  fd = PySem.W.fnOf x qual (defArgs st) (defBody st) (defScope st) .none kV doc pm an cdv ct /\ K.lookup f = some ⟨oc, od, .func fd, osl⟩ /\ PySem.W.codeIn K cdv qual = true
 kp : PySem.W.keepIn K (.ref f) = true
section
variable {P : Program} {w : World} {K : W.Frag} {mg : Str -> Option Value} {base : Heap}
theorem Fun.ok {x qual : Str} {st : Stmt} {f : Addr} {fd : FuncData} {N ps : List Str} {k : Nat} {sp : Sp} (F : Fun K x qual st f fd) (S : FnScope N ps (defScope st)) (len : ∀ vs H Q E, sp vs H Q E -> vs.length = ps.length)
  (hbody : ∀ (cdv : Value) (A : Around) (outer : List Env) (s : Shared) (H : Hp) (vs : List V) (Q : VK) (E : XK), Room k (A.deeper (envOfC qual (defScope st) s.heap.objs.size f cdv)) -> sp vs H Q E ->
   ∃ t, PSs (cxOf CX0 P w K mg base N qual (defScope st) f cdv A outer s H E).nox (defBody st) t /\ t { nx := fun _ H' => Q .non H', rt := Q } (start N vs) H) : FnOk P w K mg base CX0 (k + 1) f fd ps sp := by
 obtain ⟨oc, od, kV, doc, pm, an, cdv, ct, osl, rfl, lk, hcd⟩ := F.ex
 refine fn_of lk hcd S len fun A outer s H vs Q E hr hsp => ?_
 obtain ⟨t, h, q⟩ := hbody cdv A outer s H vs Q E hr hsp
 exact ⟨t, h.nox, q⟩
theorem Fun.binds {x qual : Str} {st : Stmt} {f : Addr} {fd : FuncData} {ps : List Str} (F : Fun K x qual st f fd)
  (h : ∀ (kV doc pm : Value) (an : Option Addr) (cdv ct : Value) (us : List Value), us.length = ps.length -> bindArgs (PySem.W.fnOf x qual (defArgs st) (defBody st) (defScope st) .none kV doc pm an cdv ct) ⟨us, []⟩ = pure (ps.zip us)) : Binds K fd ps [] := by
 obtain ⟨oc, od, kV, doc, pm, an, cdv, ct, osl, rfl, lk, hcd⟩ := F.ex
 exact .all (h kV doc pm an cdv ct)
theorem fun_mk {x qual : Str} {st : Stmt} {f : Addr} {oc : Value} {od an : Option Addr} {osl : Array (Option Value)} {kV doc pm cdv ct : Value} (l : K.lookup f = some ⟨oc, od, .func (PySem.W.fnOf x qual (defArgs st) (defBody st) (defScope st) .none kV doc pm an cdv ct), osl⟩)
  (c : PySem.W.codeIn K cdv qual = true) (k : PySem.W.keepIn K (.ref f) = true) : Fun K x qual st f (PySem.W.fnOf x qual (defArgs st) (defBody st) (defScope st) .none kV doc pm an cdv ct) := ⟨⟨oc, od, kV, doc, pm, an, cdv, ct, osl, rfl, l, c⟩, k⟩
end
theorem hu_of {A : Around} {k : Nat} (hr : Room k A) : A.units + 1 < cLine := Nat.lt_of_le_of_lt (Nat.add_le_add_left (by decide : 1 <= 64) _) hr.units
theorem small1000 {n : Nat} (h : n <= 1000) : n < sizeLine := Nat.lt_of_le_of_lt h (by decide)
section
variable {X : Cx}
theorem pv (i : Nat) {x : Str} {pos : Pos} (hN : X.N[i]? = some x := by rfl) (hv : Vis X.env.scope x := by first | exact Or.inl rfl | exact Or.inr (Or.inl rfl) | exact Or.inr (Or.inr rfl)) (hd : (x == ("__debug__" : Str)) = false := by decide)
  (hcd : (x == ("__classdict__" : Str)) = false := by decide) : PE X (.Name x pos) (tVar i) := pe_var hN hv hd hcd
end
theorem iteF {A B : Prop} (h : B) : if false = true then A else B := by
 rw [if_neg Bool.false_ne_true]
 exact h
theorem iteT {A B : Prop} (h : A) : if true = true then A else B := by
 rw [if_pos rfl]
 exact h
theorem ite2 {c A B : Prop} [Decidable c] (h1 : c -> A) (h2 : ¬ c -> B) : if c then A else B := by
 by_cases h : c
 ·rw [if_pos h]
  exact h1 h
 ·rw [if_neg h]
  exact h2 h
def Same (H H' : Hp) : Prop := ∀ b o, H b = some o -> H' b = some o
theorem Same.refl (H : Hp) : Same H H := fun _ _ h => h
theorem Same.trans {H H1 H2 : Hp} (a : Same H H1) (b : Same H1 H2) : Same H H2 := fun c o h => b c o (a c o h)
theorem Same.free {H H' : Hp} (e : Same H H') {l : Addr} (h : H' l = Option.none) : H l = Option.none := by
 cases q : H l with
 | none => rfl
 | some o =>
  rw [e l o q] at h
  cases h
theorem Same.seq {K : W.Frag} {H H' : Hp} {a : Addr} {xs : List V} (e : Same H H') (h : SqL K H a xs) : SqL K H' a xs := by
 rcases h with (h | ⟨o, h⟩) | h
 ·exact .inl (.inl (e _ _ h))
 ·exact .inl (.inr ⟨o, e _ _ h⟩)
 ·exact .inr h
section
variable {κ : Type} [DecidableEq κ]
def valV (kvs : List (κ × V)) (k : κ) : Option V := (kvs.find? fun kv => decide (kv.1 = k)).map (·.2)
def putK (kvs : List (κ × V)) (k : κ) (v : V) : List (κ × V) :=
 if (kvs.any fun kv => decide (kv.1 = k)) = true then kvs.map (fun kv => if kv.1 = k then (kv.1, v) else kv) else kvs ++ [(k, v)]
theorem valV_pos {p : κ × V} {r : List (κ × V)} {k : κ} (e : p.1 = k) : valV (p :: r) k = some p.2 := by simp [valV, List.find?_cons, e]
theorem valV_neg {p : κ × V} {r : List (κ × V)} {k : κ} (e : ¬ p.1 = k) : valV (p :: r) k = valV r k := by simp [valV, List.find?_cons, e]
theorem valV_any (k : κ) : ∀ kvs : List (κ × V), (kvs.any fun kv => decide (kv.1 = k)) = (valV kvs k).isSome
 | [] => rfl
 | p :: r => by
  rw [List.any_cons]
  by_cases e : p.1 = k
  ·simp only [valV_pos e, decide_eq_true e, Bool.true_or, Option.isSome_some]
  ·rw [valV_neg e, decide_eq_false e, Bool.false_or]; exact valV_any k r
theorem length_putK (kvs : List (κ × V)) (k : κ) (v : V) : (putK kvs k v).length <= kvs.length + 1 := by
 unfold putK
 split
 ·rw [List.length_map]; lia
 ·rw [List.length_append, List.length_cons, List.length_nil]; lia
theorem putK_new {kvs : List (κ × V)} {k : κ} (v : V) (h : valV kvs k = none) : putK kvs k v = kvs ++ [(k, v)] := by
 unfold putK
 rw [valV_any, h]
 exact if_neg (by decide)
theorem RelO.isSome_eq {o : Option V} {u : Option Value} (r : RelO o u) : o.isSome = u.isSome := by
 cases o with
 | none => cases u with
  | none => rfl
  | some _ => exact (show False from r).elim
 | some _ => cases u with
  | none => exact (show False from r).elim
  | some _ => rfl
theorem KV.val {kvs : List (κ × V)} {vs : List (κ × Value)} (r : KV kvs vs) (k : κ) : RelO (valV kvs k) (valueAt vs k) := by
 unfold KV at r
 induction r with
 | nil => exact True.intro
 | @cons p q ps qs h t ih =>
  obtain ⟨h1, h2⟩ := h
  by_cases e : p.1 = k
  ·have e' : q.1 = k := h1.symm.trans e
   have b : valueAt (q :: qs) k = some q.2 := by simp [valueAt, List.find?_cons, e']
   rw [valV_pos e, b]; exact h2
  ·have e' : ¬ q.1 = k := fun z => e (h1.trans z)
   have b : valueAt (q :: qs) k = valueAt qs k := by simp [valueAt, List.find?_cons, e']
   rw [valV_neg e, b]; exact ih
theorem KV.any {kvs : List (κ × V)} {vs : List (κ × Value)} (r : KV kvs vs) (k : κ) : (kvs.any fun kv => decide (kv.1 = k)) = vs.any fun kv => decide (kv.1 = k) := by
 unfold KV at r
 induction r with
 | nil => rfl
 | cons h t ih => rw [List.any_cons, List.any_cons, ih, h.1]
theorem KV.repl {kvs : List (κ × V)} {vs : List (κ × Value)} (r : KV kvs vs) (k : κ) {y : V} {u : Value} (ry : RelV y u) :
  KV (kvs.map fun kv => if kv.1 = k then (kv.1, y) else kv) (vs.map fun kv => if kv.1 = k then (kv.1, u) else kv) := by
 unfold KV at r ⊢
 induction r with
 | nil => exact .nil
 | @cons p q ps qs h t ih =>
  rw [List.map_cons, List.map_cons]
  refine .cons ?_ ih
  obtain ⟨h1, h2⟩ := h
  by_cases e : p.1 = k
  ·rw [if_pos e, if_pos (h1.symm.trans e)]; exact ⟨h1, ry⟩
  ·rw [if_neg e, if_neg (fun z => e (h1.trans z))]; exact ⟨h1, h2⟩
theorem KV.put {kvs : List (κ × V)} {vs : List (κ × Value)} (r : KV kvs vs) (k : κ) {y : V} {u : Value} (ry : RelV y u) : KV (putK kvs k y) (stored vs k u) := by
 unfold putK stored
 rw [r.any k]
 by_cases e : (vs.any fun kv => decide (kv.1 = k)) = true
 ·rw [if_pos e, if_pos e]; exact r.repl k ry
 ·rw [if_neg e, if_neg e]; exact Paired.snoc r ⟨rfl, ry⟩
theorem KV.length {kvs : List (κ × V)} {vs : List (κ × Value)} (r : KV kvs vs) : kvs.length = vs.length := Paired.length r
end
theorem kV_is {P : Program} {w : World} {k : Key} {u : Value} (r : RelV (kV k) u) : (mixKind P w).is k u = true := by
 cases k with
 | inl i => obtain ⟨t, e⟩ := (show ∃ t, u = Value.int i t from r); subst e; exact mixKind_int P w i t
 | inr x => obtain ⟨t, e⟩ := (show ∃ t, u = Value.str x t from r); subst e; exact mixKind_str P w x t
theorem items_are {P : Program} {w : World} : ∀ {ks : List Key} {us : List Value}, Vals (ks.map kV) us -> ItemsAre (mixKind P w) ks us
 | [], _, r => by rw [List.map_nil] at r; cases r; exact .nil
 | k :: ks, _, r => by
  rw [List.map_cons] at r
  cases r with
  | cons h t => exact .cons (kV_is h) (items_are t)
abbrev KT (H : Hp) : List (List Key × V) -> List (List Key × Addr × Value) -> Prop := Paired fun p q => p.1 = q.1 /\ H q.2.1 = some (.tup (p.1.map kV)) /\ RelV p.2 q.2.2
theorem KT.val {H : Hp} {kvs : List (List Key × V)} {xs : List (List Key × Addr × Value)} (r : KT H kvs xs) (k : List Key) : RelO (valV kvs k) ((atKey xs k).map (·.2)) := by
 induction r with
 | nil => exact True.intro
 | @cons p q ps qs h t ih =>
  obtain ⟨h1, _, h2⟩ := h
  by_cases e : p.1 = k
  ·have e' : q.1 = k := h1.symm.trans e
   have b : atKey (q :: qs) k = some q.2 := by simp [atKey, List.find?_cons, e']
   rw [valV_pos e, b]; exact h2
  ·have e' : ¬ q.1 = k := fun z => e (h1.trans z)
   have b : atKey (q :: qs) k = atKey qs k := by simp [atKey, List.find?_cons, e']
   rw [valV_neg e, b]; exact ih
theorem KT.repl {H : Hp} {kvs : List (List Key × V)} {xs : List (List Key × Addr × Value)} (r : KT H kvs xs) (k : List Key) {y : V} {u : Value} (ry : RelV y u) :
  KT H (kvs.map fun kv => if kv.1 = k then (kv.1, y) else kv) (xs.map (putAt k u)) := by
 induction r with
 | nil => exact .nil
 | @cons p q ps qs h t ih =>
  rw [List.map_cons, List.map_cons]
  refine .cons ?_ ih
  obtain ⟨h1, h2, h3⟩ := h
  unfold putAt
  by_cases e : p.1 = k
  ·rw [if_pos e, if_pos (h1.symm.trans e)]; exact ⟨h1, h2, ry⟩
  ·rw [if_neg e, if_neg (fun z => e (h1.trans z))]; exact ⟨h1, h2, h3⟩
theorem KT.put {H : Hp} {kvs : List (List Key × V)} {xs : List (List Key × Addr × Value)} (r : KT H kvs xs) (k : List Key) {b : Addr} {y : V} {u : Value} (hb : H b = some (.tup (k.map kV))) (ry : RelV y u) :
  KT H (putK kvs k y) (storedH xs k b u) := by
 have e : (kvs.any fun kv => decide (kv.1 = k)) = (atKey xs k).isSome := by
  rw [valV_any, (r.val k).isSome_eq, Option.isSome_map]
 unfold putK storedH
 rw [e]
 by_cases q : (atKey xs k).isSome = true
 ·rw [if_pos q, if_pos q]; exact r.repl k ry
 ·rw [if_neg q, if_neg q]; exact Paired.snoc r ⟨rfl, hb, ry⟩
theorem KT.keeps {H H' : Hp} {kvs : List (List Key × V)} {xs : List (List Key × Addr × Value)} (r : KT H kvs xs) (ht : ∀ b ys, H b = some (.tup ys) -> H' b = some (.tup ys)) : KT H' kvs xs :=
 Paired.mapP r fun _ _ z => ⟨z.1, ht _ _ z.2.1, z.2.2⟩
section
variable {P : Program} {w : World} {H : Hp} {h : Heap} {a : Addr}
theorem rd_of {u : HO} (ok : HOk P w H h) (e : Rd H a u) : ObjOk P w H h a u := e.ok ok
theorem dk_rd {kvs : List (Key × V)} (ok : HOk P w H h) (e : Rd H a (.dK kvs)) : kvs.length <= sizeLine /\ (a == sysModules) = false /\ ∃ vs, KV kvs vs /\ h.DictOf (mixKind P w) a vs :=
 show ObjOk P w H h a (.dK kvs) from rd_of ok e
theorem dk_of {kvs : List (Key × V)} (ok : HOk P w H h) (e : H a = some (.dK kvs)) : kvs.length <= sizeLine /\ (a == sysModules) = false /\ ∃ vs, KV kvs vs /\ h.DictOf (mixKind P w) a vs := dk_rd ok (.inl e)
theorem key_of {ks : List Key} (ok : HOk P w H h) (e : H a = some (.tup (ks.map kV))) : (tupleKind (mixKind P w)).is h ks a := by
 obtain ⟨_, its, r, o, h1, h2, n, h3⟩ := (show ObjOk P w H h a (.tup (ks.map kV)) from ok a _ e)
 exact ⟨o, its.toArray, n, h1, h2, h3, by simpa using items_are r⟩
theorem dt_rd {kvs : List (List Key × V)} (ok : HOk P w H h) (e : Rd H a (.dT kvs)) : kvs.length <= sizeLine /\ (a == sysModules) = false /\
  ∃ xs, KT H kvs xs /\ h.DictOfH (tupleKind (mixKind P w)) a xs := by
 obtain ⟨z, y, xs, r, o, es, ep, h1, h2, h3, h4, h5⟩ := (show ObjOk P w H h a (.dT kvs) from rd_of ok e)
 refine ⟨z, y, xs, r, o, es, ep, h1, h2, h3, h4, fun x hx => ?_, h5⟩
 have all : ∀ {l : List (List Key × V)} {m : List (List Key × Addr × Value)}, KT H l m -> ∀ x ∈ m, (tupleKind (mixKind P w)).is h x.1 x.2.1 := by
  intro l m q
  induction q with
  | nil => intro x hx; exact nomatch hx
  | @cons p q ps qs hq t ih =>
   intro x hx
   rcases List.mem_cons.mp hx with e | hx
   ·subst e
    exact key_of ok (by rw [<- hq.1]; exact hq.2.1)
   ·exact ih x hx
 exact all r x hx
theorem dt_of {kvs : List (List Key × V)} (ok : HOk P w H h) (e : H a = some (.dT kvs)) : kvs.length <= sizeLine /\ (a == sysModules) = false /\
  ∃ xs, KT H kvs xs /\ h.DictOfH (tupleKind (mixKind P w)) a xs := dt_rd ok (.inl e)
end
def DGet (H : Hp) (a : Addr) (y : V) (r : Option V) : Prop :=
 (∃ kvs k, Rd H a (.dK kvs) /\ y = kV k /\ r = valV kvs k) ∨ ∃ kvs k b, Rd H a (.dT kvs) /\ y = .ref b /\ H b = some (.tup (k.map kV)) /\ r = valV kvs k
def DPut (H : Hp) (a : Addr) (y v : V) (H' : Hp) : Prop :=
 (∃ kvs k, H a = some (.dK kvs) /\ y = kV k /\ kvs.length < sizeLine /\ H' = upd H a (.dK (putK kvs k v))) ∨
 ∃ kvs k b, H a = some (.dT kvs) /\ y = .ref b /\ H b = some (.tup (k.map kV)) /\ kvs.length < sizeLine /\ H' = upd H a (.dT (putK kvs k v))
theorem DGet.t {H : Hp} {a b : Addr} {kvs : List (List Key × V)} {k : List Key} (e : H a = some (.dT kvs)) (eb : H b = some (.tup (k.map kV))) : DGet H a (.ref b) (valV kvs k) := .inr ⟨kvs, k, b, .inl e, rfl, eb, rfl⟩
theorem DPut.t {H : Hp} {a b : Addr} {kvs : List (List Key × V)} {k : List Key} {v : V} (e : H a = some (.dT kvs)) (eb : H b = some (.tup (k.map kV))) (hl : kvs.length < sizeLine) :
  DPut H a (.ref b) v (upd H a (.dT (putK kvs k v))) := .inr ⟨kvs, k, b, e, rfl, eb, hl, rfl⟩
section
variable {X : Cx} {pins : List (Addr × Obj)} {σ : St} {H : Hp} {s : Shared} {a : Addr} {y v : V} {u r : Value} {o : Option V} {A : Around} {E : Value -> Shared -> Prop}
theorem Inv.big (I : Inv X pins σ H s) : sysModules < s.heap.objs.size := by
 have h : mainGlobals < s.heap.objs.size := (I.mod.glob.keeps I.bk).lt
 exact Nat.lt_trans (by decide) h
theorem d_getItem {Q : Value -> Shared -> Prop} (hu : A.units + 1 < cLine) (I : Inv X pins σ H s) (g : DGet H a y (some v)) (ry : RelV y u) (h : ∀ w' s', Inv X pins σ H s' -> RelV v w' -> Q w' s') :
  wpAny (model X.prog X.w) A (getItem (.ref a) u) Q E s := by
 rcases g with ⟨kvs, k, e, ey, l⟩ | ⟨kvs, k, b, e, ey, eb, l⟩
 ·subst ey
  obtain ⟨z, hd, vs, rel, dd⟩ := dk_rd I.hok e
  obtain ⟨w', hw, rw'⟩ := RelO.some_of (v := v) (o := valueAt vs k) (by rw [l]; exact rel.val k)
  exact wpAny_getItem_of (kV_is ry) dd.mapOf hw (h w' _ (I.tok _) rw')
 ·subst ey
  cases (show u = Value.ref b from ry)
  obtain ⟨z, hd, xs, rel, dd⟩ := dt_rd I.hok e
  obtain ⟨w', hw, rw'⟩ := RelO.some_of (v := v) (o := (atKey xs k).map (·.2)) (by rw [l]; exact rel.val k)
  obtain ⟨p, hp, hp2⟩ := Option.map_eq_some_iff.mp hw
  refine wpAny_getItem_heap (tupleKind_room_in1 hu) (key_of I.hok eb) dd hp ?_
  rw [hp2]
  exact h w' _ (I.tok _) rw'
theorem d_in {Q : Value -> Shared -> Prop} (hu : A.units + 1 < cLine) (I : Inv X pins σ H s) (g : DGet H a y o) (ry : RelV y u) (h : ∀ s', Inv X pins σ H s' -> Q (.bool o.isSome) s') :
  wpAny (model X.prog X.w) A (compareOp .In u (.ref a)) Q E s := by
 rcases g with ⟨kvs, k, e, ey, l⟩ | ⟨kvs, k, b, e, ey, eb, l⟩
 ·subst ey
  obtain ⟨z, hd, vs, rel, dd⟩ := dk_rd I.hok e
  refine wpAny_in_of (kV_is ry) hd dd.mapOf ?_
  rw [<- (rel.val k).isSome_eq, <- l]
  exact h _ (I.tok _)
 ·subst ey
  cases (show u = Value.ref b from ry)
  obtain ⟨z, hd, xs, rel, dd⟩ := dt_rd I.hok e
  refine wpAny_in_heap (tupleKind_room_in1 hu) (key_of I.hok eb) hd dd ?_
  have q := (rel.val k).isSome_eq
  rw [Option.isSome_map] at q
  rw [<- q, <- l]
  exact h _ (I.tok _)
theorem d_notIn {Q : Value -> Shared -> Prop} (hu : A.units + 1 < cLine) (I : Inv X pins σ H s) (g : DGet H a y o) (ry : RelV y u) (h : ∀ s', Inv X pins σ H s' -> Q (.bool (!o.isSome)) s') :
  wpAny (model X.prog X.w) A (compareOp .NotIn u (.ref a)) Q E s := by
 rcases g with ⟨kvs, k, e, ey, l⟩ | ⟨kvs, k, b, e, ey, eb, l⟩
 ·subst ey
  obtain ⟨z, hd, vs, rel, dd⟩ := dk_rd I.hok e
  refine wpAny_notIn_of (kV_is ry) hd dd.mapOf ?_
  rw [<- (rel.val k).isSome_eq, <- l]
  exact h _ (I.tok _)
 ·subst ey
  cases (show u = Value.ref b from ry)
  obtain ⟨z, hd, xs, rel, dd⟩ := dt_rd I.hok e
  refine wpAny_notIn_heap (tupleKind_room_in1 hu) (key_of I.hok eb) hd dd ?_
  have q := (rel.val k).isSome_eq
  rw [Option.isSome_map] at q
  rw [<- q, <- l]
  exact h _ (I.tok _)
theorem d_write {h' : Heap} {t' : Nat} {ob : HO} (I : Inv X pins σ H s) (mu : Mut (H a)) (hs : Heap.SameBut a s.heap h') (he : ∃ q, h'.get? a = some q) (new : ObjOk X.prog X.w (upd H a ob) h' a ob) :
  Inv X pins σ (upd H a ob) { s with heap := h', toks := t' } :=
 I.write (x := a) (e := a) mu (.inl rfl) (fun b q hb z => (hs.2 b hb).trans z) he new
theorem dk_new {P : Program} {w : World} {H' : Hp} {h' : Heap} {kvs : List (Key × V)} {vs : List (Key × Value)} (z : kvs.length <= sizeLine) (hd : (a == sysModules) = false) (rel : KV kvs vs) (dd : h'.DictOf (mixKind P w) a vs) :
  ObjOk P w H' h' a (.dK kvs) := ⟨z, hd, vs, rel, dd⟩
theorem d_setItem {H' : Hp} {Q : Unit -> Shared -> Prop} (hu : A.units + 1 < cLine) (I : Inv X pins σ H s) (g : DPut H a y v H') (ry : RelV y u) (rv : RelV v r) (h : ∀ s', Inv X pins σ H' s' -> Q () s') :
  wpAny (model X.prog X.w) A (setItem (.ref a) u r) Q E s := by
 rcases g with ⟨kvs, k, e, ey, l, eH⟩ | ⟨kvs, k, b, e, ey, eb, l, eH⟩
 ·subst ey eH
  obtain ⟨z, hd, vs, rel, dd⟩ := dk_of I.hok e
  have hz : vs.length <= sizeLine := by rw [<- rel.length]; exact z
  have hl : (putK kvs k v).length <= sizeLine := by have := length_putK kvs k v; lia
  refine wpAny_setItem_pairs (hsz := hz) (kV_is ry) dd fun h' dd' hs => h _ ?_
  have he : ∃ q, h'.get? a = some q := let ⟨q, _, _, hq, _⟩ := dd'; ⟨q, hq⟩
  exact d_write I (by rw [e]; exact True.intro) hs he (dk_new hl hd (rel.put k rv) dd')
 ·subst ey eH
  cases (show u = Value.ref b from ry)
  obtain ⟨z, hd, xs, rel, dd⟩ := dt_of I.hok e
  have hz : xs.length <= sizeLine := by rw [<- Paired.length rel]; exact z
  have hl : (putK kvs k v).length <= sizeLine := by have := length_putK kvs k v; lia
  refine wpAny_setItem_heap (hsz := hz) (tupleKind_room_in1 hu) (key_of I.hok eb) dd fun h' dd' hs => h _ ?_
  obtain ⟨q, es, ep, hq, h2, h3, h4, _, h5⟩ := dd'
  refine d_write I (by rw [e]; exact True.intro) hs ⟨q, hq⟩ ⟨hl, hd, _, (rel.put k eb rv).keeps fun c ys ec => ?_, q, es, ep, hq, h2, h3, h4, h5⟩
  rw [upd_ne (ne_of ec e (fun z => nomatch z))]
  exact ec
end
def NoSl (i : Expr) : Prop := ∀ ov iv, subscripted i false ov iv = operate [ov, iv] (getItem ov iv)
theorem subD_of {prog : Program} {w : World} {A : Around} {E : Value -> Shared -> Prop} {s : Shared} {env : Env} {value slice : Expr} {pos : Pos} {T id : String} {Q : Value -> Shared -> Prop}
  (hl : typeLookup (.type T) "__getitem__" = pure (some (.builtin id))) (hs : NoSl slice)
  (h : wpAny (model prog w) A (eval value env) (fun o s₁ => wpAny (model prog w) A (eval slice env) (fun i s₂ => s₂.TypeIs o T /\ wpAny (model prog w) A (getItem o i) Q E s₂) E s₁) E s) :
  wpAny (model prog w) A (eval (.Subscript value slice pos) env) Q E s := by
 refine Subscript_ (wpAny_mono h (fun o s₁ h₁ => wpAny_mono h₁ (fun i s₂ h₂ => ?_) fun _ _ x => x) fun _ _ x => x)
 obtain ⟨hT, h₂⟩ := h₂
 unfold subscriptTail
 refine wpAny_bind ?_
 rw [getitemInPython_of_ne hT.not_modules]
 refine wpAny_bind (wpAny_specialOf hT hl ?_)
 have fin : wpAny (model prog w) A (subscripted slice false o i) (fun r s₃ => wpAny (model prog w) A (letTemporaryGo value o r >>= fun _ => pure r) Q E s₃) E s₂ := by
  rw [hs o i]
  exact wpAny_operating (wpAny_mono h₂ (fun r s₃ h₃ => wpAny_bind (wpAny_letTemporaryGo (wpAny_pure h₃))) fun _ _ x => x)
 first
  | exact wpAny_pure (wpAny_bind fin)
  | exact wpAny_bind (wpAny_pure (wpAny_bind fin))
  | exact wpAny_bind fin
theorem dict_typeIs {X : Cx} {pins : List (Addr × Obj)} {σ : St} {H : Hp} {s : Shared} {a : Addr} {y : V} {o : Option V} (I : Inv X pins σ H s) (g : DGet H a y o) : s.TypeIs (.ref a) "dict" := by
 rcases g with ⟨kvs, k, e, _, _⟩ | ⟨kvs, k, b, e, _, _, _⟩
 ·obtain ⟨_, _, vs, _, dd⟩ := dk_rd I.hok e
  exact dd.typeIs
 ·obtain ⟨_, _, xs, _, dd⟩ := dt_rd I.hok e
  exact dd.typeIs
def tDGet (td ty : TE) : TE := fun σ H Q => td σ H fun x H1 => ty σ H1 fun y H2 => ∃ a v, x = .ref a /\ DGet H2 a y (some v) /\ Q v H2
def tDIn (ty td : TE) : TE := fun σ H Q => ty σ H fun y H1 => td σ H1 fun x H2 => ∃ a o, x = .ref a /\ DGet H2 a y o /\ Q (.bl o.isSome) H2
def tDNotIn (ty td : TE) : TE := fun σ H Q => ty σ H fun y H1 => td σ H1 fun x H2 => ∃ a o, x = .ref a /\ DGet H2 a y o /\ Q (.bl (!o.isSome)) H2
def sDPut (td ty tv : TE) : TS := fun D σ H => tv σ H fun v H1 => td σ H1 fun x H2 => ty σ H2 fun y H3 => ∃ a H4, x = .ref a /\ DPut H3 a y v H4 /\ D.nx σ H4
section
variable {X : Cx} {o i e value : Expr} {pos pos' tpos : Pos} {td ty tv : TE}
theorem pe_dget (hu : X.A.units + 1 < cLine) (ho : PE X o td) (hi : PE X i ty) (hs : NoSl i) : PE X (.Subscript o i pos) (tDGet td ty) := by
 intro pins s σ H Q I h
 refine subD_of PySem.F.slot_dict_getitem.lookup hs (thn (ho pins s σ H _ I h) fun u s1 ⟨x, H1, I1, rx, q1⟩ => thn (hi pins s1 σ H1 _ I1 q1) fun iv s2 ⟨y, H2, I2, ry, a, v, ex, g, q2⟩ => ?_)
 subst ex
 obtain rfl : u = Value.ref a := rx
 exact ⟨dict_typeIs I2 g, d_getItem hu I2 g ry fun w' s3 I3 rw' => ⟨v, H2, I3, rw', q2⟩⟩
theorem pc_din (hu : X.A.units + 1 < cLine) (hi : PE X i ty) (ho : PE X o td) : PC X .In i o (tDIn ty td) := by
 intro pins s σ H Q I h
 refine thn (hi pins s σ H _ I h) fun iv s1 ⟨y, H1, I1, ry, q1⟩ => thn (ho pins s1 σ H1 _ I1 q1) fun u s2 ⟨x, H2, I2, rx, a, ov, ex, g, q2⟩ => ?_
 subst ex
 obtain rfl : u = Value.ref a := rx
 exact d_in hu I2 g ry fun s3 I3 => ⟨.bl ov.isSome, H2, I3, rfl, q2⟩
theorem pc_dnotin (hu : X.A.units + 1 < cLine) (hi : PE X i ty) (ho : PE X o td) : PC X .NotIn i o (tDNotIn ty td) := by
 intro pins s σ H Q I h
 refine thn (hi pins s σ H _ I h) fun iv s1 ⟨y, H1, I1, ry, q1⟩ => thn (ho pins s1 σ H1 _ I1 q1) fun u s2 ⟨x, H2, I2, rx, a, ov, ex, g, q2⟩ => ?_
 subst ex
 obtain rfl : u = Value.ref a := rx
 exact d_notIn hu I2 g ry fun s3 I3 => ⟨.bl (!ov.isSome), H2, I3, rfl, q2⟩
theorem ps_dput (hu : X.A.units + 1 < cLine) (ho : PE X o td) (hi : PE X i ty) (hv : PE X value tv) (hs : swapsWith value (some (.Subscript o i pos')) pos.line X.env = pure false) :
  PS X (.Assign [.Subscript o i pos'] value pos) (sDPut td ty tv) := by
 intro pins s σ H D I h
 refine wpAny_Assign_Subscript (thn (hv pins s σ H _ I h) fun r s1 ⟨v, H1, I1, rv, q1⟩ => thn (ho pins s1 σ H1 _ I1 q1) fun u s2 ⟨x, H2, I2, rx, q2⟩ => thn (hi pins s2 σ H2 _ I2 q2) fun iv s3 ⟨y, H3, I3, ry, a, H4, ex, g, q3⟩ => ?_) hs
 subst ex
 obtain rfl : u = Value.ref a := rx
 exact d_setItem hu I3 g ry rv fun s4 I4 => ⟨σ, H4, I4, q3⟩
end
theorem dt_empty {P : Program} {w : World} {H : Hp} (h : Heap) (hb : sysModules < h.objs.size) : ObjOk P w H (h.push { cls := .type "dict", data := .dict #[] }) h.objs.size (.dT []) :=
 ⟨Nat.zero_le _, beq_eq_false_iff_ne.mpr (Ne.symm (Nat.ne_of_lt hb)), [], .nil, _, #[], 0, Heap.get?_push_size _ rfl, ⟨rfl, rfl, rfl⟩, rfl, rfl, List.nodup_nil⟩
def tDNewT : TE := fun _ H Q => ∀ p, H p = none -> Q (.ref p) (upd H p (.dT []))
section
variable {X : Cx} {pos : Pos}
theorem pe_dnewT : PE X (.Dict [] [] pos) tDNewT := fun pins s σ H Q I h =>
 wpAny_Dict_empty ⟨.ref s.heap.objs.size, _, I.laid (a := s.heap.objs.size) (o := .dT []) (t' := s.toks) (fun _ _ q => Heap.get?_push_of_some _ q) (Nat.le_refl _) (dt_empty s.heap I.big), rfl, h _ (I.hok.fresh (Nat.le_refl _))⟩
end
def tPairs : List (TE × TE) -> St -> Hp -> (List (V × V) -> Hp -> Prop) -> Prop
 | [], _, H, Q => Q [] H
 | (tk, tv) :: r, σ, H, Q => tk σ H fun x H1 => tv σ H1 fun y H2 => tPairs r σ H2 fun ps H3 => Q ((x, y) :: ps) H3
abbrev VV : List (V × V) -> List (Value × Value) -> Prop := Paired fun p q => RelV p.1 q.1 /\ RelV p.2 q.2
def PPs (X : Cx) (pos : Pos) (keys : List (Option Expr)) (values : List Expr) (trs : List (TE × TE)) : Prop :=
 ∀ (pins : List (Addr × Obj)) (s : Shared) (σ : St) (H : Hp) (Q : List (V × V) -> Hp -> Prop), Inv X pins σ H s -> tPairs trs σ H Q ->
  wpAny (model X.prog X.w) X.A (evalPairs (pairTrees keys values X.env pos)) (fun vs s' => ∃ ps H', Inv X pins σ H' s' /\ VV ps vs /\ Q ps H') X.xe s
theorem pps_nil {X : Cx} {pos : Pos} : PPs X pos [] [] [] := fun pins s σ H Q I h => pairTrees_nil_walk ⟨[], H, I, .nil, h⟩
theorem pps_cons {X : Cx} {pos : Pos} {k v : Expr} {ks : List (Option Expr)} {vs : List Expr} {tk tv : TE} {trs : List (TE × TE)} (hk : PE X k tk) (hv : PE X v tv) (hr : PPs X pos ks vs trs) :
  PPs X pos (some k :: ks) (v :: vs) ((tk, tv) :: trs) := fun pins s σ H Q I h =>
 pairTrees_cons_walk (thn (hk pins s σ H _ I h) fun u s1 ⟨x, H1, I1, rx, q1⟩ => thn (hv pins s1 σ H1 _ I1 q1) fun w2 s2 ⟨y, H2, I2, ry, q2⟩ =>
  thn (hr pins s2 σ H2 _ I2 q2) fun ws s3 ⟨ps, H3, I3, rel, q3⟩ => ⟨(x, y) :: ps, H3, I3, .cons ⟨rx, ry⟩ rel, q3⟩)
structure M1 (X : Cx) (o : Expr) (m : Str) (apos : Pos) (e : Expr) (cpos : Pos) : Prop where
 base : attributeBase o m X.env (eval o X.env) = eval o X.env
 few : ((backTo cpos (starEach [e] X.env)).all (fun x => !x.1) && (backToKw cpos (keywordEach [] X.env)).all (fun x => x.1.isSome)
  && decide (([e] : List Expr).length + ([] : List Keyword).length + (if ([] : List Keyword).isEmpty then 0 else 1) < 30)) = true
 line : (apos.endLine == cpos.line) = true
 trees : backTo cpos (starEach [e] X.env) = [(false, eval e X.env)]
structure M2 (X : Cx) (o : Expr) (m : Str) (apos : Pos) (e f : Expr) (cpos : Pos) : Prop where
 base : attributeBase o m X.env (eval o X.env) = eval o X.env
 few : ((backTo cpos (starEach [e, f] X.env)).all (fun x => !x.1) && (backToKw cpos (keywordEach [] X.env)).all (fun x => x.1.isSome)
  && decide (([e, f] : List Expr).length + ([] : List Keyword).length + (if ([] : List Keyword).isEmpty then 0 else 1) < 30)) = true
 line : (apos.endLine == cpos.line) = true
 trees : backTo cpos (starEach [e, f] X.env) = [(false, eval e X.env), (false, eval f X.env)]
theorem forIn_steps {α β : Type} {f : α -> β -> Sem (ForInStep β)} {g : β -> α -> β} : ∀ {l : List α} (c : β), (∀ x ∈ l, ∀ c, f x c = pure (.yield (g c x))) -> forIn l c f = pure (l.foldl g c)
 | [], _, _ => rfl
 | x :: l, c, h => by
  rw [List.forIn_cons, h x (List.mem_cons_self ..), pure_bind]
  exact forIn_steps (g c x) fun y hy => h y (List.mem_cons_of_mem _ hy)
def clStep (env : Env) (acc : List (Str × Addr)) (y : Str × NameKind) : List (Str × Addr) :=
 if y.2 == .free then (match env.cells.lookup y.1 with | some c => (y.1, c) :: acc | none => acc) else acc
def clOf (env : Env) (sc : Scope) : List (Str × Addr) := sc.names.foldl (clStep env) []
theorem closure_is {env : Env} {sc : Scope} (h : ∀ y ∈ sc.names, y.2 = .free -> ∃ c, env.cells.lookup y.1 = some c) : closureFor sc env = pure (clOf env sc) := by
 simp only [closureFor]
 rw [forIn_steps (g := clStep env) [] fun x hx c => ?_]
 ·rfl
 ·obtain ⟨n, k⟩ := x
  by_cases hk : k = .free
  ·subst hk
   obtain ⟨d, hd⟩ := h _ hx rfl
   have hd' : env.cells.lookup n = some d := hd
   simp only [clStep, cellOf, hd', beq_self_eq_true, if_true, pure_bind]
  ·have hb : (k == NameKind.free) = false := by simpa using hk
   simp only [clStep, hb, Bool.false_eq_true, if_false]
theorem cl_sound {env : Env} : ∀ (names : List (Str × NameKind)) (acc : List (Str × Addr)), (∀ y c, acc.lookup y = some c -> env.cells.lookup y = some c) ->
  ∀ y c, (names.foldl (clStep env) acc).lookup y = some c -> env.cells.lookup y = some c
 | [], _, h => h
 | (n, k) :: r, acc, h => by
  refine cl_sound r _ fun y c e => ?_
  unfold clStep at e
  split at e
  ·split at e
   ·rename_i d hd
    rw [List.lookup_cons] at e
    cases hy : y == n with
    | true =>
     rw [hy] at e
     have hy' : y = n := eq_of_beq hy
     cases e
     rw [hy']
     exact hd
    | false => rw [hy] at e; exact h y c e
   ·exact h y c e
  ·exact h y c e
theorem cl_keep {env : Env} : ∀ (names : List (Str × NameKind)) (acc : List (Str × Addr)) (y : Str), (∃ c, acc.lookup y = some c) -> ∃ c, (names.foldl (clStep env) acc).lookup y = some c
 | [], _, _, h => h
 | (n, k) :: r, acc, y, h => by
  refine cl_keep r _ y ?_
  unfold clStep
  split
  ·split
   ·rename_i d hd
    rw [List.lookup_cons]
    cases hy : y == n with
    | true => exact ⟨_, rfl⟩
    | false => exact h
   ·exact h
  ·exact h
theorem cl_has {env : Env} : ∀ (names : List (Str × NameKind)) (acc : List (Str × Addr)) (y : Str), names.lookup y = some .free -> (∃ c, env.cells.lookup y = some c) -> ∃ c, (names.foldl (clStep env) acc).lookup y = some c
 | [], _, _, h, _ => by simp at h
 | (n, k) :: r, acc, y, h, hc => by
  rw [List.lookup_cons] at h
  cases hy : y == n with
  | true =>
   rw [hy] at h
   cases h
   have hy' : y = n := eq_of_beq hy
   subst hy'
   obtain ⟨c, hc⟩ := hc
   refine cl_keep r _ y ?_
   refine ⟨c, ?_⟩
   unfold clStep
   rw [if_pos (by rfl)]
   show List.lookup y (match env.cells.lookup y with | some c => (y, c) :: acc | none => acc) = _
   rw [hc]
   simp
  | false =>
   rw [hy] at h
   exact cl_has r _ y h hc
theorem relabel_kind {env : Env} : ∀ {names : List (Str × NameKind)} {y : Str} {k : NameKind},
  (names.map fun (n, k) => if (k == NameKind.free && env.scope.kind == .function && env.kindOf n == some .cell) then (n, NameKind.cell) else (n, k)).lookup y = some k ->
   names.lookup y = some k ∨ (names.lookup y = some .free /\ k = .cell)
 | [], _, _, h => by simp at h
 | (n, k0) :: r, y, k, h => by
  have ih := @relabel_kind env r y k
  rw [List.map_cons] at h
  by_cases hc : (k0 == NameKind.free && env.scope.kind == .function && env.kindOf n == some .cell) = true
  ·have h' : List.lookup y ((n, NameKind.cell) :: (r.map fun (n, k) => if (k == NameKind.free && env.scope.kind == .function && env.kindOf n == some .cell) then (n, NameKind.cell) else (n, k))) = some k := by
    have e : (if (k0 == NameKind.free && env.scope.kind == .function && env.kindOf n == some .cell) = true then (n, NameKind.cell) else (n, k0)) = (n, NameKind.cell) := if_pos hc
    rw [<- e]
    exact h
   rw [List.lookup_cons] at h' ⊢
   cases hy : y == n with
   | true =>
    rw [hy] at h'
    cases h'
    have hk : k0 = .free := by
     rw [Bool.and_eq_true, Bool.and_eq_true] at hc
     exact eq_of_beq hc.1.1
    exact .inr ⟨by rw [hk], rfl⟩
   | false => rw [hy] at h'; exact ih h'
  ·have h' : List.lookup y ((n, k0) :: (r.map fun (n, k) => if (k == NameKind.free && env.scope.kind == .function && env.kindOf n == some .cell) then (n, NameKind.cell) else (n, k))) = some k := by
    have e : (if (k0 == NameKind.free && env.scope.kind == .function && env.kindOf n == some .cell) = true then (n, NameKind.cell) else (n, k0)) = (n, k0) := if_neg hc
    rw [<- e]
    exact h
   rw [List.lookup_cons] at h' ⊢
   cases hy : y == n with
   | true => rw [hy] at h'; exact .inl h'
   | false => rw [hy] at h'; exact ih h'
def hideStr (y : Str) : Str := ⟨#[46] ++ y.cps⟩
def hide (vs : List Str) (y : Str) : Str := if vs.contains y = true then hideStr y else y
structure CompScope (X : Cx) (vs : List Str) (sc : Scope) : Prop where
 kind : sc.kind = .function
 cell : ∀ y ∈ sc.names, y.2 ≠ .cell
 locs : ∀ y ∈ sc.names, y.2 = .local -> sc.names.lookup y.1 = some .local
 own : ∀ y ∈ X.N.map (hide vs), sc.names.lookup y ≠ some .local
 hid : ∀ y ∈ vs, sc.names.lookup (hideStr y) = none
 nd : (vs ++ X.N.map (hide vs)).Nodup
 free : ∀ y ∈ sc.names, y.2 = .free -> X.env.kindOf y.1 = some .cell ∨ X.env.kindOf y.1 = some .free
def cxC (X : Cx) (vs : List Str) (sc : Scope) (C : Addr) (s : Shared) (H : Hp) (fp : List Addr) : Cx where
 prog := X.prog
 w := X.w
 K := X.K
 mg := X.mg
 base := X.base
 A := X.A
 N := vs ++ X.N.map (hide vs)
 s₀ := s
 H₀ := H
 env := compEnvC sc (clOf X.env sc) C X.env
 outer := X.stack
 stack := X.stack
 ex := fp
 fn := fun _ => false
 calm := X.calm
 pn := X.pn
 xe := fun _ _ => False
def compSt (vs : List Str) (σ : St) : St := List.replicate vs.length none ++ σ
section
variable {X : Cx} {pins : List (Addr × Obj)} {σ : St} {H : Hp} {s : Shared} {vs : List Str} {sc : Scope}
theorem comp_inv {C : Addr} {fp : List Addr} {h' : Heap} {tk : Nat} {m0 : Str -> Option Value} (S : CompScope X vs sc) (I : Inv X pins σ H s) (hf : ∀ b ∈ fp, FpOk X pins H b) (ho : ∀ b ∈ fp, ∃ o, s.heap.get? b = some o)
  (k : ∀ b o, s.heap.get? b = some o -> h'.get? b = some o) (hns : h'.Ns C m0) (hC : s.heap.objs.size <= C) : Inv (cxC X vs sc C s H fp) pins (compSt vs σ) H { s with heap := h', toks := tk } := by
 have sound : ∀ y c, (clOf X.env sc).lookup y = some c -> X.env.cells.lookup y = some c := cl_sound sc.names [] fun y c e => by simp at e
 have fr : ∀ y, sc.names.lookup y = some .free -> X.env.kindOf y = some .cell ∨ X.env.kindOf y = some .free := fun y e => S.free (y, .free) (PySem.mem_of_lookup e) rfl
 have frc : ∀ y, (X.env.kindOf y = some .cell ∨ X.env.kindOf y = some .free) -> ∃ c, X.env.cells.lookup y = some c := fun y e => I.ok.has y e
 have kinds : ∀ {y : Str} {kd : NameKind}, (relabel sc X.env).names.lookup y = some kd -> kd = .cell ∨ kd = .free -> sc.names.lookup y = some .free := fun {y kd} e hk => by
  rcases relabel_kind (names := sc.names) e with z | ⟨z, _⟩
  ·rcases hk with q | q
   ·subst q; exact absurd rfl (S.cell _ (PySem.mem_of_lookup z))
   ·subst q; exact z
  ·exact z
 have has : ∀ y, sc.names.lookup y = some .free -> ∃ c, (clOf X.env sc).lookup y = some c := fun y e => cl_has sc.names [] y e (frc y (fr y e))
 have hlt : ∀ y c, X.env.cells.lookup y = some c -> c < s.heap.objs.size := fun y c e => let ⟨_, z⟩ := I.cell y c e; z.lt
 have kc : ∀ {c v}, s.heap.IsCell c v -> h'.IsCell c v := fun {c v} ⟨o, e, d⟩ => ⟨o, k _ _ e, d⟩
 refine ⟨⟨I.ok.mod, S.kind, I.ok.glob, I.ok.blt, hC, fun y z c h1 h2 => I.ok.inj y z c (sound y c h1) (sound z c h2), fun y hy => ?_, fun y c z _ => (nomatch z), I.ok.hd, I.ok.frames, .inl rfl, fun b hb => ⟨?_, fun y c e => ?_⟩, I.bs, Nat.le_trans I.ok.bsz I.sz, fun b o e hb => ?_, fun b hb hs => ?_, I.stack, I.stkFree⟩,
  rfl, I.bare, Un.kept k, ⟨m0, hns, fun i y v e1 e2 e3 => ?_⟩, fun y c e => ?_, I.hok.fresh hC, fun y c e => I.freeC y c (sound y c e), fun p hp => ?_, I.hok.kept k, ?_⟩
 ·have hy' : (relabel sc X.env).names.lookup y = some .cell ∨ (relabel sc X.env).names.lookup y = some .free := hy
  rcases hy' with z | z
  ·exact has y (kinds z (.inl rfl))
  ·exact has y (kinds z (.inr rfl))
 ·obtain ⟨o, e⟩ := ho b hb
  exact Nat.ne_of_lt (Nat.lt_of_lt_of_le (Heap.lt_size e) hC)
 ·exact (hf b hb).2.2.2.2.1 y c (sound y c e)
 ·obtain ⟨_, _, _, z, _⟩ := hf b hb
  rcases z with z | z
  ·exact I.ok.noex b o e z
  ·exact absurd (Nat.lt_of_lt_of_le (Heap.lt_size (I.ok.bs b o e).1) z) (Nat.lt_irrefl _)
 ·obtain ⟨_, h1, h2, _⟩ := hf b hb
  rcases List.mem_cons.mp (I.stkSub b hs) with z | z
  ·exact h1 z
  ·exact h2 z
 ·have e1' : (vs ++ X.N.map (hide vs))[i]? = some y := e1
  have e2' : (List.replicate vs.length none ++ σ)[i]? = some (some v) := e2
  have hi : vs.length <= i := by
   by_cases z : i < vs.length
   ·rw [List.getElem?_append_left (by simpa using z), List.getElem?_replicate] at e2'
    split at e2' <;> cases e2'
   ·lia
  rw [List.getElem?_append_right hi] at e1'
  rw [List.getElem?_append_right (by simpa using hi), List.length_replicate] at e2'
  have yN : y ∈ X.N.map (hide vs) := List.mem_of_getElem? e1'
  have e3' : (relabel sc X.env).names.lookup y = some .local ∨ (relabel sc X.env).names.lookup y = some .cell ∨ (relabel sc X.env).names.lookup y = some .free := e3
  have isf : sc.names.lookup y = some .free := by
   rcases e3' with z | z | z
   ·rcases relabel_kind (names := sc.names) z with q | ⟨_, q⟩
    ·exact absurd q (S.own y yN)
    ·cases q
   ·exact kinds z (.inl rfl)
   ·exact kinds z (.inr rfl)
  have e1' : X.N[i - vs.length]? = some y := by
   rw [List.getElem?_map] at e1'
   cases e : X.N[i - vs.length]? with
   | none => rw [e] at e1'; cases e1'
   | some y0 =>
    rw [e] at e1'
    have e2 : hide vs y0 = y := Option.some.inj e1'
    unfold hide at e2
    split at e2
    ·rename_i hc
     rw [<- e2, S.hid y0 (by simpa using hc)] at isf
     cases isf
    ·rw [e2]
  have ok := fr y isf
  obtain ⟨m, _, hl⟩ := I.loc
  obtain ⟨u, r, lk⟩ := hl (i - vs.length) y v e1' e2' (.inr ok)
  refine ⟨u, r, ?_⟩
  rcases lk with ⟨q, _⟩ | ⟨_, c, ec, hc⟩
  ·rcases ok with z | z <;> rw [z] at q <;> cases q
  ·obtain ⟨c', e'⟩ := has y isf
   have : c' = c := Option.some.inj ((sound y c' e').symm.trans ec)
   subst this
   refine .inr ⟨?_, c', e', kc hc⟩
   rcases e3' with z | z | z
   ·rcases relabel_kind (names := sc.names) z with q | ⟨_, q⟩
    ·exact absurd q (S.own y yN)
    ·cases q
   ·exact .inl z
   ·exact .inr z
 ·obtain ⟨v, z⟩ := I.cell y c (sound y c e)
  exact ⟨v, kc z⟩
 ·obtain ⟨e, n, ne, nf, d⟩ := I.pin p hp
  refine ⟨k _ _ e, n, Nat.ne_of_lt (Nat.lt_of_lt_of_le (Heap.lt_size e) hC), fun z => ?_, d⟩
  rcases List.mem_cons.mp (I.stkSub p.1 z) with q | q
  ·exact ne q
  ·exact nf q
 ·show (List.replicate vs.length none ++ σ).length = (vs ++ X.N.map (hide vs)).length
  rw [List.length_append, List.length_append, List.length_replicate, List.length_map, I.len]
theorem Inv.adopt {D : Addr} {ys : List V} {its : List Value} {n : Nat} (I : Inv X pins σ H s) (hz : ys.length <= sizeLine) (hv : Vals ys its) (hD : H D = none) (e : s.heap.get? D = some { cls := .type "list", data := .seq its.toArray n })
  (h0 : X.s₀.heap.objs.size <= D) (h1 : D ≠ X.env.locals) (h2 : ∀ x c, X.env.cells.lookup x = some c -> c ≠ D) (h3 : ∀ p ∈ X.pn ++ pins, p.1 ≠ D) : Inv X pins σ (upd H D (.lst ys)) s := by
 have nd : ∀ b u, H b = some u -> b ≠ D := fun b u q z => by rw [z, hD] at q; cases q
 have q := I.step (h' := s.heap) (H' := upd H D (.lst ys)) (g' := s.gens) (t' := s.toks) (d' := s.drawn) (ch := [D]) (fun b hb => by
   have z : b = D := by simpa using hb
   subst z
   exact ⟨.inr h0, h1, h2, h3⟩)
  (fun b o _ _ _ e _ => e) (fun b o _ _ _ e _ => ⟨o.slots, e⟩) (fun b o hb _ n => by rw [upd_ne (fun z => hb (by simp [z]))]; exact n) (fun b o _ e => ⟨o, e⟩)
  (fun b xs q => by rw [upd_ne (nd b _ q)]; exact q) (fun b o u q => by rw [upd_ne (nd b _ q)]; exact q) (fun b ps q => ⟨#[], by rw [upd_ne (nd b _ q), q]; simp⟩) (fun m hm => hm) (fun b u q => ?_) I.bare
 ·exact q
 ·by_cases hb : b = D
  ·subst hb
   rw [upd_same] at q
   cases q
   exact ⟨hz, its, n, hv, e⟩
  ·rw [upd_ne hb] at q
   exact (I.hok b u q).stay (fun _ _ _ z => z) (fun c z => by rw [upd_ne (nd c _ z)]; exact z) fun c xs z => by rw [upd_ne (nd c _ z)]; exact z
end
def PTs (X : Cx) (ifs : List Expr) (t : TT) : Prop :=
 ∀ (pins : List (Addr × Obj)) (s : Shared) (σ : St) (H : Hp) (Q : Bool -> Hp -> Prop), Inv X pins σ H s -> t σ H Q ->
  wpAny (model X.prog X.w) X.A (forIn ifs true fun c r => if r = true then do let ok <- isTrue c X.env (eval c X.env); pure (ForInStep.yield ok) else pure (ForInStep.yield r)) (TP X pins σ Q) X.xe s
def tYes : TT := fun _ H Q => Q true H
theorem yes_of {σ : St} {H : Hp} {F G : Hp -> Prop} (h : F H) : tYes σ H (fun b H3 => if b = true then F H3 else G H3) := by
 show (if true = true then F H else G H)
 exact iteT h
theorem pts_nil {X : Cx} : PTs X [] tYes := fun _ _ _ H _ I h => wpAny_pure ⟨H, I, h⟩
theorem pts_one {X : Cx} {c : Expr} {t : TT} (h : PT X c t) : PTs X [c] t := fun pins s σ H Q I q => wpAny_tests_one (h pins s σ H Q I q)
theorem comp_loop {prog : Program} {w : World} {A : Around} {R : Result -> Shared -> Prop} {s : Shared} {elt tg iter : Expr} {ifs : List Expr} {sc : Scope} {pos : Pos} {it acc : Value} {env : Env} (Iv : Nat -> Shared -> Prop)
  (turn : ∀ n s, Iv n s -> wpAny (model prog w) A (pyNext it) (fun r s1 => match r with
   | none => R (.ok .next) s1
   | some v => wpAny (model prog w) A (letOwnedTupleGo tg it v) (fun _ s1 => wpAny (model prog w) A (assign tg env v) (fun _ s2 =>
     wpAny (model prog w) A (forIn ifs true fun c r => if r = true then do let ok <- isTrue c env (eval c env); pure (ForInStep.yield ok) else pure (ForInStep.yield r)) (fun ok s3 =>
      if ok = true then wpAny (model prog w) A (eval elt env) (fun y s4 => wpAny (model prog w) A (call (.builtin "list.append") [acc, y]) (fun _ s5 => ∃ m, m < n /\ Iv m s5) (fun _ _ => False) s4) (fun _ _ => False) s3
      else ∃ m, m < n /\ Iv m s3) (fun _ _ => False) s2) (fun _ _ => False) s1) (fun _ _ => False) s1) (fun _ _ => False) s)
  (n : Nat) (h : Iv n s) : codeAny (model prog w) A (.compLoop (.ListComp elt [⟨tg, iter, ifs, 0⟩] sc pos) 0 it acc env) R s := by
 refine codeAny_loop rfl Iv (fun n s hI => ?_) n h
 show wpAny _ A ((compTurn (.ListComp elt [⟨tg, iter, ifs, 0⟩] sc pos) 0 it acc env).onRaise (fun x => do noteFrame x env; theTreesLotGoes x)) _ _ s
 refine wpAny_noted (wpAny_mono (E := fun _ _ => False) ?_ (fun _ _ q => q) fun _ _ z => z.elim)
 rw [compTurn_list]
 refine wpAny_bind (wpAny_standAt (wpAny_bind (thn (turn n s hI) fun r s1 h1 => ?_)))
 cases r with
 | none => exact wpAny_pure h1
 | some v =>
  refine wpAny_bind (thn h1 fun _ s2 h2 => wpAny_bind (thn h2 fun _ s3 h3 => wpAny_bind (thn h3 fun ok s4 h4 => ?_)))
  cases ok with
  | false => exact wpAny_pure ⟨rfl, h4⟩
  | true => exact wpAny_bind (wpAny_bind (thn h4 fun y s5 h5 => wpAny_bind (thn h5 fun _ s6 h6 => wpAny_pure (wpAny_pure ⟨rfl, h6⟩))))
def Keep0 (σ σ' : St) : Prop := ∀ (i : Nat) v, σ[i]? = some (some v) -> σ'[i]? = some (some v)
theorem keep_one {σ : St} {x : Option V} : Keep0 (none :: σ) (x :: σ) := fun i v e => by
 cases i with
 | zero => cases e
 | succ i => exact e
theorem keep_two {σ : St} {x y : Option V} : Keep0 (none :: none :: σ) (x :: y :: σ) := fun i v e => by
 match i, e with
 | 0, e => cases e
 | 1, e => cases e
 | _ + 2, e => exact e
section
variable {X : Cx} {pins : List (Addr × Obj)} {σ : St} {H : Hp} {s : Shared} {vs : List Str} {sc : Scope} {tg elt iter : Expr} {ifs : List Expr} {pos : Pos} {g : TG} {tt : TT} {te : TE}
def CompW (vs : List Str) (g : TG) (tt : TT) (te : TE) (σ : St) (J : It) (H : Hp) (Fin : List V -> Hp -> Prop) : Prop :=
 ∃ W : Nat -> Nat -> List V -> Hp -> Prop, (∃ m, W 0 m [] H) /\ ∀ i m ys H, W i m ys H ->
  (J.stop i H /\ ys.length <= sizeLine /\ Fin ys H) ∨ (J.go i H /\ ys.length < sizeLine /\ ∃ N : List V -> Hp -> Prop, (∀ zs H', N zs H' -> ∃ m', m' < m /\ W (i + 1) m' zs H') /\
   ∀ v H', J.yld i H v H' -> g v (compSt vs σ) H' fun σ2 H2 => Keep0 (compSt vs σ) σ2 /\ tt σ2 H2 fun b H3 => if b = true then te σ2 H3 fun y H4 => N (ys ++ [y]) H4 else N ys H3)
theorem comp_block {J : It} {fp : List Addr} {it : Addr} {tn : Nat -> Heap -> Prop} {E : Value -> Shared -> Prop} {RR : Value -> Addr -> Result -> Shared -> Prop} {Fin : List V -> Hp -> Prop}
  (S : CompScope X vs sc) (hc : X.calm = true) (hg : ∀ C s H fp, PG (cxC X vs sc C s H fp) tg g) (ht : ∀ C s H fp, PTs (cxC X vs sc C s H fp) ifs tt) (he : ∀ C s H fp, PE (cxC X vs sc C s H fp) elt te)
  (I : Inv X pins σ H s) (T : Turn X.prog X.w X.K tg J fp it tn) (st : tn 0 s.heap) (hf : ∀ b ∈ fp, FpOk X pins H b) (hW : CompW vs g tt te σ J H Fin)
  (hRR : ∀ D C s' H' ys m', Inv X pins σ (upd H' D (.lst ys)) s' -> H' D = none -> FpOk X pins (upd H' D (.lst ys)) C -> s'.heap.Ns C m' -> Fin ys H' -> RR (.ref D) C (.ok .next) s') :
  wpAny (model X.prog X.w) X.A (newList []) (fun acc s3 => wpAny (model X.prog X.w) X.A (newFunctionEnv sc X.env.globals (clOf X.env sc) [] X.env.qual none .none (some X.env)) (fun cenv s4 =>
   codeAny (model X.prog X.w) X.A (.compStart (.ListComp elt [⟨tg, iter, ifs, 0⟩] sc pos) 0 (.ref it) acc { cenv with scope := relabel sc X.env }) (RR acc cenv.locals) s4) E s3) E s := by
 obtain ⟨W, ⟨m0, w0⟩, turn⟩ := hW
 refine wpAny_newObj_type (wpAny_newFunctionEnv S.cell (by intro y hy; simp at hy) (fun h1 hns hsb => ?_) S.kind)
 dsimp only at hns hsb ⊢
 generalize hH2 : s.heap.push { cls := .type "list", dict := none, data := .seq ([] : List Value).toArray } = H2 at hns hsb ⊢
 have hC : H2.objs.size = s.heap.objs.size + 1 := by rw [<- hH2, Heap.size_push]
 generalize hCe : H2.objs.size = C at hns hsb hC ⊢
 generalize hDe : s.heap.objs.size = D at hC ⊢
 have hDC : D ≠ C := by lia
 have below : ∀ b o, s.heap.get? b = some o -> b ≠ D /\ b ≠ C := fun b o e => by
  have z : b < s.heap.objs.size := Heap.lt_size e
  rw [hDe] at z
  exact ⟨Nat.ne_of_lt z, Nat.ne_of_lt (by rw [hC]; exact Nat.lt_succ_of_lt z)⟩
 have old : ∀ b o, s.heap.get? b = some o -> h1.get? b = some o := fun b o e => hsb.extBut b o (below b o e).2 (Heap.get?_push_of_some _ (hH2 ▸ Heap.get?_push_of_some _ e))
 have hD1 : h1.get? D = some { cls := .type "list", data := .seq ([] : List Value).toArray } :=
  hsb.extBut _ _ hDC (Heap.get?_push_of_some _ (by rw [<- hH2, <- hDe]; exact Heap.get?_push_size _ rfl))
 have hobj : ∀ b ∈ fp, ∃ o, s.heap.get? b = some o := fun b hb => let ⟨o, e, _⟩ := T.obj 0 _ st b hb; ⟨o, e⟩
 have fne : ∀ b ∈ fp, b ≠ D /\ b ≠ C := fun b hb => let ⟨o, e⟩ := hobj b hb; below b o e
 have fD : ∀ H', H' D = none -> FpOk X pins H' D := fun H' n => I.fpOk (by lia) n
 have fC : ∀ H', H' C = none -> FpOk X pins H' C := fun H' n => I.fpOk (by lia) n
 have Dpn : ∀ p ∈ X.pn ++ pins, p.1 ≠ D := fun p hp => (below _ _ (I.pin p hp).1).1
 have cells : ∀ y c, (clOf X.env sc).lookup y = some c -> c ≠ D := fun y c e => by
  have e' := cl_sound sc.names [] (fun y c e => by simp at e) y c e
  obtain ⟨v, z⟩ := I.cell y c e'
  have z' : c < s.heap.objs.size := z.lt
  rw [hDe] at z'
  exact Nat.ne_of_lt z'
 have nfs : ∀ b, b ∈ frs X.stack -> ∃ o, s.heap.get? b = some o := fun b hb => let ⟨_, o, ho, _⟩ := I.stack.mem hb; ⟨o, ho⟩
 have Dfs : D ∉ frs X.stack := fun z => let ⟨o, e⟩ := nfs D z; (below _ _ e).1 rfl
 have fpC : ∀ {pl : List (Addr × Obj)} {H' : Hp}, (∀ p ∈ pl, p.1 = D) -> (∀ b ∈ fp, H' b = none) -> ∀ b ∈ fp, FpOk (cxC X vs sc C s H fp) (pins ++ pl) H' b := fun {pl H'} hpl hn b hb => by
  obtain ⟨_, q1, q2, q3, q4, q5⟩ := hf b hb
  refine ⟨hn b hb, (fne b hb).2, fun z => ?_, .inl hb, fun y c e => q4 y c (cl_sound sc.names [] (fun y c e => by simp at e) y c e), fun p hp => ?_⟩
  ·rcases List.mem_cons.mp (I.stkSub b z) with y | y
   ·exact q1 y
   ·exact q2 y
  ·rcases List.mem_append.mp hp with z | z
   ·exact q5 p (List.mem_append_left _ z)
   ·rcases List.mem_append.mp z with y | y
    ·exact q5 p (List.mem_append_right _ y)
    ·rw [hpl p y]; exact Ne.symm (fne b hb).1
 have loop : ∀ s3 : Shared, s3 = { s with heap := h1, toks := s.toks + ([] : List (Str × Value)).length } ->
   codeAny (model X.prog X.w) X.A (.compLoop (.ListComp elt [⟨tg, iter, ifs, 0⟩] sc pos) 0 (.ref it) (.ref D) (compEnvC sc (clOf X.env sc) C X.env)) (RR (.ref D) C) s3 := by
  rintro s3 rfl
  have I0 : Inv (cxC X vs sc C s H fp) pins (compSt vs σ) H { s with heap := h1, toks := s.toks + ([] : List (Str × Value)).length } := comp_inv S I hf hobj old hns (by lia)
  refine comp_loop (fun n s' => ∃ i ys its no H', Inv (cxC X vs sc C s H fp) pins (compSt vs σ) H' s' /\ tn i s'.heap /\ (∀ b ∈ fp, H' b = none) /\ H' D = none /\
   s'.heap.get? D = some { cls := .type "list", data := .seq its.toArray no } /\ Vals ys its /\ W i n ys H') ?_ m0
   ⟨0, [], [], 0, H, I0, T.keep 0 _ _ st fun b hb o e => old b o e, fun b hb => (hf b hb).1, I.hok.fresh (by lia), hD1, .nil, w0⟩
  rintro n s' ⟨i, ys, its, no, H', I1, st1, fr1, dn1, dl1, va1, w1⟩
  have pinD : Inv (cxC X vs sc C s H fp) (pins ++ [(D, { cls := .type "list", data := .seq its.toArray no })]) (compSt vs σ) H' s' := I1.pins_of fun p hp => by
   rcases List.mem_append.mp hp with z | z
   ·exact I1.pin p (List.mem_append_right _ z)
   ·have e : p = (D, { cls := .type "list", data := .seq its.toArray no }) := by simpa using z
    subst e
    exact ⟨dl1, dn1, hDC, Dfs, fun v z => by have z' : Data.seq _ _ = Data.cell v := z; cases z'⟩
  have onlyD : ∀ p ∈ [((D, { cls := .type "list", data := .seq its.toArray no }) : Addr × Obj)], p.1 = D := fun p hp => by
   have e : p = (D, { cls := .type "list", data := .seq its.toArray no }) := by simpa using hp
   rw [e]
  rcases turn i n ys H' w1 with ⟨stop, hz, fin⟩ | ⟨go, hz, N, hN, step⟩
  ·refine thn (T.done (cxC X vs sc C s H fp) rfl rfl rfl hc i _ s' _ H' (fun _ _ => False) pinD (fpC onlyD fr1) st1 stop) fun r s4 ⟨hr, I4⟩ => ?_
   subst hr
   have d4 : s4.heap.get? D = some { cls := .type "list", data := .seq its.toArray no } := (I4.pin (D, _) (List.mem_append_right _ (List.mem_append_right _ (List.mem_cons_self ..)))).1
   have Io : Inv X pins σ H' s4 := I.call' (H' := H') (ch := fp) I4.os I4.base I4.hok I4.bare fun b hb => by
    obtain ⟨_, q1, _, q3, q4, q5⟩ := hf b hb
    exact ⟨q3, q1, q4, q5⟩
   obtain ⟨_, a1, _, a3, a4, a5⟩ := fD H' dn1
   have Ia := Io.adopt hz va1 dn1 d4 (Nat.le_trans I.sz (by lia)) a1 a4 a5
   obtain ⟨m4, ns4, _⟩ := I4.loc
   refine hRR D C s4 H' ys m4 Ia dn1 (fC _ ?_) ns4 fin
   rw [upd_ne (Ne.symm hDC)]
   exact I4.free
  ·refine thn (T.item (cxC X vs sc C s H fp) rfl rfl rfl hc i _ s' _ H' (fun _ _ => False) pinD (fpC onlyD fr1) st1 go) fun r s4 ⟨u, hr, h4⟩ => ?_
   subst hr
   refine thn h4 fun _ s5 ⟨x, H5, I5, r5, y5, st5, fr5⟩ => ?_
   have I5' := I5.pinned (fpC onlyD fr5) (T.obj _ _ st5)
   refine thn (hg C s H fp _ s5 _ H5 x u _ I5' r5 (step x H5 y5)) fun _ s6 ⟨σ6, H6, I6, k6, q6⟩ => ?_
   refine thn (ht C s H fp _ s6 σ6 H6 _ I6 q6) fun ok s7 ⟨H7, I7, q7⟩ => ?_
   have len6 : (compSt vs σ).length = σ6.length := by rw [I1.len, I6.len]
   have pinned : ∀ {H8 : Hp} {s8 : Shared}, Inv (cxC X vs sc C s H fp) (pins ++ [(D, { cls := .type "list", data := .seq its.toArray no })] ++ pinsAt fp s5.heap) σ6 H8 s8 ->
     tn (i + 1) s8.heap /\ (∀ b ∈ fp, H8 b = none) /\ H8 D = none /\ s8.heap.get? D = some { cls := .type "list", data := .seq its.toArray no } := fun {H8 s8} I8 => by
    refine ⟨T.keep _ _ _ st5 fun b hb o e => (I8.pin (b, o) (List.mem_append_right _ (List.mem_append_right _ (mem_pinsAt hb e)))).1, fun b hb => ?_, ?_, ?_⟩
    ·obtain ⟨o, e, d⟩ := T.obj _ _ st5 b hb
     exact (I8.pin (b, o) (List.mem_append_right _ (List.mem_append_right _ (mem_pinsAt hb e)))).2.1
    ·exact (I8.pin (D, _) (List.mem_append_right _ (List.mem_append_left _ (List.mem_append_right _ (List.mem_cons_self ..))))).2.1
    ·exact (I8.pin (D, _) (List.mem_append_right _ (List.mem_append_left _ (List.mem_append_right _ (List.mem_cons_self ..))))).1
   cases ok with
   | false =>
    rw [if_neg (by decide)] at q7 ⊢
    obtain ⟨m', hm, w7⟩ := hN _ _ q7
    obtain ⟨a1, a2, a3, a4⟩ := pinned I7
    exact ⟨m', hm, i + 1, ys, its, no, H7, (I7.unpinned.unpinned).weak len6 k6, a1, a2, a3, a4, va1, w7⟩
   | true =>
    rw [if_pos rfl] at q7 ⊢
    refine thn (he C s H fp _ s7 σ6 H7 _ I7 q7) fun yv s8 ⟨y, H8, I8, r8, n8⟩ => ?_
    obtain ⟨m', hm, w8⟩ := hN _ _ n8
    obtain ⟨a1, a2, a3, a4⟩ := pinned I8
    have szI : its.toArray.size <= sizeLine := by
     have := va1.length
     rw [List.size_toArray]
     lia
    refine wpAny_list_append_plain ⟨no, a4⟩ (fun h' pl sb => ?_) szI
    obtain ⟨no', pl'⟩ := pl
    have I9 : Inv (cxC X vs sc C s H fp) pins σ6 H8 { s8 with heap := h' } := (I8.unpinned.unpinned).turned (t' := s8.toks) (it := D) (fun b o hb e => (sb.2 b hb).trans e) a3 hDC (.inr (Nat.le_of_eq hDe)) cells Dpn
    refine ⟨m', hm, i + 1, ys ++ [y], its ++ [yv], no', H8, I9.weak len6 k6, T.keep _ _ _ a1 fun b hb o e => (sb.2 b (fne b hb).1).trans e, a2, a3, ?_, va1.append (.cons r8 .nil), w8⟩
    rw [pl']
    simp
 exact codeAny_compStart_list (loop _ rfl) (T.self _ 0 _ _ _ (T.keep 0 _ _ st fun b hb o e => old b o e) (loop _ rfl))
def tComp (vs : List Str) (wi : TI) (g : TG) (tt : TT) (te : TE) : TE := fun σ H Q => wi σ H fun J H1 => CompW vs g tt te σ J H1 fun ys H' => ∀ p, H' p = none -> Q (.ref p) (upd H' p (.lst ys))
theorem CompScope.clos {pins : List (Addr × Obj)} {σ : St} {H : Hp} {s : Shared} (S : CompScope X vs sc) (I : Inv X pins σ H s) : closureFor sc X.env = pure (clOf X.env sc) :=
 closure_is fun y hy hk => I.ok.has y.1 (S.free y hy hk)
theorem pe_comp {wi : TI} (S : CompScope X vs sc) (hc : X.calm = true) (hi : PI X tg iter wi) (hg : ∀ C s H fp, PG (cxC X vs sc C s H fp) tg g) (ht : ∀ C s H fp, PTs (cxC X vs sc C s H fp) ifs tt)
  (he : ∀ C s H fp, PE (cxC X vs sc C s H fp) elt te) (hs : ∀ x, foldedSetIterable iter X.env x = pure x := by intro _; rfl) : PE X (.ListComp elt [⟨tg, iter, ifs, 0⟩] sc pos) (tComp vs wi g tt te) := by
 intro pins s σ H Q I h
 rw [eval_ListComp]
 refine wpAny_comprehension_free (use := none) rfl hs (S.clos I) S.kind S.locs ?_
 refine thn (hi pins s σ H _ I h) fun v s1 h1 => thn h1 fun itv s2 h2 => ?_
 obtain ⟨it, fp, tn, J, H2, e, I2, T, st2, f2, hW⟩ := h2
 subst e
 refine comp_block (RR := fun acc C => compPost (model X.prog X.w) X.A X.xe none (EP X pins σ Q) acc C) S hc hg ht he I2 T st2 f2 hW fun D C s' H' ys m' I' hD fC ns fin => ?_
 obtain ⟨c0, c1, c2, c3, c4, c5⟩ := fC
 refine ⟨m', ns, fun h' sb => ⟨.ref D, _, ?_, rfl, fin D hD⟩⟩
 exact I'.turned (t' := s'.toks) (it := C) (fun b o hb e => (sb.2 b hb).trans e) c0 c1 c3 c4 c5
theorem pg_own {x : Str} {p : Pos} (S : CompScope X [x] sc) (hx : sc.names.lookup x = some .local) : ∀ C s H fp, PG (cxC X [x] sc C s H fp) (.Name x p) (gName 0) := fun C s H fp =>
 pg_name S.nd rfl (.inl (lookup_relabel_local hx)) (.inr (lookup_relabel_local hx))
theorem pe_comp1 {wi : TI} {x : Str} {p : Pos} (S : CompScope X [x] sc) (hc : X.calm = true) (hx : sc.names.lookup x = some .local) (hi : PI X (.Name x p) iter wi) (ht : ∀ C s H fp, PTs (cxC X [x] sc C s H fp) ifs tt)
  (he : ∀ C s H fp, PE (cxC X [x] sc C s H fp) elt te) (hs : ∀ x, foldedSetIterable iter X.env x = pure x := by intro _; rfl) : PE X (.ListComp elt [⟨.Name x p, iter, ifs, 0⟩] sc pos) (tComp [x] wi (gName 0) tt te) :=
 pe_comp S hc hi (pg_own S hx) ht he hs
theorem ps_setC {wi : TI} {j : Nat} {y : Str} {py spos : Pos} (S : CompScope X vs sc) (hc : X.calm = true) (hN : X.N.Nodup) (hj : X.N[j]? = some y) (hy : X.env.scope.names.lookup y = some .local) (hi : PI X tg iter wi) (hg : ∀ C s H fp, PG (cxC X vs sc C s H fp) tg g) (ht : ∀ C s H fp, PTs (cxC X vs sc C s H fp) ifs tt)
  (he : ∀ C s H fp, PE (cxC X vs sc C s H fp) elt te) (hsw : swapsWith (.ListComp elt [⟨tg, iter, ifs, 0⟩] sc pos) (some (.Name y py)) spos.line X.env = pure true := by rfl) (hs : ∀ x, foldedSetIterable iter X.env x = pure x := by intro _; rfl) :
  PS X (.Assign [.Name y py] (.ListComp elt [⟨tg, iter, ifs, 0⟩] sc pos) spos) (tAsg (tComp vs wi g tt te) (gName j)) := by
 intro pins s σ H D I h
 rw [exec_Assign_Name_used _ _ _ _ hsw]
 refine wpAny_bind (wpAny_standAt (wpAny_bind ?_))
 show wpAny _ X.A (do let _ <- comprehension (.ListComp elt [⟨tg, iter, ifs, 0⟩] sc pos) sc X.env _ (newList []) false (eval iter X.env) (some (assign (.Name y py) X.env))) _ _ s
 refine wpAny_bind (wpAny_mono (wpAny_comprehension_free (use := some (assign (.Name y py) X.env)) (Q := fun _ s' => SP X pins D .next s') rfl hs (S.clos I) S.kind S.locs ?_) (fun _ s' hq => wpAny_pure (wpAny_pure hq)) fun _ _ e => e)
 refine thn (hi pins s σ H _ I h) fun v s1 h1 => thn h1 fun itv s2 h2 => ?_
 obtain ⟨it, fp, tn, J, H2, e, I2, T, st2, f2, hW⟩ := h2
 subst e
 refine comp_block (RR := fun acc C => compPost (model X.prog X.w) X.A X.xe (some (assign (.Name y py) X.env)) (fun _ s' => SP X pins D .next s') acc C) S hc hg ht he I2 T st2 f2 hW fun D' C s' H' ys m' I' hD fC ns fin => ?_
 obtain ⟨c0, c1, c2, c3, c4, c5⟩ := fC
 show wpAny _ X.A (assign (.Name y py) X.env (.ref D')) _ _ _
 refine wpAny_assign_Name (store_ok2 (v := .ref D') I' hN hj (.inl hy) (show RelV (.ref D') (.ref D') from rfl) (fun s3 I3 ⟨a, sb, ha⟩ => ?_) (.inr hy))
 have hac : a ≠ C := by
  rcases ha with z | z
  ·rw [z]; exact Ne.symm c1
  ·exact c4 y a z
 refine ⟨m', ns.sameBut sb (Ne.symm hac), fun h' sb' => ⟨_, _, I3.turned (t' := s3.toks) (it := C) (fun b o hb e => (sb'.2 b hb).trans e) c0 c1 c3 c4 c5, fin D' hD⟩⟩
theorem ps_setC1 {wi : TI} {j : Nat} {x y : Str} {p py spos : Pos} (S : CompScope X [x] sc) (hc : X.calm = true) (hx : sc.names.lookup x = some .local) (hN : X.N.Nodup) (hj : X.N[j]? = some y) (hy : X.env.scope.names.lookup y = some .local) (hi : PI X (.Name x p) iter wi)
  (ht : ∀ C s H fp, PTs (cxC X [x] sc C s H fp) ifs tt) (he : ∀ C s H fp, PE (cxC X [x] sc C s H fp) elt te)
  (hsw : swapsWith (.ListComp elt [⟨.Name x p, iter, ifs, 0⟩] sc pos) (some (.Name y py)) spos.line X.env = pure true := by rfl) (hs : ∀ x, foldedSetIterable iter X.env x = pure x := by intro _; rfl) :
  PS X (.Assign [.Name y py] (.ListComp elt [⟨.Name x p, iter, ifs, 0⟩] sc pos) spos) (tAsg (tComp [x] wi (gName 0) tt te) (gName j)) := ps_setC S hc hN hj hy hi (pg_own S hx) ht he hsw hs
end
section
variable {K : W.Frag} {a : Addr} {xs : List V} {vs : List Str} {g : TG} {tt : TT} {te : TE} {σ : St} {H : Hp} {Fin : List V -> Hp -> Prop}
theorem comp_tup (Pv : Nat -> List V -> Hp -> Prop) (hz : xs.length <= sizeLine) (h0 : Pv 0 [] H) (hl : ∀ i ys H, i <= xs.length -> Pv i ys H -> SqT K H a xs /\ ys.length <= i)
  (hs : ∀ i v ys H, xs[i]? = some v -> Pv i ys H -> g v (compSt vs σ) H fun σ2 H2 => Keep0 (compSt vs σ) σ2 /\ tt σ2 H2 fun b H3 => if b = true then te σ2 H3 fun y H4 => Pv (i + 1) (ys ++ [y]) H4 else Pv (i + 1) ys H3)
  (hd : ∀ ys H, Pv xs.length ys H -> Fin ys H) : CompW vs g tt te σ (Itt K a) H Fin := by
 refine ⟨fun i m ys H => m = xs.length - i /\ i <= xs.length /\ Pv i ys H, ⟨xs.length, by simp, Nat.zero_le _, h0⟩, ?_⟩
 rintro i m ys H ⟨rfl, hi, p⟩
 obtain ⟨q, hy⟩ := hl i ys H hi p
 by_cases hlt : i < xs.length
 ·refine .inr ⟨⟨xs, xs[i], q, by simp [hlt]⟩, by lia, Pv (i + 1), fun zs H' p' => ⟨xs.length - (i + 1), by lia, rfl, hlt, p'⟩, fun v H' y => ?_⟩
  obtain ⟨e, y⟩ := y
  subst e
  exact hs i v ys _ (y xs q) p
 ·have e : i = xs.length := by lia
  subst e
  exact .inl ⟨⟨xs, q, Nat.le_refl _⟩, by lia, hd ys H p⟩
theorem comp_list (Pv : Nat -> List V -> Hp -> Prop) (hz : xs.length <= sizeLine) (h0 : Pv 0 [] H) (hl : ∀ i ys H, i <= xs.length -> Pv i ys H -> SqL K H a xs /\ ys.length <= i)
  (hs : ∀ i v ys H, xs[i]? = some v -> Pv i ys H -> g v (compSt vs σ) H fun σ2 H2 => Keep0 (compSt vs σ) σ2 /\ tt σ2 H2 fun b H3 => if b = true then te σ2 H3 fun y H4 => Pv (i + 1) (ys ++ [y]) H4 else Pv (i + 1) ys H3)
  (hd : ∀ ys H, Pv xs.length ys H -> Fin ys H) : CompW vs g tt te σ (Itl K a) H Fin := by
 refine ⟨fun i m ys H => m = xs.length - i /\ i <= xs.length /\ Pv i ys H, ⟨xs.length, by simp, Nat.zero_le _, h0⟩, ?_⟩
 rintro i m ys H ⟨rfl, hi, p⟩
 obtain ⟨q, hy⟩ := hl i ys H hi p
 by_cases hlt : i < xs.length
 ·refine .inr ⟨⟨xs, xs[i], q, by simp [hlt]⟩, by lia, Pv (i + 1), fun zs H' p' => ⟨xs.length - (i + 1), by lia, rfl, hlt, p'⟩, fun v H' y => ?_⟩
  obtain ⟨e, y⟩ := y
  subst e
  exact hs i v ys _ (y xs q) p
 ·have e : i = xs.length := by lia
  subst e
  exact .inl ⟨⟨xs, q, Nat.le_refl _⟩, by lia, hd ys H p⟩
theorem comp_range {lo : Int} {n : Nat} (Pv : Nat -> List V -> Hp -> Prop) (hz : n <= sizeLine) (h0 : Pv 0 [] H) (hl : ∀ i ys H, i <= n -> Pv i ys H -> ys.length <= i)
  (hs : ∀ i ys H, i < n -> Pv i ys H -> g (.int (lo + i)) (compSt vs σ) H fun σ2 H2 => Keep0 (compSt vs σ) σ2 /\ tt σ2 H2 fun b H3 => if b = true then te σ2 H3 fun y H4 => Pv (i + 1) (ys ++ [y]) H4 else Pv (i + 1) ys H3)
  (hd : ∀ ys H, Pv n ys H -> Fin ys H) : CompW vs g tt te σ (Itr lo n) H Fin := by
 refine ⟨fun i m ys H => m = n - i /\ i <= n /\ Pv i ys H, ⟨n, by simp, Nat.zero_le _, h0⟩, ?_⟩
 rintro i m ys H ⟨rfl, hi, p⟩
 have hy := hl i ys H hi p
 by_cases hlt : i < n
 ·refine .inr ⟨hlt, by lia, Pv (i + 1), fun zs H' p' => ⟨n - (i + 1), by lia, rfl, hlt, p'⟩, fun v H' y => ?_⟩
  obtain ⟨e, y⟩ := y
  subst e y
  exact hs i ys _ hlt p
 ·have e : i = n := by lia
  subst e
  exact .inl ⟨Nat.le_refl _, by lia, hd ys H p⟩
theorem map_tup {x : Str} {xs : List V} {f : V -> V} (hz : xs.length <= sizeLine) (hq : SqT K H a xs) (hs : ∀ v (Q : VK), v ∈ xs -> Q (f v) H -> te (some v :: σ) H Q) (hd : Fin (xs.map f) H) :
  CompW [x] (gName 0) tYes te σ (Itt K a) H Fin := by
 refine comp_tup (fun i ys H' => H' = H /\ ys = (xs.take i).map f) hz ⟨rfl, rfl⟩ (fun i ys H' hi ⟨e, ey⟩ => ?_) (fun i v ys H' hv ⟨e, ey⟩ => ⟨keep_one, ?_⟩) (fun ys H' ⟨e, ey⟩ => ?_)
 ·subst e ey
  exact ⟨hq, by simp; lia⟩
 ·subst e ey
  refine yes_of (hs v _ (List.mem_of_getElem? hv) ⟨rfl, ?_⟩)
  rw [List.take_add_one, hv, List.map_append]
  rfl
 ·subst e ey
  rw [List.take_length]
  exact hd
end
inductive Dt where
 | non | int (i : Int) | str (x : Str) | lst (ds : List Dt) | tup (ds : List Dt)
inductive Rep (K : W.Frag) (H : Hp) : Nat -> Dt -> V -> Prop where
 | non (n : Nat) : Rep K H n .non .non
 | int (n : Nat) (i : Int) : Rep K H n (.int i) (.int i)
 | str (n : Nat) (x : Str) : Rep K H n (.str x) (.str x)
 | lst {n : Nat} {ds : List Dt} {a : Addr} {xs : List V} (h : SqL K H a xs) (hl : xs.length = ds.length) (hi : ∀ (i : Nat) d v, ds[i]? = some d -> xs[i]? = some v -> Rep K H n d v) : Rep K H (n + 1) (.lst ds) (.ref a)
 | tup {n : Nat} {ds : List Dt} {a : Addr} {xs : List V} (h : SqT K H a xs) (hl : xs.length = ds.length) (hi : ∀ (i : Nat) d v, ds[i]? = some d -> xs[i]? = some v -> Rep K H n d v) : Rep K H (n + 1) (.tup ds) (.ref a)
theorem ext_items {α : Type} {xs ys : List α} (hl : xs.length = ys.length) (h : ∀ (i : Nat) a b, xs[i]? = some a -> ys[i]? = some b -> a = b) : xs = ys := by
 refine List.ext_getElem hl fun i h1 h2 => ?_
 exact h i _ _ (by simp [h1]) (by simp [h2])
section
variable {X : Cx} {pins : List (Addr × Obj)} {σ : St} {H : Hp} {s : Shared}
theorem noSqLT {a : Addr} {xs ys : List V} (I : Inv X pins σ H s) (h : SqL X.K H a xs) (h' : SqT X.K H a ys) : False := by
 obtain ⟨_, _, p, _⟩ := I.list h
 obtain ⟨_, _, q, _⟩ := I.tuple h'
 exact SeqAt.ne_of_list_tuple p.isList (show s.heap.IsTuple a _ from q) rfl
theorem rep_inj (I : Inv X pins σ H s) : ∀ (n : Nat) {d d' : Dt} {v : V}, Rep X.K H n d v -> Rep X.K H n d' v -> d = d' := by
 intro n
 induction n with
 | zero =>
  intro d d' v r r'
  cases r <;> cases r' <;> rfl
 | succ n ih =>
  intro d d' v r r'
  cases r with
  | non => cases r'; rfl
  | int => cases r'; rfl
  | str => cases r'; rfl
  | @lst _ ds a xs h hl hi =>
   cases r' with
   | @lst _ ds' _ xs' h' hl' hi' =>
    have e := I.list_inj h h'
    subst e
    refine congrArg Dt.lst (ext_items (hl.symm.trans hl') fun i d d' e1 e2 => ?_)
    have hlt : i < xs.length := by rw [hl]; exact (List.getElem?_eq_some_iff.mp e1).1
    exact ih (hi i d xs[i] e1 (List.getElem?_eq_getElem hlt)) (hi' i d' xs[i] e2 (List.getElem?_eq_getElem hlt))
   | tup h' _ _ => exact (noSqLT I h h').elim
  | @tup _ ds a xs h hl hi =>
   cases r' with
   | lst h' _ _ => exact (noSqLT I h' h).elim
   | @tup _ ds' _ xs' h' hl' hi' =>
    have e := I.tuple_inj h h'
    subst e
    refine congrArg Dt.tup (ext_items (hl.symm.trans hl') fun i d d' e1 e2 => ?_)
    have hlt : i < xs.length := by rw [hl]; exact (List.getElem?_eq_some_iff.mp e1).1
    exact ih (hi i d xs[i] e1 (List.getElem?_eq_getElem hlt)) (hi' i d' xs[i] e2 (List.getElem?_eq_getElem hlt))
theorem items_all {ds ds' : List Dt} (hl : ds.length = ds'.length) {e : Nat -> Bool} {N : Nat} (hN : N = ds.length) (he : ∀ (j : Nat) d d', ds[j]? = some d -> ds'[j]? = some d' -> (e j = true ↔ d = d')) : ((List.range N).all e = true ↔ ds = ds') := by
 subst hN
 rw [List.all_eq_true]
 constructor
 ·intro h
  refine ext_items hl fun i a b e1 e2 => ?_
  exact (he i a b e1 e2).mp (h i (List.mem_range.mpr (List.getElem?_eq_some_iff.mp e1).1))
 ·intro h i hi
  have hi' := List.mem_range.mp hi
  subst h
  exact (he i ds[i] ds[i] (by simp [hi']) (by simp [hi'])).mpr rfl
theorem pick_items {P : Nat -> Bool -> Prop} (h : ∀ j, ∃ b, P j b) : ∃ e : Nat -> Bool, ∀ j, P j (e j) := ⟨fun j => Classical.choose (h j), fun j => Classical.choose_spec (h j)⟩
theorem items_pick {A : Around} {its its' : List Value} {ds ds' : List Dt} (h1 : its.length = ds.length) (h2 : its'.length = ds'.length)
  (h : ∀ (j : Nat) u u' d d', its[j]? = some u -> its'[j]? = some u' -> ds[j]? = some d -> ds'[j]? = some d' -> ∃ b, SeqAt.EqAt A s u u' b /\ (b = true ↔ d = d')) :
  ∃ e : Nat -> Bool, (∀ j (g1 : j < its.toArray.size) (g2 : j < its'.toArray.size), SeqAt.EqAt A s its.toArray[j] its'.toArray[j] (e j)) /\ ∀ (j : Nat) d d', ds[j]? = some d -> ds'[j]? = some d' -> (e j = true ↔ d = d') := by
 obtain ⟨e, he⟩ := pick_items (P := fun j b => (∀ u u', its[j]? = some u -> its'[j]? = some u' -> SeqAt.EqAt A s u u' b) /\ ∀ d d', ds[j]? = some d -> ds'[j]? = some d' -> (b = true ↔ d = d')) fun j => by
  by_cases g : j < its.length /\ j < its'.length
  ·obtain ⟨b, h3, h4⟩ := h j its[j] its'[j] (ds[j]'(by lia)) (ds'[j]'(by lia)) (by simp [g.1]) (by simp [g.2]) (List.getElem?_eq_getElem _) (List.getElem?_eq_getElem _)
   refine ⟨b, fun u u' q q' => ?_, fun d d' q q' => ?_⟩
   ·rw [List.getElem?_eq_getElem g.1] at q
    rw [List.getElem?_eq_getElem g.2] at q'
    cases q
    cases q'
    exact h3
   ·rw [List.getElem?_eq_getElem (by lia)] at q
    rw [List.getElem?_eq_getElem (by lia)] at q'
    cases q
    cases q'
    exact h4
  ·refine ⟨true, fun u u' q q' => absurd ⟨(List.getElem?_eq_some_iff.mp q).1, (List.getElem?_eq_some_iff.mp q').1⟩ g, fun d d' q q' => ?_⟩
   have q1 := (List.getElem?_eq_some_iff.mp q).1
   have q2 := (List.getElem?_eq_some_iff.mp q').1
   exact absurd ⟨by lia, by lia⟩ g
 refine ⟨e, fun j g1 g2 => ?_, fun j => (he j).2⟩
 simp only [List.size_toArray] at g1 g2
 exact (he j).1 _ _ (by simp [g1]) (by simp [g2])
theorem rc_rep (I : Inv X pins σ H s) {n : Nat} {A : Around} (hu : A.units < cLine) {d d' : Dt} {a a' : Addr} (r : Rep X.K H (n + 1) d (.ref a)) (r' : Rep X.K H (n + 1) d' (.ref a'))
  (ih : ∀ {d d' : Dt} {v v' : V} {u u' : Value}, Rep X.K H n d v -> Rep X.K H n d' v' -> RelV v u -> RelV v' u' -> ∃ b, SeqAt.EqAt A.in1 s u u' b /\ (b = true ↔ d = d')) :
  ∃ b, SeqAt.RcAt A s (.ref a) (.ref a') b /\ SeqAt.RcNeAt A s (.ref a) (.ref a') (!b) /\ (b = true ↔ d = d') := by
 cases r with
 | @lst _ ds _ xs h hl hi =>
  obtain ⟨its, rv, p, _⟩ := I.list h
  have l1 := rv.length
  cases r' with
  | @lst _ ds' _ xs' h' hl' hi' =>
   obtain ⟨its', rv', p', _⟩ := I.list h'
   have l2 := rv'.length
   by_cases hs : ds.length = ds'.length
   ·obtain ⟨e, e1, e2⟩ := items_pick (A := A.in1) (s := s) (its := its) (its' := its') (ds := ds) (ds' := ds') (by lia) (by lia) fun j u u' d d' q1 q2 q3 q4 => by
     have g1 := (List.getElem?_eq_some_iff.mp q3).1
     have g2 := (List.getElem?_eq_some_iff.mp q4).1
     have k1 : xs[j]? = some (xs[j]'(by lia)) := List.getElem?_eq_getElem _
     have k2 : xs'[j]? = some (xs'[j]'(by lia)) := List.getElem?_eq_getElem _
     obtain ⟨w1, z1, y1⟩ := rv.get k1
     obtain ⟨w2, z2, y2⟩ := rv'.get k2
     rw [q1] at z1
     rw [q2] at z2
     cases z1
     cases z2
     exact ih (hi j d _ q3 k1) (hi' j d' _ q4 k2) y1 y2
    have hz : its.toArray.size = its'.toArray.size := by simp only [List.size_toArray]; lia
    refine ⟨_, SeqAt.RcAt.lists p.isList p'.isList hz hu e1, SeqAt.RcNeAt.lists p.isList p'.isList hz hu e1, ?_⟩
    rw [items_all hs (by simp only [List.size_toArray]; lia) e2]
    exact ⟨fun z => by rw [z], fun z => by cases z; rfl⟩
   ·have hz : (its.toArray.size != its'.toArray.size) = true := by
     rw [bne_iff_ne]
     simp only [List.size_toArray]
     lia
    refine ⟨false, SeqAt.RcAt.lists_lengths p.isList p'.isList hz hu, SeqAt.RcNeAt.lists_lengths p.isList p'.isList hz hu, ⟨fun z => (by cases z), fun z => ?_⟩⟩
    cases z
    exact absurd rfl hs
  | @tup _ ds' _ xs' h' hl' hi' =>
   obtain ⟨its', rv', p', _⟩ := I.tuple h'
   exact ⟨false, SeqAt.RcAt.list_tuple p.isList (show s.heap.IsTuple a' _ from p') hu, SeqAt.RcNeAt.list_tuple p.isList (show s.heap.IsTuple a' _ from p') hu, ⟨fun z => (by cases z), fun z => (by cases z)⟩⟩
 | @tup _ ds _ xs h hl hi =>
  obtain ⟨its, rv, p, _⟩ := I.tuple h
  have l1 := rv.length
  cases r' with
  | @lst _ ds' _ xs' h' hl' hi' =>
   obtain ⟨its', rv', p', _⟩ := I.list h'
   exact ⟨false, SeqAt.RcAt.tuple_list (show s.heap.IsTuple a _ from p) p'.isList hu, SeqAt.RcNeAt.tuple_list (show s.heap.IsTuple a _ from p) p'.isList hu, ⟨fun z => (by cases z), fun z => (by cases z)⟩⟩
  | @tup _ ds' _ xs' h' hl' hi' =>
   obtain ⟨its', rv', p', _⟩ := I.tuple h'
   have l2 := rv'.length
   obtain ⟨e, e1, e2⟩ := items_pick (A := A.in1) (s := s) (its := its) (its' := its') (ds := ds) (ds' := ds') (by lia) (by lia) fun j u u' d d' q1 q2 q3 q4 => by
     have g1 := (List.getElem?_eq_some_iff.mp q3).1
     have g2 := (List.getElem?_eq_some_iff.mp q4).1
     have k1 : xs[j]? = some (xs[j]'(by lia)) := List.getElem?_eq_getElem _
     have k2 : xs'[j]? = some (xs'[j]'(by lia)) := List.getElem?_eq_getElem _
     obtain ⟨w1, z1, y1⟩ := rv.get k1
     obtain ⟨w2, z2, y2⟩ := rv'.get k2
     rw [q1] at z1
     rw [q2] at z2
     cases z1
     cases z2
     exact ih (hi j d _ q3 k1) (hi' j d' _ q4 k2) y1 y2
   refine ⟨_, SeqAt.RcAt.tuples (show s.heap.IsTuple a _ from p) (show s.heap.IsTuple a' _ from p') hu e1, SeqAt.RcNeAt.tuples (show s.heap.IsTuple a _ from p) (show s.heap.IsTuple a' _ from p') hu e1, ?_⟩
   by_cases hs : ds.length = ds'.length
   ·have hz : (its.toArray.size == its'.toArray.size) = true := by
     rw [beq_iff_eq]
     simp only [List.size_toArray]
     lia
    rw [hz, Bool.and_true, items_all hs (by simp only [List.size_toArray]; lia) e2]
    exact ⟨fun z => by rw [z], fun z => by cases z; rfl⟩
   ·have hz : (its.toArray.size == its'.toArray.size) = false := by
     rw [beq_eq_false_iff_ne]
     simp only [List.size_toArray]
     lia
    rw [hz, Bool.and_false]
    refine ⟨fun z => (by cases z), fun z => ?_⟩
    cases z
    exact absurd rfl hs
theorem eq_flat {n m : Nat} {d d' : Dt} {v v' : V} (r : Rep X.K H n d v) (r' : Rep X.K H m d' v') (f : flatV v = true) (f' : flatV v' = true) : (eqV v v' = true ↔ d = d') := by
 cases r <;> first | (cases f; done) | skip
 all_goals (cases r' <;> first | (cases f'; done) | skip)
 all_goals first | exact ⟨fun _ => rfl, fun _ => rfl⟩ | exact ⟨fun z => Bool.noConfusion z, fun z => by cases z⟩ | exact ⟨fun z => congrArg Dt.int (eq_of_beq z), fun z => by injection z with z; exact beq_iff_eq.mpr z⟩ | exact ⟨fun z => congrArg Dt.str (eq_of_beq z), fun z => by injection z with z; exact beq_iff_eq.mpr z⟩
theorem eq_rep (I : Inv X pins σ H s) : ∀ (n : Nat) {A : Around}, A.units + n < cLine -> ∀ {d d' : Dt} {v v' : V} {u u' : Value}, Rep X.K H n d v -> Rep X.K H n d' v' -> RelV v u -> RelV v' u' -> ∃ b, SeqAt.EqAt A s u u' b /\ (b = true ↔ d = d') := by
 intro n
 induction n with
 | zero =>
  intro A hu d d' v v' u u' r r' q q'
  have f : flatV v = true := by cases r <;> rfl
  have f' : flatV v' = true := by cases r' <;> rfl
  exact ⟨_, eqAt_V q q' f f', eq_flat r r' f f'⟩
 | succ n ih =>
  intro A hu d d' v v' u u' r r' q q'
  by_cases f : flatV v = true
  ·by_cases f' : flatV v' = true
   ·exact ⟨_, eqAt_V q q' f f', eq_flat r r' f f'⟩
   ·refine ⟨false, ?_, ⟨fun z => (by cases z), fun z => ?_⟩⟩
    ·cases r' with
     | non => exact absurd rfl f'
     | int => exact absurd rfl f'
     | str => exact absurd rfl f'
     | @lst _ ds a xs h hl hi =>
      cases q'
      obtain ⟨its, _, p, _⟩ := I.list h
      cases r with
      | non => cases q; exact SeqAt.EqAt.none_list p.isList (by lia)
      | int _ i => obtain ⟨t, rfl⟩ := q; exact SeqAt.EqAt.int_list i t p.isList (by lia)
      | str _ x => obtain ⟨t, rfl⟩ := q; exact SeqAt.EqAt.str_list x t p.isList (by lia)
      | lst _ _ _ => cases f
      | tup _ _ _ => cases f
     | @tup _ ds a xs h hl hi =>
      cases q'
      obtain ⟨its, _, p, _⟩ := I.tuple h
      have p' : s.heap.IsTuple a its.toArray := p
      cases r with
      | non => cases q; exact SeqAt.EqAt.none_tuple p' (by lia)
      | int _ i => obtain ⟨t, rfl⟩ := q; exact SeqAt.EqAt.int_tuple i t p' (by lia)
      | str _ x => obtain ⟨t, rfl⟩ := q; exact SeqAt.EqAt.str_tuple x t p' (by lia)
      | lst _ _ _ => cases f
      | tup _ _ _ => cases f
    ·subst z
     cases r <;> first | (cases f; done) | skip
     all_goals (cases r'; exact absurd rfl f')
  ·by_cases f' : flatV v' = true
   ·refine ⟨false, ?_, ⟨fun z => (by cases z), fun z => ?_⟩⟩
    ·cases r with
     | non => exact absurd rfl f
     | int => exact absurd rfl f
     | str => exact absurd rfl f
     | @lst _ ds a xs h hl hi =>
      cases q
      obtain ⟨its, _, p, _⟩ := I.list h
      cases r' with
      | non => cases q'; exact SeqAt.EqAt.list_none p.isList (by lia)
      | int _ i => obtain ⟨t, rfl⟩ := q'; exact SeqAt.EqAt.list_int i t p.isList (by lia)
      | str _ x => obtain ⟨t, rfl⟩ := q'; exact SeqAt.EqAt.list_str x t p.isList (by lia)
      | lst _ _ _ => cases f'
      | tup _ _ _ => cases f'
     | @tup _ ds a xs h hl hi =>
      cases q
      obtain ⟨its, _, p, _⟩ := I.tuple h
      have p' : s.heap.IsTuple a its.toArray := p
      cases r' with
      | non => cases q'; exact SeqAt.EqAt.tuple_none p' (by lia)
      | int _ i => obtain ⟨t, rfl⟩ := q'; exact SeqAt.EqAt.tuple_int i t p' (by lia)
      | str _ x => obtain ⟨t, rfl⟩ := q'; exact SeqAt.EqAt.tuple_str x t p' (by lia)
      | lst _ _ _ => cases f'
      | tup _ _ _ => cases f'
    ·subst z
     cases r' <;> first | (cases f'; done) | skip
     all_goals (cases r; exact absurd rfl f)
   ·have ex : ∀ {m : Nat} {d : Dt} {v : V}, Rep X.K H m d v -> ¬ flatV v = true -> ∃ a, v = .ref a := fun {m d v} r f => by
     cases r <;> first | exact ⟨_, rfl⟩ | exact absurd rfl f
    obtain ⟨a, rfl⟩ := ex r f
    obtain ⟨a', rfl⟩ := ex r' f'
    cases q
    cases q'
    by_cases ha : a = a'
    ·subst ha
     exact ⟨true, SeqAt.EqAt.same _, ⟨fun _ => rep_inj I (n + 1) r r', fun _ => rfl⟩⟩
    ·obtain ⟨b, h1, _, h3⟩ := rc_rep I (A := A) (by lia) r r' fun r r' q q' => ih (A := A.in1) (by show A.units + 1 + n < cLine; lia) r r' q q'
     exact ⟨b, .of_refs ha h1, h3⟩
def rEqD (K : W.Frag) (neg : Bool) : R2 := fun x y H Q => ∃ a a' n d d', x = .ref a /\ y = .ref a' /\ Rep K H (n + 1) d (.ref a) /\ Rep K H (n + 1) d' (.ref a') /\ n <= 30 /\ ∀ b, (b = true ↔ d = d') -> Q (.bl (if neg then !b else b)) H
theorem op_eqD (hu : X.A.units + 64 < cLine) : OpR X (compareOp .Eq) (rEqD X.K false) := by
 intro pins s σ H x y v u Q I rx ry h
 obtain ⟨a, a', n, d, d', rfl, rfl, r, r', hn, q⟩ := h
 cases rx
 cases ry
 obtain ⟨b, h1, _, h3⟩ := rc_rep I (A := X.A) (by lia) r r' fun r r' q q' => eq_rep I n (A := X.A.in1) (by show X.A.units + 1 + n < cLine; lia) r r' q q'
 exact h1 _ _ _ _ ⟨.bl b, H, I, rfl, q b h3⟩
theorem op_neD (hu : X.A.units + 64 < cLine) : OpR X (compareOp .NotEq) (rEqD X.K true) := by
 intro pins s σ H x y v u Q I rx ry h
 obtain ⟨a, a', n, d, d', rfl, rfl, r, r', hn, q⟩ := h
 cases rx
 cases ry
 obtain ⟨b, _, h2, h3⟩ := rc_rep I (A := X.A) (by lia) r r' fun r r' q q' => eq_rep I n (A := X.A.in1) (by show X.A.units + 1 + n < cLine; lia) r r' q q'
 exact h2 _ _ _ _ ⟨.bl (!b), H, I, rfl, q b h3⟩
end
theorem rep_ints {K : W.Frag} {H : Hp} {n : Nat} {is : List Int} (i : Nat) (d : Dt) (v : V) (h1 : (is.map Dt.int)[i]? = some d) (h2 : (is.map V.int)[i]? = some v) : Rep K H n d v := by
 rw [List.getElem?_map] at h1 h2
 cases e : is[i]? with
 | none => rw [e] at h1; cases h1
 | some k =>
  rw [e] at h1 h2
  cases h1
  cases h2
  exact .int n k
theorem repT {K : W.Frag} {H : Hp} {n : Nat} {is : List Int} {a : Addr} (h : SqT K H a (is.map V.int)) : Rep K H (n + 1) (.tup (is.map Dt.int)) (.ref a) := .tup h (by simp) rep_ints
theorem map_inj {α β : Type} {f : α -> β} (hf : ∀ a b, f a = f b -> a = b) : ∀ {xs ys : List α}, xs.map f = ys.map f -> xs = ys
 | [], [], _ => rfl
 | [], _ :: _, h => by simp at h
 | _ :: _, [], h => by simp at h
 | a :: xs, b :: ys, h => by
  simp only [List.map_cons, List.cons.injEq] at h
  rw [hf a b h.1, map_inj hf h.2]
theorem dt_ints {xs ys : List Int} : Dt.lst (xs.map Dt.int) = Dt.lst (ys.map Dt.int) ↔ xs = ys :=
 ⟨fun h => by injection h with h; exact map_inj (fun a b e => by injection e) h, fun h => by rw [h]⟩
theorem dt_intsT {xs ys : List Int} : Dt.tup (xs.map Dt.int) = Dt.tup (ys.map Dt.int) ↔ xs = ys :=
 ⟨fun h => by injection h with h; exact map_inj (fun a b e => by injection e) h, fun h => by rw [h]⟩
def rangeV (n : Nat) : List V := (List.range n).map fun (i : Nat) => V.int (i : Int)
section
variable {X : Cx}
def rRange : List V -> Hp -> VK -> Prop := fun xs H Q => ∃ j : Int, xs = [.int j] /\ ∀ p, H p = none -> Q (.ref p) (upd H p (.rng 0 j))
theorem call_rangeV : CallR X (.type "range") rRange := by
 intro pins s σ H xs us Q I r h
 obtain ⟨j, rfl, q⟩ := h
 obtain ⟨u, rfl, t, rfl⟩ := vals1 r
 refine call_range_1 ⟨.ref s.heap.objs.size, _, I.laid (t' := s.toks + 1 + 1) (fun b o e => Heap.get?_push_of_some _ e) (Nat.le_refl _) (show ObjOk X.prog X.w _ _ _ (.rng 0 j) from ⟨_, _, _, Heap.get?_push_size _ rfl⟩), rfl, q _ (I.hok.fresh (Nat.le_refl _))⟩
theorem items_range {n : Nat} {acc : Array Value} (h : ItemsOf (fun i v => ∃ t, v = Value.int ((0 : Int) + (i : Nat) * 1) t) acc n) : Vals (rangeV n) acc.toList := by
 obtain ⟨hs, hi⟩ := h
 have go : ∀ (xs : List V) (us : List Value), xs.length = us.length -> (∀ (j : Nat) x u, xs[j]? = some x -> us[j]? = some u -> RelV x u) -> Vals xs us := by
  intro xs
  induction xs with
  | nil => intro us hl _; cases us with
   | nil => exact .nil
   | cons => simp at hl
  | cons x xs ih =>
   intro us hl h
   cases us with
   | nil => simp at hl
   | cons u us => exact .cons (h 0 x u rfl rfl) (ih us (by simpa using hl) fun j a b e1 e2 => h (j + 1) a b (by simpa using e1) (by simpa using e2))
 refine go _ _ (by simp [rangeV, hs]) fun j x u e1 e2 => ?_
 obtain ⟨t, rfl⟩ := hi j u (by simpa using e2)
 unfold rangeV at e1
 rw [List.getElem?_map] at e1
 have hj : j < n := by
  have := (List.getElem?_eq_some_iff.mp e2).1
  simpa [hs] using this
 rw [List.getElem?_range hj] at e1
 cases e1
 refine ⟨t, ?_⟩
 congr 1
 lia
theorem range_small {j : Int} (h0 : 0 <= j) (h1 : j <= 1000000) : Builtin.Range.small 0 j 1 = true := small_one (by decide) (by decide) (by lia) (by lia)
theorem range_count {j : Int} (h0 : 0 <= j) : Builtin.Range.rangeSize 0 j 1 = (j.toNat : Nat) := by
 rw [rangeSize_one]
 split <;> lia
def rListRng : List V -> Hp -> VK -> Prop := fun xs H Q => ∃ p j, xs = [.ref p] /\ H p = some (.rng 0 j) /\ 0 <= j /\ j <= 1000000 /\ ∀ l, H l = none -> Q (.ref l) (upd H l (.lst (rangeV j.toNat)))
theorem call_list_rng (hc : X.calm = true) : CallR X (.type "list") rListRng := by
 intro pins s σ H xs us Q I r h
 obtain ⟨p, j, rfl, hp, h0, h1, q⟩ := h
 obtain ⟨u, rfl, rx⟩ := vals1 r
 cases rx
 obtain ⟨t1, t2, t3, e⟩ := I.hok p _ hp
 refine call_list_range (I.ok.hd hc) e (range_small h0 h1) (range_count h0) (by lia) fun h' tk acc c' kp e' hit => ?_
 have hv := items_range hit
 have e2 : h'.get? s.heap.objs.size = some { cls := .type "list", data := .seq acc.toList.toArray c' } := by simpa using e'
 exact ⟨.ref s.heap.objs.size, _, I.laid (t' := tk) kp (Nat.le_refl _) (show ObjOk X.prog X.w _ h' _ (.lst (rangeV j.toNat)) from ⟨by rw [sizeLine_eq]; simp [rangeV]; lia, acc.toList, c', hv, e2⟩), rfl, q _ (I.hok.fresh (Nat.le_refl _))⟩
end
section
open AutoSeq1 (wpAny_loadPart')
abbrev RngItems (j : Int) (acc : Array Value) : Prop := ItemsOf (fun i v => ∃ t, v = Value.int ((0 : Int) + (i : Nat) * 1) t) acc j.toNat
theorem collect_rng {prog : Program} {w : World} {A : Around} {E : Value -> Shared -> Prop} {s : Shared} {Q : List Value -> Shared -> Prop} {r : Addr} {j : Int} {t u v : Tok} (hh : A.handled = none) (hr : IsRange s.heap r 0 j 1 t u v) (h0 : 0 <= j) (h1 : j <= 1000000)
  (hQ : ∀ h' tk acc, (∀ b o, s.heap.get? b = some o -> h'.get? b = some o) -> RngItems j acc -> Q acc.toList { s with heap := h', toks := tk }) : wpAny (model prog w) A (collect (.ref r)) Q E s := by
 have hS : (s.heap.push { cls := .type "list", data := .seq ([] : List Value).toArray }).get? s.heap.objs.size = some { cls := .type "list", data := .seq #[] 0 } := by exact Heap.get?_push_size _ rfl
 unfold collect; refine wpAny_bind (wpAny_runValue (codeAny_builtin F.entry_proto_collect ?_)); rw [Around.under_plainId F.plain_proto_collect _]
 show wpAny _ A.in1 (newList [] >>= fun l => again (.builtin "list.__iadd__" ⟨[l, .ref r], []⟩)) _ _ s
 refine wpAny_bind (wpAny_newObj_type (wpAny_pure ⟨plainId_quiet F.plain_list_iadd _, codeAny_builtin F.entry_list_iadd ?_⟩)); rw [Around.under_plainId F.plain_list_iadd _]
 show wpAny _ A.in1 (Builtin.List.listExtendWith (.ref s.heap.objs.size) (.ref r) (.ref s.heap.objs.size)) _ _ _
 have fin' : ∀ s', (∃ h' tk acc c', s' = { s with heap := h', toks := tk } /\ (∀ b o, s.heap.get? b = some o -> h'.get? b = some o) /\ h'.get? s.heap.objs.size = some { cls := .type "list", dict := none, data := .seq acc c', slots := #[] } /\ RngItems j acc) ->
   wpAny (model prog w) A (match Value.ref s.heap.objs.size with
    | Value.ref a => do
     let o <- load a
     match o.data with
      | Data.seq xs _ => pure xs.toList
      | _ => unsupported "internal:collect"
    | _ => unsupported "internal:collect") Q E s' := by
  rintro s' ⟨h', tk, acc, c', rfl, kp, hS', hit⟩
  show wpAny _ A (load s.heap.objs.size >>= _) _ _ _
  exact wpAny_bind (wpAny_load hS' (wpAny_pure (hQ h' tk acc kp hit)))
 refine wpAny_mono (wpAny_extend_range (A := A) (R := fun r s' => r = .ok (.ret (.ref s.heap.objs.size)) /\ ∃ h' tk acc c', s' = { s with heap := h', toks := tk } /\ (∀ b o, s.heap.get? b = some o -> h'.get? b = some o) /\ h'.get? s.heap.objs.size = some { cls := .type "list", dict := none, data := .seq acc c', slots := #[] } /\ RngItems j acc)
  (s := { s with heap := s.heap.push { cls := .type "list", data := .seq ([] : List Value).toArray } }) hh (Heap.get?_push_of_some _ hr) (range_small h0 h1) (range_count h0) (by lia) _ (.ref s.heap.objs.size) 0 hS fun h' tk acc c' kp hS' hit =>
   ⟨rfl, h', tk, acc, c', rfl, fun b o e => kp b o (Nat.ne_of_lt (Heap.lt_size e)) (Heap.get?_push_of_some _ e), hS', hit⟩) (fun fin s' h => ?_) (fun e s' h => absurd h.1 (by simp))
 cases fin with
 | done f => obtain ⟨e, g⟩ := h; cases e; exact fin' _ g
 | again c' => exact ⟨h.1, codeAny_mono h.2 fun r s'' hr => by obtain ⟨rfl, g⟩ := hr; exact fin' _ g⟩
theorem meets_tuple_rng (r : Addr) (j : Int) (t u v : Tok) (h0 : 0 <= j) (h1 : j <= 1000000) : Meets (Builtin.«tuple.__new__» ⟨[.type "tuple", .ref r], []⟩)
  (fun A R s => A.handled = none /\ IsRange s.heap r 0 j 1 t u v /\ ∀ (h' : Heap) tk acc, (∀ b o, s.heap.get? b = some o -> h'.get? b = some o) -> RngItems j acc ->
   R (.ok (.ret (.ref h'.objs.size))) { s with heap := h'.push { cls := .type "tuple", data := .seq acc }, toks := tk }) :=
 .of_wp fun prog w A R s h => by
  obtain ⟨hp, g, d, tk, os⟩ := s; obtain ⟨hh, hr, h⟩ := h
  have hsub := sub_tuple_self; have hinit := init_tuple_lookup; have hmh := madeHere_tuple
  have hT : Shared.TypeIs ⟨hp, g, d, tk, os⟩ (.ref r) "range" := ⟨_, hr, rfl⟩
  wp_walk using wpAny_loadPart' hr, wpAny_typeOf hT, collect_rng (A := A.in1) hh hr h0 h1
  intro h' tk' acc hk hit
  show wpAny _ _ (Builtin.Tuple.tupleExact acc.toList.toArray >>= fun v => ret v) _ _ _
  have hz : acc.toList.toArray.size <= sizeLine := by
   have := hit.1
   rw [sizeLine_eq]
   simp only [List.size_toArray, Array.length_toList]
   lia
  unfold Builtin.Tuple.tupleExact; refine wpAny_bind (wpAny_newObj_type (wpAny_pure ⟨_, rfl, ?_⟩) hz)
  have e : acc.toList.toArray = acc := by simp
  rw [e]; exact h h' tk' acc hk hit
end
section
variable {X : Cx}
def rTupRng : List V -> Hp -> VK -> Prop := fun xs H Q => ∃ p j, xs = [.ref p] /\ H p = some (.rng 0 j) /\ 0 <= j /\ j <= 1000000 /\ ∀ l, H l = none -> Q (.ref l) (upd H l (.tup (rangeV j.toNat)))
theorem call_tup_rng (hc : X.calm = true) : CallR X (.type "tuple") rTupRng := by
 intro pins s σ H xs us Q I r h
 obtain ⟨p, j, rfl, hp, h0, h1, q⟩ := h
 obtain ⟨u, rfl, rx⟩ := vals1 r
 cases rx
 obtain ⟨t1, t2, t3, e⟩ := I.hok p _ hp
 refine callType_new F.called_tuple (by decide) (F.typeCall_tuple_1 _) (F.newCall_tuple_1 _) (fun obj => F.args_object_init_2 obj _) F.entry_tuple_new (meets_tuple_rng p j t1 t2 t3 h0 h1) ⟨I.ok.hd hc, e, fun h' tk acc kp hit => ⟨⟨_, Heap.get?_push_size _ rfl, rfl⟩, ?_⟩⟩
 have hv := items_range hit
 have I1 : Inv X pins σ H { s with heap := h', toks := tk } := I.kept kp
 have hz : (rangeV j.toNat).length <= sizeLine := by rw [sizeLine_eq]; simp [rangeV]; lia
 have I2 : Inv X pins σ (upd H h'.objs.size (.tup (rangeV j.toNat))) { s with heap := h'.push { cls := .type "tuple", data := .seq acc }, toks := tk } :=
  I1.laid (t' := tk) (fun b o e => Heap.get?_push_of_some _ e) (Nat.le_refl _) (show ObjOk X.prog X.w _ _ _ (.tup (rangeV j.toNat)) from ⟨hz, acc.toList, hv, by simpa using IsTup.new h' acc⟩)
 exact ⟨.ref h'.objs.size, _, I2, rfl, q _ (I1.hok.fresh (Nat.le_refl _))⟩
def rIsi (K : W.Frag) : List V -> Hp -> VK -> Prop := fun xs H Q => ∃ x n t b, xs = [x, .ty n] /\ TyOf K H x t /\ PySem.W.kitOne K t (.type n) = some b /\ Q (.bl b) H
theorem call_isi : CallR X (.builtin "isinstance") (rIsi X.K) := by
 intro pins s σ H xs us Q I r h
 obtain ⟨x, n, t, b, rfl, ty, e, q⟩ := h
 obtain ⟨u, w', rfl, r1, r2⟩ := vals2 r
 cases r2
 exact isinst_ok I r1 ty e fun tk => ⟨.bl b, H, I.tok tk, rfl, q⟩
end
structure CompSc (N : List Str) (osc : Scope) (vs : List Str) (sc : Scope) : Prop where
 kind : sc.kind = .function
 cell : ∀ y ∈ sc.names, y.2 ≠ .cell
 locs : ∀ y ∈ sc.names, y.2 = .local -> sc.names.lookup y.1 = some .local
 own : ∀ y ∈ N.map (hide vs), sc.names.lookup y ≠ some .local
 hid : ∀ y ∈ vs, sc.names.lookup (hideStr y) = none
 nd : (vs ++ N.map (hide vs)).Nodup
 free : ∀ y ∈ sc.names, y.2 = .free -> osc.names.lookup y.1 = some .cell ∨ osc.names.lookup y.1 = some .free
theorem CompSc.to {X : Cx} {N : List Str} {osc : Scope} {vs : List Str} {sc : Scope} (h : CompSc N osc vs sc) (hN : X.N = N := by rfl) (hs : X.env.scope = osc := by rfl) : CompScope X vs sc := by
 subst hN hs
 exact ⟨h.kind, h.cell, h.locs, h.own, h.hid, h.nd, h.free⟩
def Callee (P : Program) (w : World) (K : W.Frag) (mg : Str -> Option Value) (base : Heap) (x : Str) (k : Nat) (ps : List Str) (sp : Sp) : Prop :=
 ∃ f fd, FnOk P w K mg base CX0 k f fd ps sp /\ mg x = some (.ref f) /\ PySem.W.keepIn K (.ref f) = true /\ Binds K fd ps []
theorem pe_callD {X : Cx} {x : Str} {k : Nat} {ps : List Str} {sp : Sp} {e : Expr} {es : List Expr} {t : TA} {p pos : Pos} (c : Callee X.prog X.w X.K X.mg X.base x k ps sp) (hr : Room k X.A) (hg : Gl X x) (ha : PA X (e :: es) t)
  (hd : (x == ("__debug__" : Str)) = false := by decide) (hs : starEach (e :: es) X.env = (false, eval e X.env) :: starEach es X.env := by rfl) (hp : (backTo pos (starEach es X.env)).any (·.1) = false := by rfl) :
  PE X (.Call (.Name x p) (e :: es) [] pos) (tCall sp [] E0 t) := by
 obtain ⟨f, fd, F, m, kp, b⟩ := c
 exact pe_call F hr hg m kp b .nil pass0 ha hd hs hp
theorem pe_ty {X : Cx} {x : Str} {n : String} {pos : Pos} (hg : Gl X x) (hm : X.mg x = none) (hv : bootBuiltins x = some (.type n)) (hn : x ≠ "__name__" := by decide) (hd : (x == ("__debug__" : Str)) = false := by decide) : PE X (.Name x pos) (tC (.ty n)) :=
 pe_bltn (v := .ty n) hg hm hv (show RelV (.ty n) (.type n) from rfl) hn hd
theorem IxR.k {X : Cx} {K : W.Frag} (r : W.Frag -> R2) (h : IxR X (r X.K)) (hK : X.K = K) : IxR X (r K) := hK ▸ h
theorem OpR.k {X : Cx} {K : W.Frag} {f : Value -> Value -> Sem Value} (r : W.Frag -> R2) (h : OpR X f (r X.K)) (hK : X.K = K) : OpR X f (r K) := hK ▸ h
theorem same_new {H : Hp} {p : Addr} (h : H p = none) (o : HO) : Same H (upd H p o) := fun b u q => by rw [upd_ne (ne_of_none q h)]; exact q
theorem small {n : Nat} (h : n <= 1000) : n <= sizeLine := Nat.le_of_lt (small1000 h)
abbrev nv (n : Nat) : V := .int (n : Int)
theorem nv_ints (xs : List Nat) : xs.map nv = (xs.map fun (n : Nat) => (n : Int)).map V.int := by rw [List.map_map]; rfl
theorem cast_inj {xs ys : List Nat} : (xs.map fun (n : Nat) => (n : Int)) = (ys.map fun (n : Nat) => (n : Int)) ↔ xs = ys :=
 ⟨fun h => map_inj (fun a b e => Int.ofNat.inj e) h, fun h => by rw [h]⟩
theorem repTn {K : W.Frag} {H : Hp} {n : Nat} {is : List Nat} {a : Addr} (h : SqT K H a (is.map nv)) : Rep K H (n + 1) (.tup ((is.map fun (n : Nat) => (n : Int)).map Dt.int)) (.ref a) := repT (by rw [<- nv_ints]; exact h)
theorem dt_nats {xs ys : List Nat} : Dt.lst ((xs.map fun (n : Nat) => (n : Int)).map Dt.int) = Dt.lst ((ys.map fun (n : Nat) => (n : Int)).map Dt.int) ↔ xs = ys := dt_ints.trans cast_inj
theorem dt_natsT {xs ys : List Nat} : Dt.tup ((xs.map fun (n : Nat) => (n : Int)).map Dt.int) = Dt.tup ((ys.map fun (n : Nat) => (n : Int)).map Dt.int) ↔ xs = ys := dt_intsT.trans cast_inj
theorem at_nv {xs : List Nat} {k : Nat} (h : k < xs.length) : atI (xs.map nv) (k : Int) = some (nv (xs.getD k 0)) := atI_nat (by rw [List.getElem?_map, List.getElem?_eq_getElem h, List.getD_eq_getElem?_getD, List.getElem?_eq_getElem h]; rfl)
def NewT (H : Hp) (xs : List V) (Q : VK) : Prop := ∀ r H', Same H H' -> H' r = some (.tup xs) -> Q (.ref r) H'
def tCut (t : TS) : TS := fun D σ H => ∃ S : St -> Hp -> Prop, t { D with nx := S } σ H /\ ∀ σ' H', S σ' H' -> D.nx σ' H'
theorem ps_cut {X : Cx} {st : Stmt} {t : TS} (h : PS X st t) : PS X st (tCut t) := by
 intro pins s σ H D I q
 obtain ⟨S, q1, q2⟩ := q
 refine thn (h pins s σ H _ I q1) fun f s' z => ?_
 cases f with
 | next => obtain ⟨σ', H', I', z⟩ := z; exact ⟨σ', H', I', q2 σ' H' z⟩
 | brk => exact z
 | cont => exact z
 | ret u => exact z
theorem same_upd {H H' : Hp} {l : Addr} {o : HO} (g : Same H H') (hl : H l = none) : Same H (upd H' l o) := fun b u e => by rw [upd_ne (ne_of_none e hl)]; exact g b u e
theorem at_int {cs : List Int} {k : Nat} (h : k < cs.length) : atI (cs.map V.int) (k : Int) = some (.int (cs.getD k 0)) := atI_nat (by rw [List.getElem?_map, List.getElem?_eq_getElem h, List.getD_eq_getElem?_getD, List.getElem?_eq_getElem h]; rfl)
theorem ixN_nat {n k : Nat} (h : k < n) : ixN n (k : Int) = some k := by
 unfold ixN
 rw [if_pos (by lia), if_pos (by lia), Int.toNat_natCast]
theorem mod_nv (c : Int) {n : Nat} (h : 1 <= n) : V.int (c % (n : Int)) = nv (c % (n : Int)).toNat /\ (c % (n : Int)).toNat < n := by
 have h1 := Int.emod_nonneg c (by lia : (n : Int) ≠ 0)
 have h2 := Int.emod_lt_of_pos c (by lia : (0 : Int) < (n : Int))
 refine ⟨?_, by lia⟩
 show V.int _ = V.int (((c % (n : Int)).toNat : Nat) : Int)
 rw [Int.toNat_of_nonneg h1]
theorem set_nv (ys : List Nat) (j v : Nat) : (ys.map nv).set j (nv v) = (ys.set j v).map nv := (List.map_set).symm
theorem set_lt {ys : List Nat} {j v n : Nat} (h : ∀ y ∈ ys, y < n) (hv : v < n) : ∀ y ∈ ys.set j v, y < n := by
 intro y hy
 rcases List.mem_or_eq_of_mem_set hy with z | z
 ·exact h y z
 ·rw [z]; exact hv
theorem getD_lt {ys : List Nat} {j n : Nat} (h : ∀ y ∈ ys, y < n) (hj : j < ys.length) : ys.getD j 0 < n := by
 rw [List.getD_eq_getElem?_getD, List.getElem?_eq_getElem hj]
 exact h _ (List.getElem_mem hj)
theorem dlenH_meets {P : Program} {w : World} {a : Addr} {κ : Type} [DecidableEq κ] {kd : HeapKind P w κ} (na : (a == sysModules) = false) :
  MeetsIn P w (Builtin.«dict.__len__» ⟨[.ref a], []⟩) fun _ R s => ∃ xs, s.heap.DictOfH kd a xs /\ R (.ok (.ret (.int xs.length s.toks))) { s with toks := s.toks + 1 } :=
 .of_wp fun A R s ⟨xs, dd, q⟩ => by
  obtain ⟨ob, en, ep, g1, g2, g3, g4, _⟩ := dd
  have ez : en.size = xs.length := size_of_entries g4
  show wpAny _ _ (dictSize a >>= _) _ _ s
  unfold dictSize
  refine wpAny_bind (wpAny_bind (wpAny_dictEntries g1 g3 (wpAny_pure (wpAny_bind (wpAny_pendingCount_other na (wpAny_ret_mkInt ?_))))))
  rw [Nat.add_zero, ez]
  exact q
theorem dlenH_body {P : Program} {w : World} {A : Around} {E : Value -> Shared -> Prop} {s : Shared} {a : Addr} {κ : Type} [DecidableEq κ] {kd : HeapKind P w κ} {xs : List (κ × Addr × Value)} {Q : Value -> Shared -> Prop} (na : (a == sysModules) = false)
  (dd : s.heap.DictOfH kd a xs) (few : (xs.length : Int) < 2 ^ 63) (q : Q (.int xs.length (s.toks + 1)) { s with toks := s.toks + 1 + 1 }) : wpAny (model P w) A (Builtin.«len» ⟨[.ref a], []⟩) (fun fin s' => ∃ r, fin = .done (.ret r) /\ Q r s') E s := by
 have n0 : ¬ ((xs.length : Nat) : Int) < 0 := by lia
 have n1 : ¬ ((xs.length : Nat) : Int) ≥ 2 ^ 63 := by lia
 unfold Builtin.«len»
 refine wpAny_bind (m := oneArg "len" _) (wpAny_pure (wpAny_bind (m := callSpecial? (.ref a) (Str.ofString "__len__")) ?_))
 refine wpAny_callSpecial?_slot (name := Str.ofString "__len__") dd.typeIs F.slot_dict_len (call_meetsIn F.slot_dict_len dd.typeIs F.entry_dict_len (F.args_dict_len_1 _) (dlenH_meets (kd := kd) na) ⟨xs, dd, ?_⟩)
 show wpAny _ _ _ _ _ { s with toks := s.toks + 1 }
 refine wpAny_bind (wpAny_holding (wpAny_pure (wpAny_bind (wpAny_letGo ?_))))
 show wpAny _ _ (if ((xs.length : Nat) : Int) < 0 then _ else (if ((xs.length : Nat) : Int) ≥ 2 ^ 63 then _ else _)) _ _ _
 rw [if_neg n0, if_neg n1]
 exact wpAny_bind (wpAny_mkInt (wpAny_pure ⟨_, rfl, q⟩))
section
variable {X : Cx}
theorem call_lenT : CallR X (.builtin "len") (fun xs H Q => ∃ a kvs, xs = [V.ref a] /\ H a = some (.dT kvs) /\ Q (.int kvs.length) H) := by
 intro pins s σ H xs us Q I r h
 obtain ⟨a, kvs, rfl, ha, q⟩ := h
 obtain ⟨u, rfl, ru⟩ := vals1 r
 cases ru
 obtain ⟨z, na, ys, rel, dd⟩ := dt_of I.hok ha
 have el : kvs.length = ys.length := Paired.length rel
 refine Calls.call_function_entry kind_len plain_len entry_len (args_len1 _) (dlenH_body na dd (by rw [<- el]; rw [sizeLine_eq] at z; lia) ?_)
 exact ⟨.int kvs.length, H, I.tok _, ⟨_, by rw [el]⟩, q⟩
end
def nk (xs : List Nat) : List Key := xs.map fun (n : Nat) => (Sum.inl (n : Int) : Key)
theorem nk_kV (xs : List Nat) : (nk xs).map kV = xs.map nv := by
 unfold nk
 rw [List.map_map]
 rfl
theorem nk_inj {xs ys : List Nat} (h : nk xs = nk ys) : xs = ys := by
 unfold nk at h
 exact map_inj (fun a b e => by injection e with e; exact Int.ofNat.inj e) h
section
variable {X : Cx}
def rCatS (K : W.Frag) : R2 := fun x y H Q => ∃ l b xs zs, x = .ref l /\ y = .ref b /\ SqL K H l xs /\ SqL K H b zs /\ xs.length + zs.length <= sizeLine /\ ∀ p, H p = none -> Q (.ref p) (upd H p (.lst (xs ++ zs)))
theorem op_catS : OpR X (binaryOp .Add) (rCatS X.K) := by
 intro pins s σ H x y v u Q I rx ry h
 obtain ⟨l, b, xs, zs, rfl, rfl, hl, hb, hz, q⟩ := h
 cases rx
 cases ry
 obtain ⟨its, r, ⟨⟨c1, d1, k1, s1⟩, n, e, ec, ed, ek⟩, _⟩ := I.list hl
 obtain ⟨its2, r2, ⟨⟨c2, d2, k2, s2⟩, n2, e2, ec2, ed2, ek2⟩, _⟩ := I.list hb
 simp only at ec ed ek ec2 ed2 ek2
 subst ec ed ek ec2 ed2 ek2
 have l1 := r.length
 have l2 := r2.length
 have ea : its.toArray ++ its2.toArray = (its ++ its2).toArray := by simp
 refine concat_meets ⟨_, e, rfl⟩ ⟨_, e2, rfl⟩ noFill_list_add seq_list_add F.slot_list_add F.entry_list_add (F.args_list_add_2 _ _) (list_addW l b its.toArray its2.toArray n n2 none none s1 s2 (by simp only [List.size_toArray]; lia)) ⟨e, e2, ?_⟩
 rw [ea]
 exact ⟨.ref _, _, I.lnew (t' := s.toks) (r.append r2) (by rw [List.length_append]; lia), rfl, q _ I.fresh⟩
end
section
variable {X : Cx}
def rAll (K : W.Frag) : List V -> Hp -> VK -> Prop := fun xs H Q => ∃ (p : Addr) (bs : List Bool), xs = [.ref p] /\ SqL K H p (bs.map V.bl) /\ Q (.bl (bs.all id)) H
theorem call_allL (hc : X.calm = true) : CallR X (.builtin "all") (rAll X.K) := by
 intro pins s σ H xs us Q I r h
 obtain ⟨p, bs, rfl, hp, q⟩ := h
 obtain ⟨u, rfl, ru⟩ := vals1 r
 cases ru
 obtain ⟨its, rv, pl, _⟩ := I.list hp
 have hl := pl.isList
 have hlt : p < s.heap.objs.size := pl.lt
 have hlen : its.length = bs.length := by rw [<- rv.length, List.length_map]
 refine call_all_walk (wpAny_pyIter_list hl ⟨_, _, _, _, _, _, fun i => bs.getD i false, rfl, Walks.list (A := X.A.in1) (I.ok.hd hc) _ p (Nat.ne_of_lt hlt) its.toArray, ⟨⟨_, Heap.get?_push_size _ rfl, rfl, rfl⟩, hl.push _⟩, ?_, fun h' tk hk => ?_⟩)
 ·intro i v s2 Q2 E2 hv hq
  have hv' : its[i]? = some v := by simpa using hv
  have hi : i < bs.length := by rw [<- hlen]; exact (List.getElem?_eq_some_iff.mp hv').1
  obtain ⟨u2, e1, e2⟩ := rv.get (i := i) (x := .bl (bs.getD i false)) (by rw [List.getElem?_map, List.getElem?_eq_getElem hi, List.getD_eq_getElem?_getD, List.getElem?_eq_getElem hi]; rfl)
  rw [hv'] at e1
  cases e1
  cases (show v = Value.bool _ from e2)
  exact wpAny_truthy_bool hq
 ·have e : (List.range its.toArray.size).all (fun i => bs.getD i false) = bs.all id := by
   rw [List.size_toArray, hlen]
   have : bs = (List.range bs.length).map fun i => bs.getD i false := by
    refine List.ext_getElem (by simp) fun i h1 h2 => ?_
    simp [List.getD_eq_getElem?_getD, h1]
   conv => rhs; rw [this, List.all_map]
   rfl
  rw [e]
  exact ⟨.bl (bs.all id), H, I.kept fun b o z => hk b o (by simp only [List.mem_singleton]; exact Nat.ne_of_lt (Heap.lt_size z)) (Heap.get?_push_of_some _ z), rfl, q⟩
end
structure PL (X : Cx) (es : List Expr) (t : TA) : Prop where
 pa : PA X es t
section
variable {X : Cx} {e a b : Expr} {es : List Expr} {te ta tb : TE} {t : TA} {pos : Pos}
theorem pl_nil : PL X [] tNil := ⟨pa_nil⟩
theorem pl_cons (ha : PE X e te) (hr : PL X es t) (hs : starEach (e :: es) X.env = (false, eval e X.env) :: starEach es X.env) : PL X (e :: es) (tCons te t) := ⟨pa_cons ha hr.pa hs⟩
theorem pl_at (h : PL X es t) : PA X es t := h.pa
end
def RcOp (op : CmpOp) (A : Around) (s : Shared) (x y : Value) (r : Bool) : Prop :=
 ∀ (P : Program) (w : World) (E : Value -> Shared -> Prop) (Q : Value -> Shared -> Prop), Q (.bool r) s -> wpAny (model P w) A (richCompare op x y) Q E s
inductive Cmp (op : CmpOp) (A : Around) (s : Shared) : List (Value × Value) -> Option Bool -> Prop where
 | nil : Cmp op A s [] none
 | eq {x y zs o} : SeqAt.EqAt A s x y true -> Cmp op A s zs o -> Cmp op A s ((x, y) :: zs) o
 | ne {x y zs r} : SeqAt.EqAt A s x y false -> RcOp op A s x y r -> Cmp op A s ((x, y) :: zs) (some r)
def SeqObj (c : String) (h : Heap) (a : Addr) (its : List Value) : Prop := ∃ n dx sl, h.get? a = some ⟨.type c, dx, .seq its.toArray n, sl⟩
section
variable {P : Program} {w : World} {A : Around} {E : Value -> Shared -> Prop} {s : Shared} {op : CmpOp}
theorem cmp_walk {β : Type} {f : Value × Value -> β -> Sem (ForInStep β)} {b0 : β} {Q : β -> Shared -> Prop} {zs : List (Value × Value)} {o : Option Bool} (h : Cmp op A s zs o)
  (yes : ∀ x y Q, SeqAt.EqAt A s x y true -> Q (.yield b0) s -> wpAny (model P w) A (f (x, y) b0) Q E s)
  (no : ∀ x y r, SeqAt.EqAt A s x y false -> RcOp op A s x y r -> o = some r -> wpAny (model P w) A (f (x, y) b0) (fun t s' => match t with | .yield _ => False | .done b => Q b s') E s)
  (fin : o = none -> Q b0 s) : wpAny (model P w) A (forIn zs b0 f) Q E s := by
 refine wpAny_forIn_list f (fun rest b s' => b = b0 /\ s' = s /\ Cmp op A s rest o) Q (fun z rest b s' q => ?_) (fun b s' q => ?_) zs b0 ⟨rfl, rfl, h⟩
 ·obtain ⟨rfl, rfl, c⟩ := q
  cases c with
  | eq e c => exact yes _ _ _ e ⟨rfl, rfl, c⟩
  | ne e c =>
   refine wpAny_mono (no _ _ _ e c rfl) (fun t s2 z => ?_) fun _ _ z => z
   cases t with
   | yield _ => exact z.elim
   | done _ => exact z
 ·obtain ⟨rfl, rfl, c⟩ := q
  cases c
  exact fin rfl
end
section
open AutoSeq1
open MeetsSeq MeetsSeq2 MeetsSeq3 SeqRoads2 SeqAt
variable {l b : Addr} {xs ys : List Value}
theorem tup_lt : Meets (Builtin.«tuple.__lt__» ⟨[.ref l, .ref b], []⟩) (fun A R s => SeqObj "tuple" s.heap l xs /\ SeqObj "tuple" s.heap b ys /\ ∃ o, Cmp .Lt A.in1 s (xs.zip ys) o /\ R (.ok (.ret (.bool (o.getD (decide (xs.length < ys.length)))))) s) := by
 refine .of_wp fun P w A R ⟨h, gn, dr, k, os⟩ ⟨⟨n, dx, sl, e1⟩, ⟨m, dy, tl, e2⟩, o, c, q⟩ => ?_
 have sub := AutoSeq1.sub_tuple_tuple
 wp_walk using wpAny_loadPart' e1, wpAny_loadPart' e2
 refine cmp_walk c (fun x y Q e z => ?_) (fun x y r e rc z => ?_) (fun z => ?_)
 ·refine wpAny_bind (e P w _ _ ?_)
  wp_walk
  exact z
 ·refine wpAny_bind (e P w _ _ ?_)
  generalize g : richCompare .Lt x y = ask
  wp_walk
  subst g
  refine rc P w _ _ ?_
  wp_walk
  subst z
  exact ⟨_, rfl, q⟩
 ·subst z
  wp_walk
  exact ⟨_, rfl, by simpa [Builtin.Tuple.tupleCompareSizes] using q⟩
end
def ltlO : List Nat -> List Nat -> Option Bool
 | a :: xs, b :: ys => if a = b then ltlO xs ys else some (decide (a < b))
 | _, _ => none
def ltl (xs ys : List Nat) : Bool := (ltlO xs ys).getD (decide (xs.length < ys.length))
theorem ltl_irr (xs : List Nat) : ltl xs xs = false := by
 have no : ltlO xs xs = none := by
  induction xs with
  | nil => rfl
  | cons a xs ih => rw [ltlO, if_pos rfl, ih]
 unfold ltl
 rw [no]
 simp
section
variable {A : Around} {s : Shared} {l b : Addr} {xs ys : List Value} {o : Option Bool}
theorem rc_intLt {i j : Int} {t u : Tok} : RcOp .Lt A s (.int i t) (.int j u) (decide (i < j)) := fun P w E Q q => show wpAny _ _ (compareOp .Lt _ _) _ _ _ from PyProof.Rows.lt_int q
theorem eqAt_int {i j : Int} {t u : Tok} : SeqAt.EqAt A s (.int i t) (.int j u) (decide (i = j)) := by
 have z := eqAt_V (A := A) (s := s) (y := .int i) (x := .int j) (u := .int i t) (v := .int j u) ⟨t, rfl⟩ ⟨u, rfl⟩ rfl rfl
 have e : eqV (.int i) (.int j) = decide (i = j) := by
  show (i == j) = _
  by_cases h : i = j <;> simp [h]
 rwa [e] at z
theorem cmp_nats {op : CmpOp} {F : Bool -> Bool} (rc : ∀ (i j : Nat) (t u : Tok), i ≠ j -> RcOp op A s (.int (i : Int) t) (.int (j : Int) u) (F (decide (i < j)))) :
  ∀ {ns ms : List Nat} {xs ys : List Value}, Vals (ns.map nv) xs -> Vals (ms.map nv) ys -> Cmp op A s (xs.zip ys) ((ltlO ns ms).map F)
 | [], ms, _, _, .nil, _ => by rw [List.zip_nil_left, show ltlO [] ms = none by cases ms <;> rfl]; exact .nil
 | n :: ns, [], _, _, .cons _ _, .nil => by rw [List.zip_nil_right]; exact .nil
 | n :: ns, m :: ms, _, _, .cons ⟨t, e1⟩ r1, .cons ⟨u, e2⟩ r2 => by
  subst e1 e2
  have z := eqAt_int (A := A) (s := s) (i := (n : Int)) (j := (m : Int)) (t := t) (u := u)
  by_cases e : n = m
  ·rw [decide_eq_true (by lia)] at z
   rw [ltlO, if_pos e]
   exact .eq z (cmp_nats rc r1 r2)
  ·rw [decide_eq_false (by lia)] at z
   rw [ltlO, if_neg e]
   exact .ne z (rc n m t u e)
theorem natsLt {ns ms : List Nat} (h1 : Vals (ns.map nv) xs) (h2 : Vals (ms.map nv) ys) : Cmp .Lt A s (xs.zip ys) (ltlO ns ms) := by
 have z := cmp_nats (A := A) (s := s) (op := .Lt) (F := fun b => b) (fun i j t u _ => by
  have e : decide ((i : Int) < (j : Int)) = decide (i < j) := by simp
  exact e ▸ rc_intLt) h1 h2
 rwa [Option.map_id' ] at z
theorem seqObj_tup (h : s.heap.IsTuple l xs.toArray) : SeqObj "tuple" s.heap l xs := by
 obtain ⟨⟨c, dx, da, sl⟩, e, hc, n, hd⟩ := h
 cases hc
 cases hd
 exact ⟨n, dx, sl, e⟩
theorem SeqObj.ty {c : String} (h : SeqObj c s.heap l xs) : s.TypeIs (.ref l) c := let ⟨_, _, _, e⟩ := h; ⟨_, e, rfl⟩
theorem rc_tupLt (h1 : SeqObj "tuple" s.heap l xs) (h2 : SeqObj "tuple" s.heap b ys) (hu : A.units < cLine) (c : Cmp .Lt A.in1 s (xs.zip ys) o) : RcOp .Lt A s (.ref l) (.ref b) (o.getD (decide (xs.length < ys.length))) := fun P w E Q q =>
 richCompare_meets_room (op := .Lt) h1.ty h2.ty F.slot_tuple_lt F.entry_tuple_lt (F.args_tuple_lt_2 _ _) tup_lt ⟨h1, h2, o, c, (fun z => nomatch z), q⟩ hu
end
section
variable {X : Cx}
def plt (i : Int) (ps : List Nat) (j : Int) (qs : List Nat) : Bool := if i = j then ltl ps qs else decide (i < j)
end
def sub5 (m : Nat) : List Nat := (List.range 5).filter fun i => m.testBit i
def tab5 (led : Bool) (xs : List Nat) : SetTable := { mask := if xs.length = 5 then 31 else 7, place := xs.toArray, dummies := #[], finger := 0, led, moves := if xs.length = 5 then 1 else 0, plain := true }
def goes5 (xs : List Nat) (k : Nat) : Nat := (xs.filter (· < k)).length
def tabP (led : Bool) (m k : Nat) : SetTable := { tab5 led (sub5 m) with place := (sub5 (m ||| 2 ^ k)).toArray }
theorem tab5_fits : ∀ (led : Bool) (m : Fin 32), (tab5 led (sub5 m)).fits (sub5 m).length = true := by decide +kernel
theorem tab5_free : ∀ (led : Bool) (m : Fin 32) (k : Fin 5), (m : Nat).testBit k = false -> (tab5 led (sub5 m)).freeSlot ((k : Nat) : Int) = some ((k : Nat), false) := by decide +kernel
theorem tab5_put : ∀ (led : Bool) (m : Fin 32) (k : Fin 5), (m : Nat).testBit k = false -> (tab5 led (sub5 m)).put k = (tabP led m k, goes5 (sub5 m) k) /\ (tabP led m k).fits ((sub5 m).length + 1) = true := by decide +kernel
theorem sub5_add : ∀ (m : Fin 32) (k : Fin 5), (m : Nat).testBit k = false -> sub5 (m ||| 2 ^ (k : Nat)) = (sub5 m).take (goes5 (sub5 m) k) ++ (k : Nat) :: (sub5 m).drop (goes5 (sub5 m) k) := by decide +kernel
theorem sub5_old : ∀ (m : Fin 32) (k : Fin 5), (k : Nat) ∈ sub5 m -> (m ||| 2 ^ (k : Nat) : Nat) = m := by decide +kernel
theorem sub5_new : ∀ (m : Fin 32) (k : Fin 5), (k : Nat) ∉ sub5 m -> (m : Nat).testBit k = false := by decide +kernel
theorem sub5_lt : ∀ (m : Fin 32) (k : Fin 5), (m ||| 2 ^ (k : Nat) : Nat) < 32 := by decide +kernel
theorem sub5_len : ∀ m : Fin 32, (sub5 m).length <= 5 := by decide +kernel
theorem tab5_small : ∀ (led : Bool) (m : Fin 32) (k : Fin 5), (m : Nat).testBit k = false -> (sub5 m).length ≠ 4 -> tabP led m k = tab5 led (sub5 (m ||| 2 ^ (k : Nat))) /\ (tabP led m k).tooFull = false := by decide +kernel
theorem tab5_big : ∀ (led : Bool) (m : Fin 32) (k : Fin 5), (m : Nat).testBit k = false -> (sub5 m).length = 4 -> (tabP led m k).tooFull = true /\
  (tabP led m k).relaid #[0, 1, 2, 3, 4] (SetTable.grown 5) = some (tab5 led (sub5 (m ||| 2 ^ (k : Nat))), #[0, 1, 2, 3, 4]) /\ sub5 (m ||| 2 ^ (k : Nat)) = [0, 1, 2, 3, 4] /\ (tab5 led (sub5 (m ||| 2 ^ (k : Nat)))).fits 5 = true := by decide +kernel
theorem hash5 : ∀ k : Fin 5, hashInt ((k : Nat) : Int) = ((k : Nat) : Int) := by decide +kernel
def Ents : List Nat -> List (Int × Value) -> Prop := Paired fun n e => e.1 = (n : Int) /\ ∃ t, e.2 = .int (n : Int) t
def setObj (es : List (Int × Value)) (ep : Nat) (t : SetTable) : Obj := { cls := .type "set", data := .set es.toArray ep t }
def IsSet5 (h : Heap) (a : Addr) (led : Bool) (m : Nat) : Prop := m < 32 /\ ∃ es ep, h.get? a = some (setObj es ep (tab5 led (sub5 m))) /\ Ents (sub5 m) es
theorem Ents.take : ∀ {ns : List Nat} {es : List (Int × Value)} (p : Nat), Ents ns es -> Ents (ns.take p) (es.take p)
 | _, _, 0, _ => .nil
 | _, _, _ + 1, .nil => .nil
 | _, _, p + 1, .cons r t => .cons r (Ents.take p t)
theorem Ents.drop : ∀ {ns : List Nat} {es : List (Int × Value)} (p : Nat), Ents ns es -> Ents (ns.drop p) (es.drop p)
 | _, _, 0, r => r
 | _, _, _ + 1, .nil => .nil
 | _, _, p + 1, .cons _ t => Ents.drop p t
theorem Ents.app : ∀ {ns ms : List Nat} {es fs : List (Int × Value)}, Ents ns es -> Ents ms fs -> Ents (ns ++ ms) (es ++ fs)
 | _, _, _, _, .nil, r => r
 | _, _, _, _, .cons q t, r => .cons q (Ents.app t r)
theorem Ents.len {ns : List Nat} {es : List (Int × Value)} (h : Ents ns es) : es.length = ns.length := (Paired.length h).symm
theorem Ents.keys : ∀ {ns : List Nat} {es : List (Int × Value)}, Ents ns es -> es.map (·.1) = ns.map fun (n : Nat) => (n : Int)
 | _, _, .nil => rfl
 | _, _, .cons q t => by rw [List.map_cons, List.map_cons, q.1, Ents.keys t]
theorem Ents.mem : ∀ {ns : List Nat} {es : List (Int × Value)} {e : Int × Value}, Ents ns es -> e ∈ es -> ∃ n ∈ ns, e.1 = (n : Int) /\ ∃ t, e.2 = .int (n : Int) t
 | _, _, _, .cons q t, h => by
  rcases List.mem_cons.mp h with z | z
  ·subst z
   exact ⟨_, List.mem_cons_self, q⟩
  ·obtain ⟨n, h1, h2⟩ := Ents.mem t z
   exact ⟨n, List.mem_cons_of_mem _ h1, h2⟩
theorem Ents.has : ∀ {ns : List Nat} {es : List (Int × Value)} {n : Nat}, Ents ns es -> n ∈ ns -> ∃ e ∈ es, ∃ t, e.2 = .int (n : Int) t
 | _, _, _, .cons q t, h => by
  rcases List.mem_cons.mp h with z | z
  ·subst z
   exact ⟨_, List.mem_cons_self, q.2⟩
  ·obtain ⟨e, h1, h2⟩ := Ents.has t z
   exact ⟨e, List.mem_cons_of_mem _ h1, h2⟩
theorem Ents.elems {P : Program} {w : World} {m : Fin 32} {es : List (Int × Value)} (h : Ents (sub5 m) es) : ElemsOf (intKind P w) es := fun e he => by
 obtain ⟨n, hn, e1, t, e2⟩ := h.mem he
 have hn5 : n < 5 := List.mem_range.mp (List.mem_filter.mp hn).1
 exact ⟨⟨(n : Int), by rw [e2]; exact intKind_is _ _ _ _, by rw [e1]; exact (hash5 ⟨n, hn5⟩).symm⟩, by rw [e2]; rfl⟩
theorem ins_list {α : Type} (xs : List α) (p : Nat) (x : α) : (SetTable.insertAt xs.toArray p x) = (xs.take p ++ x :: xs.drop p).toArray := by
 unfold SetTable.insertAt
 apply Array.ext'
 simp
 exact List.take_of_length_le (by simp)
section
variable {P : Program} {w : World} {A : Around} {E : Value -> Shared -> Prop} {s : Shared} {a : Addr} {led : Bool} {m k : Nat} {t : Tok}
theorem upd_set {h : Heap} {es fs : List (Int × Value)} {ep : Nat} {t u : SetTable} (e : h.get? a = some (setObj es ep t)) : (h.update a (Obj.putSet fs.toArray u)).get? a = some (setObj fs (ep + 1) u) := Heap.get?_update_self _ e rfl
theorem len_s {α : Type} {fs : List α} {n : Nat} (h : fs.length = n + 1) : ∃ a r, fs = a :: r /\ r.length = n := by
 cases fs with
 | nil => cases h
 | cons a r => exact ⟨a, r, rfl, Nat.succ.inj h⟩
theorem pick5 {α : Type} {fs : List α} (h : fs.length = 5) : (#[0, 1, 2, 3, 4] : Array Nat).filterMap (fs.toArray[·]?) = fs.toArray := by
 obtain ⟨_, _, rfl, h1⟩ := len_s h
 obtain ⟨_, _, rfl, h2⟩ := len_s h1
 obtain ⟨_, _, rfl, h3⟩ := len_s h2
 obtain ⟨_, _, rfl, h4⟩ := len_s h3
 obtain ⟨_, _, rfl, h5⟩ := len_s h4
 cases List.length_eq_zero_iff.mp h5
 rfl
theorem set5_add {Q : Shared -> Prop} (hk : k < 5) (hS : IsSet5 s.heap a led m) (q : ∀ h', IsSet5 h' a led (m ||| 2 ^ k) -> Heap.SameBut a s.heap h' -> Q { s with heap := h' }) :
  wpAny (model P w) A (setAddHashed a (.int (k : Int) t) (k : Int)) (fun _ s' => Q s') E s := by
 obtain ⟨hm, es, ep, e, en⟩ := hS
 have ln := en.len
 have fit := tab5_fits led ⟨m, hm⟩
 have el : ElemsOf (intKind P w) es.toArray.toList := Ents.elems (m := ⟨m, hm⟩) en
 have m5 : (sub5 m).length <= 5 := sub5_len ⟨m, hm⟩
 have fit' : (tab5 led (sub5 m)).fits es.toArray.size = true := by rw [List.size_toArray, ln]; exact fit
 have sc : byScan (.int (k : Int) t) es.toArray = true := by
  unfold byScan
  have e3 : es.toArray.all (·.2.scannable) = true := by
   rw [Array.all_eq_true_iff_forall_mem]
   exact fun x hx => (el x (by simpa using hx)).2
  rw [e3]
  have e4 : decide (es.toArray.size < scanBound) = true := decide_eq_true (by rw [List.size_toArray, ln]; unfold scanBound; lia)
  rw [e4]
  rfl
 have hh : (intKind P w).hash (k : Int) = (k : Int) := hash5 ⟨k, hk⟩
 unfold setAddHashed setAddHashedIn
 refine wpAny_holding (wpAny_bind (wpAny_setState_of e rfl fit' ?_))
 dsimp only
 rw [sc, if_pos rfl]
 unfold setAddByScan
 refine wpAny_bind (wpAny_bind (wpAny_rule (wpAny_bind ?_)))
 have scan : ∀ {R : ScanMet -> Shared -> Prop}, R (match es.toArray.toList.findIdx? (fun e => (intKind P w).is (k : Int) e.2) with | some j => .found (0 + j) | none => .absent) s -> wpAny (model P w) A (setScan a (.int (k : Int) t) (k : Int) true es.toArray) R E s := fun z => by
  have y := wpAny_setScan_of (prog := P) (w := w) (A := A) (E := E) (knd := intKind P w) (k := (k : Int)) (x := .int (k : Int) t) (adding := true) (intKind_is _ _ _ _) e rfl fit' el z
  rw [hh] at y
  exact y
 refine scan ?_
 rw [List.toList_toArray]
 by_cases hin : k ∈ sub5 m
 ·obtain ⟨x, hx, tx, ex⟩ := en.has hin
  cases hf : es.findIdx? fun e => (intKind P w).is (k : Int) e.2 with
  | none =>
   have z := List.findIdx?_eq_none_iff.mp hf x hx
   rw [ex, intKind_is] at z
   cases z
  | some j =>
   refine wpAny_pure (wpAny_pure ?_)
   have z := q s.heap (by rw [sub5_old ⟨m, hm⟩ ⟨k, hk⟩ hin]; exact ⟨hm, es, ep, e, en⟩) (Heap.SameBut.refl a s.heap)
   cases s
   exact z
 ·have nb := sub5_new ⟨m, hm⟩ ⟨k, hk⟩ hin
  cases hf : es.findIdx? fun e => (intKind P w).is (k : Int) e.2 with
  | some j =>
   obtain ⟨hj, hpj, _⟩ := List.findIdx?_eq_some_iff_getElem.mp hf
   obtain ⟨n, hn, _, tn, e2⟩ := en.mem (List.getElem_mem hj)
   rw [e2] at hpj
   have z : (k : Int) = (n : Int) := (intKind P w).inj _ _ _ hpj (intKind_is _ _ _ tn)
   have z' : k = n := by lia
   exact absurd (z' ▸ hn) hin
  | none =>
   obtain ⟨pu, pf⟩ := tab5_put led ⟨m, hm⟩ ⟨k, hk⟩ nb
   have sa := sub5_add ⟨m, hm⟩ ⟨k, hk⟩ nb
   have lt32 := sub5_lt ⟨m, hm⟩ ⟨k, hk⟩
   dsimp only at pu pf sa lt32
   have en' : Ents (sub5 (m ||| 2 ^ k)) (es.take (goes5 (sub5 m) k) ++ ((k : Int), Value.int (k : Int) t) :: es.drop (goes5 (sub5 m) k)) := by
    rw [sa]
    exact (en.take _).app (.cons ⟨rfl, t, rfl⟩ (en.drop _))
   have lay : layNew (tab5 led (sub5 m)) es.toArray (k : Int) (.int (k : Int) t) = ((es.take (goes5 (sub5 m) k) ++ ((k : Int), Value.int (k : Int) t) :: es.drop (goes5 (sub5 m) k)).toArray, tabP led m k, false, false) := by
    unfold layNew
    rw [tab5_free led ⟨m, hm⟩ ⟨k, hk⟩ nb]
    dsimp only
    rw [pu]
    dsimp only
    rw [ins_list]
    have sz : (es.take (goes5 (sub5 m) k) ++ ((k : Int), Value.int (k : Int) t) :: es.drop (goes5 (sub5 m) k)).toArray.size = (sub5 m).length + 1 := by
     rw [List.size_toArray, List.length_append, List.length_cons, List.length_take, List.length_drop, ln]
     lia
    rw [sz]
    unfold SetTable.orStandIn
    rw [pf]
    rfl
   generalize es.take (goes5 (sub5 m) k) ++ ((k : Int), Value.int (k : Int) t) :: es.drop (goes5 (sub5 m) k) = fs at en' lay
   have lf := en'.len
   have f5 : fs.length <= 5 := by rw [lf]; exact sub5_len ⟨_, lt32⟩
   dsimp only
   rw [lay]
   dsimp only
   refine wpAny_bind (show wpAny _ _ (pure ()) _ _ _ from wpAny_pure ?_)
   refine wpAny_bind (show wpAny _ _ (pure true) _ _ _ from wpAny_pure ?_)
   refine wpAny_bind (wpAny_storeSet_of e rfl ?_ (by rw [List.size_toArray, sizeLine_eq]; lia))
   have e1 := upd_set (h := s.heap) (fs := fs) (u := tabP led m k) e
   have same1 : Heap.SameBut a s.heap (s.heap.update a (Obj.putSet fs.toArray (tabP led m k))) := Heap.SameBut.update ..
   by_cases h4 : (sub5 m).length = 4
   ·obtain ⟨tf, rl, s5, ff⟩ := tab5_big led ⟨m, hm⟩ ⟨k, hk⟩ nb h4
    dsimp only at tf rl s5 ff
    have l5 : fs.length = 5 := by rw [lf, s5]; rfl
    have ks : fs.toArray.map (·.1) = #[0, 1, 2, 3, 4] := by
     rw [List.map_toArray, en'.keys, s5]
     rfl
    have pick : (#[0, 1, 2, 3, 4] : Array Nat).filterMap (fs.toArray[·]?) = fs.toArray := pick5 l5
    have rel : relayAll (tabP led m k) fs.toArray (SetTable.grown fs.toArray.size) = (fs.toArray, tab5 led (sub5 (m ||| 2 ^ k)), false) := by
     unfold relayAll
     rw [ks, List.size_toArray, l5, rl]
     dsimp only
     rw [pick, List.size_toArray, l5, ff, Bool.and_true, if_pos (by decide +kernel)]
    show wpAny _ _ (if (!false && (tabP led m k).tooFull) = true then _ else _) _ _ _
    rw [tf, if_pos (by decide)]
    simp only [if_true]
    rw [rel]
    dsimp only
    refine wpAny_bind (show wpAny _ _ (pure ()) _ _ _ from wpAny_pure ?_)
    refine wpAny_bind (wpAny_storeSet_of e1 rfl ?_ (by rw [List.size_toArray, sizeLine_eq]; lia))
    have e2 := upd_set (fs := fs) (u := tab5 led (sub5 (m ||| 2 ^ k))) e1
    have same2 := Heap.SameBut.trans same1 (Heap.SameBut.update (s.heap.update a (Obj.putSet fs.toArray (tabP led m k))) a (Obj.putSet fs.toArray (tab5 led (sub5 (m ||| 2 ^ k)))))
    exact wpAny_pure (wpAny_pure (q _ ⟨lt32, fs, ep + 1 + 1, e2, en'⟩ same2))
   ·obtain ⟨te, tf⟩ := tab5_small led ⟨m, hm⟩ ⟨k, hk⟩ nb h4
    dsimp only at te tf
    show wpAny _ _ (if (!false && (tabP led m k).tooFull) = true then _ else _) _ _ _
    rw [tf, if_neg (by decide)]
    refine wpAny_pure (wpAny_pure (q _ ⟨lt32, fs, ep + 1, ?_, en'⟩ same1))
    rw [<- te]
    exact e1
end
def mask5 (m : Nat) (ns : List Nat) : Nat := ns.foldl (fun m n => m ||| 2 ^ n) m
section
variable {P : Program} {w : World} {A : Around} {E : Value -> Shared -> Prop} {S it l : Addr} {led : Bool} {ns : List Nat} {vs : List Value}
theorem set5_loop {R : Result -> Shared -> Prop} (hh : A.handled = none) (d1 : S ≠ it) (d2 : S ≠ l) (d3 : it ≠ l) (hv : Vals (ns.map nv) vs) (h5 : ∀ n ∈ ns, n < 5) :
  ∀ (rest : List Nat) (i m : Nat) (s : Shared), ns.drop i = rest -> s.heap.IsListIter it l i -> s.heap.IsList l vs.toArray -> IsSet5 s.heap S led m ->
   (∀ h' tk, IsSet5 h' S led (mask5 m rest) -> (∀ b o, b ≠ S -> b ≠ it -> s.heap.get? b = some o -> h'.get? b = some o) -> R (.ok (.ret .none)) { s with heap := h', toks := tk }) ->
   codeAny (model P w) A (.builtin "set.update.loop" ⟨[.ref S, .ref it], []⟩) R s
 | [], i, m, s, hd, hi, hl, hS, q => by
  have hlen : vs.length <= i := by
   have h1 : vs.length = ns.length := by simpa using hv.length.symm
   have h2 := List.drop_eq_nil_iff.mp hd
   lia
  refine codeAny_builtin F.entry_set_update_loop ?_
  rw [Around.under_plainId F.plain_set_update_loop _]
  show wpAny _ A.in1 (pyNext (.ref it) >>= _) _ _ s
  refine wpAny_bind (wpAny_pyNext_list_end (by simpa using hh) hi hl (by simp; lia) fun h' keep => ?_)
  refine wpAny_pure (q h' s.toks ?_ fun b o _ h2 e => keep b o h2 e)
  obtain ⟨hm, es, ep, e, en⟩ := hS
  exact ⟨hm, es, ep, keep _ _ d1 e, en⟩
 | n :: rest, i, m, s, hd, hi, hl, hS, q => by
  have at1 : ns[i]? = some n := by rw [<- List.head?_drop, hd]; rfl
  have next : ns.drop (i + 1) = rest := by rw [<- List.tail_drop, hd]; rfl
  have n5 := h5 n (List.mem_of_getElem? at1)
  obtain ⟨u, hu, t, rfl⟩ := hv.get (i := i) (x := nv n) (by rw [List.getElem?_map, at1]; rfl)
  refine codeAny_builtin F.entry_set_update_loop ?_
  rw [Around.under_plainId F.plain_set_update_loop _]
  show wpAny _ A.in1 (pyNext (.ref it) >>= _) _ _ s
  refine wpAny_bind (wpAny_pyNext_list_item hi hl (x := .int (n : Int) t) (by simpa using hu) fun h1 hi1 sb1 => ?_)
  show wpAny _ A.in1 (holding [Value.int (n : Int) t] (setAdd S (.int (n : Int) t)) >>= _) _ _ _
  refine wpAny_bind (wpAny_holding ?_)
  unfold setAdd
  refine wpAny_holding (wpAny_bind ((intKind P w).pyHash (k := (n : Int)) (intKind_is _ _ _ _) ?_))
  rw [show (intKind P w).hash (n : Int) = (n : Int) from hash5 ⟨n, n5⟩]
  have hS1 : IsSet5 h1 S led m := by
   obtain ⟨hm, es, ep, e, en⟩ := hS
   exact ⟨hm, es, ep, sb1.extBut _ _ d1 e, en⟩
  refine set5_add n5 hS1 fun h2 hS2 sb2 => ?_
  refine wpAny_pure ⟨plainId_quiet F.plain_set_update_loop _, set5_loop hh d1 d2 d3 hv h5 rest (i + 1) (m ||| 2 ^ n) _ next (hi1.extBut sb2.extBut d1.symm) ((hl.extBut sb1.extBut d3.symm).extBut sb2.extBut d2.symm) hS2 fun h' tk hS' keep => ?_⟩
  exact q h' tk hS' fun b o b1 b2 e => keep b o b1 b2 (sb2.extBut _ _ b1 (sb1.extBut _ _ b2 e))
theorem set5_new {s : Shared} {x : Value} {Q : Value -> Shared -> Prop} (q : Q (.ref s.heap.objs.size) { s with heap := s.heap.push (setObj [] 0 (tab5 (!w.params.followText "set-order") [])) }) :
  codeAny (model P w) A (.call (.builtin "set.__new__") ⟨[.type "set", x], []⟩) (wants Q E) s := by
 refine codeAny_of_tree ?_
 show wpAny _ A.in1 (checkBuiltinCall "set.__new__" ⟨[.type "set", x], []⟩ >>= fun _ => again (.builtin "set.__new__" ⟨[.type "set", x], []⟩)) _ _ s
 refine wpAny_bind (wpAny_of_eq (F.newCall_set_1 x) (wpAny_pure ⟨plainId_quiet F.plain_set_new _, codeAny_builtin F.entry_set_new ?_⟩))
 rw [Around.under_plainId F.plain_set_new _]
 have sub := sub_set_self
 unfold Builtin.«set.__new__» Builtin.Frozenset.newClass
 wp_walk
 refine wpAny_askSetting (wpAny_pure ?_)
 dsimp only
 simp only [newObj]
 refine wpAny_bind (wpAny_alloc (wpAny_pure (wpAny_pure ?_)))
 exact q
abbrev set0 (led : Bool) : Obj := { cls := .type "set", dict := none, data := .set #[] 0 (.fresh 0 0 led) }
set_option maxHeartbeats 4000000 in
theorem set5_init {h : Heap} {gn : Array GenState} {dr : Drawn} {k : Nat} {os : OsState} {R : PySem.Fin -> Shared -> Prop} (hh : A.handled = none) (hl : h.IsList l vs.toArray) (hv : Vals (ns.map nv) vs) (h5 : ∀ n ∈ ns, n < 5)
  (q : ∀ h' tk, IsSet5 h' h.objs.size led (mask5 0 ns) -> (∀ b o, h.get? b = some o -> h'.get? b = some o) -> R (.done (.ret .none)) ⟨h', gn, dr, tk, os⟩) :
  wpAny (model P w) A (Builtin.«set.__init__» ⟨[.ref h.objs.size, .ref l], []⟩) R E ⟨h.push (set0 led), gn, dr, k, os⟩ := by
 obtain ⟨⟨cl, dl, dat, sl⟩, e2, c2, n2, d2⟩ := id hl
 simp only at c2 d2
 subst c2 d2
 have e3 : (h.push (set0 led)).get? l = some ⟨.type "list", dl, .seq vs.toArray n2, sl⟩ := Heap.get?_push_of_some _ e2
 have e0 : (h.push (set0 led)).get? h.objs.size = some { cls := .type "set", dict := none, data := .set #[] 0 (.fresh 0 0 led) } := Heap.get?_push_size _ rfl
 have s1 := F.sub_list_set
 have s2 := F.sub_list_frozenset
 have ne : (Value.type "list" == Value.type "dict") = false := by decide
 unfold Builtin.«set.__init__» noKeywords Builtin.Frozenset.updateFrom
 generalize g : pyIter = iter
 wp_walk
 subst g
 have hl1 : (h.push (set0 led)).IsList l vs.toArray := hl.push _
 refine wpAny_pyIter_list hl1 (wpAny_bind (wpAny_runValue ?_))
 have lt : l < h.objs.size := Heap.lt_size e2
 have sz : (h.push (set0 led)).objs.size = h.objs.size + 1 := Heap.size_push ..
 refine set5_loop (vs := vs) (led := led) (by simpa using hh) (by rw [sz]; exact Nat.ne_of_lt (Nat.lt_succ_self _)) (Nat.ne_of_gt lt) (by rw [sz]; exact Nat.ne_of_gt (Nat.lt_succ_of_lt lt)) hv h5 ns 0 0 _ rfl ⟨_, Heap.get?_push_size _ rfl, rfl, rfl⟩ (hl1.push _) ⟨by decide, [], 0, Heap.get?_push_of_some _ e0, .nil⟩ fun h' tk z1 z2 => ?_
 refine wpAny_pure (wpAny_pure (q h' tk z1 fun b o e => ?_))
 have bl := Heap.lt_size e
 exact z2 b o (Nat.ne_of_lt bl) (by rw [sz]; exact Nat.ne_of_lt (Nat.lt_succ_of_lt bl)) (Heap.get?_push_of_some _ (Heap.get?_push_of_some _ e))
theorem set5_call {s : Shared} {Q : Value -> Shared -> Prop} (hh : A.handled = none) (hl : s.heap.IsList l vs.toArray) (hv : Vals (ns.map nv) vs) (h5 : ∀ n ∈ ns, n < 5)
  (q : ∀ h' tk, IsSet5 h' s.heap.objs.size (!w.params.followText "set-order") (mask5 0 ns) -> (∀ b o, s.heap.get? b = some o -> h'.get? b = some o) -> Q (.ref s.heap.objs.size) { s with heap := h', toks := tk }) :
  wpAny (model P w) A (call (.type "set") [.ref l]) Q E s := by
 have lt : l < s.heap.objs.size := let ⟨_, e, _⟩ := hl; Heap.lt_size e
 obtain ⟨c, tl, mro⟩ := F.called_set.mro
 have made := F.called_set.made
 have sub := F.called_set.sub
 have noType := F.called_set.notType
 have may := F.called_set.canCreate
 have args := F.typeCall_set_1 (.ref l)
 have look := F.called_set.init.lookup
 have bnd := F.called_set.init.bind (.ref s.heap.objs.size)
 generalize eo : setObj [] 0 (tab5 (!w.params.followText "set-order") []) = o0
 have e0 : (s.heap.push o0).get? s.heap.objs.size = some o0 := Heap.get?_push_size _ (by rw [<- eo]; rfl)
 have ty : Shared.TypeIs { s with heap := s.heap.push o0 } (.ref s.heap.objs.size) "set" := ⟨_, e0, by rw [<- eo]; rfl⟩
 refine wpAny_call (codeAny_of_tree (show wpAny _ _ (callAny (.type "set") _) _ _ _ from wpAny_pure ⟨Code.quiet_builtin _ (by decide +kernel), codeAny_builtin F.entry_type_call ?_⟩))
 rw [Around.under_plain (weight_type_call_type "set" [.ref l] []) rfl]
 repeat (any_goals (first | assumption | wp_step))
 refine codeAny_mono (set5_new (w := w) (E := E) (Q := fun v s1 => v = .ref s.heap.objs.size /\ s1 = { s with heap := s.heap.push o0 }) (by rw [eo]; exact ⟨rfl, rfl⟩)) fun r s1 z => ?_
 cases r with
 | error _ => exact z
 | ok f =>
  cases f <;> first | exact z.elim | skip
  obtain ⟨e1, e2⟩ := z
  subst e1 e2
  repeat (any_goals (first | assumption | wp_step))
  refine codeAny_mono (codeAny_call_builtin (R := wants (fun v s2 => v = .none /\ ∃ h' tk, s2 = { s with heap := h', toks := tk } /\ IsSet5 h' s.heap.objs.size (!w.params.followText "set-order") (mask5 0 ns) /\ ∀ b o, s.heap.get? b = some o -> h'.get? b = some o) E)
   F.called_set.init.plain F.entry_set_init (check_set_init_1 ty ?_)) fun r s2 z => ?_
  ·subst eo
   exact set5_init (A := A.in1.in1) (by simpa using hh) hl hv h5 fun h' tk z1 z2 => ⟨rfl, h', tk, rfl, z1, z2⟩
  ·cases r with
   | error _ => exact z
   | ok f =>
    cases f <;> first | exact z.elim | skip
    obtain ⟨e1, h', tk, e2, z1, z2⟩ := z
    subst e1 e2
    repeat (any_goals (first | assumption | wp_step))
    exact q h' tk z1 z2
end
theorem si_next : Slot "set_iterator" "__next__" "set_iterator.__next__" := Slot.of (owner := "set_iterator") (n := "__next__") (by rw [typeLookup_type, builtinLookup_eq_fast]; kernel_rfl) (by decide +kernel) (by decide +kernel) (by decide +kernel) (by first | exact .inl (by decide +kernel) | exact .inr (by decide +kernel)) (by rw [isSubtype_type]; kernel_rfl)
theorem si_iter : Slot "set_iterator" "__iter__" "set_iterator.__iter__" := Slot.of (owner := "set_iterator") (n := "__iter__") (by rw [typeLookup_type, builtinLookup_eq_fast]; kernel_rfl) (by decide +kernel) (by decide +kernel) (by decide +kernel) (by first | exact .inl (by decide +kernel) | exact .inr (by decide +kernel)) (by rw [isSubtype_type]; kernel_rfl)
theorem si_next_at : entryFor table "set_iterator.__next__" = some Builtin.«set_iterator.__next__» := entryFor_of_tree (by kernel_rfl)
theorem si_iter_at : entryFor table "set_iterator.__iter__" = some Builtin.«dict_keyiterator.__iter__» := entryFor_alias (id' := "dict_keyiterator.__iter__") (by kernel_rfl) (by first | rfl | decide +kernel | (unfold String.splitOn; simp +decide [String.splitOnAux])) (by decide +kernel) (by kernel_rfl)
theorem s_iter_at : entryFor table "set.__iter__" = some Builtin.«frozenset.__iter__» := entryFor_alias (id' := "frozenset.__iter__") (by kernel_rfl) (by first | rfl | decide +kernel | (unfold String.splitOn; simp +decide [String.splitOnAux])) (by decide +kernel) (by kernel_rfl)
theorem si_next_args (a : Value) : argsOk "set_iterator.__next__" ⟨[a], []⟩ := by unfold argsOk; kernel_rfl
theorem si_iter_args (a : Value) : argsOk "set_iterator.__iter__" ⟨[a], []⟩ := by unfold argsOk; kernel_rfl
theorem pick_go {α : Type} (f : Nat -> Nat) : ∀ (fuel k : Nat) (left : List α) (out : Array α), left.length = fuel -> (pickOrder.go f fuel k left out).toList.Perm (out.toList ++ left)
 | 0, k, left, out, h => by
  rw [List.eq_nil_of_length_eq_zero h]
  simp [pickOrder.go]
 | fuel + 1, k, left, out, h => by
  have lt : f k % left.length < left.length := Nat.mod_lt _ (by lia)
  unfold pickOrder.go
  rw [List.getElem?_eq_getElem lt]
  dsimp only
  refine (pick_go f fuel (k + 1) (left.eraseIdx (f k % left.length)) (out.push left[f k % left.length]) (by rw [List.length_eraseIdx_of_lt lt]; lia)).trans ?_
  rw [Array.toList_push, List.append_assoc]
  refine List.Perm.append_left _ ?_
  rw [List.eraseIdx_eq_take_drop_succ]
  have e : left = left.take (f k % left.length) ++ left[f k % left.length] :: left.drop (f k % left.length + 1) := by
   rw [<- List.drop_eq_getElem_cons lt, List.take_append_drop]
  have z := (List.perm_middle (a := left[f k % left.length]) (l₁ := left.take (f k % left.length)) (l₂ := left.drop (f k % left.length + 1))).symm
  rw [<- e] at z
  exact z
def walk5 (w : World) (a : Addr) (ep : Nat) (es : List (Int × Value)) : List (Int × Value) := if w.params.followText "set-order" then (pickOrder (w.params.setOrder a ep) es.toArray).toList else es
theorem walk5_perm (w : World) (a : Addr) (ep : Nat) (es : List (Int × Value)) : (walk5 w a ep es).Perm es := by
 unfold walk5
 cases w.params.followText "set-order" with
 | true =>
  have z := pick_go (w.params.setOrder a ep) es.toArray.size 0 es.toArray.toList #[] (by simp)
  simpa [pickOrder] using z
 | false => exact List.Perm.refl _
def slot5 (byText : Bool) (xs : List Nat) : Nat -> Nat
 | 0 => 0
 | i + 1 => if byText then 0 else xs.getD i 0 + 1
theorem below5 : ∀ (m : Fin 32) (i : Fin 6), (i : Nat) <= (sub5 m).length -> SetTable.below (sub5 m).toArray (slot5 false (sub5 m) i) = i := by decide +kernel
def iterObj (slot i n ep : Nat) (a : Addr) : Obj := { cls := .type "set_iterator", data := .fields #[rawInt slot, rawInt i, .ref a, rawInt n, rawInt ep] }
section
variable {P : Program} {w : World} {A : Around} {E : Value -> Shared -> Prop} {s : Shared} {a it : Addr} {m ep i : Nat} {es : List (Int × Value)}
theorem next5 {Q : Option (Value × Nat) -> Shared -> Prop} (hm : m < 32) (hS : s.heap.get? a = some (setObj es ep (tab5 (!w.params.followText "set-order") (sub5 m)))) (en : Ents (sub5 m) es) (hi : i <= (sub5 m).length)
  (q : Q (((walk5 w a ep es)[i]?).map fun e => (e.2, slot5 (w.params.followText "set-order") (sub5 m) (i + 1))) s) : wpAny (model P w) A (setNext a (slot5 (w.params.followText "set-order") (sub5 m) i) i ep) Q E s := by
 have ln := en.len
 have fit : (tab5 (!w.params.followText "set-order") (sub5 m)).fits es.toArray.size = true := by rw [List.size_toArray, ln]; exact tab5_fits _ ⟨m, hm⟩
 have m5 : (sub5 m).length <= 5 := sub5_len ⟨m, hm⟩
 unfold setNext setsByText
 refine wpAny_bind (wpAny_setState_of hS rfl fit ?_)
 refine wpAny_bind (wpAny_bind (wpAny_askSetting (wpAny_pure ?_)))
 show wpAny _ _ (if w.params.followText "set-order" = true then _ else _) _ _ _
 unfold walk5 at q
 generalize hb : w.params.followText "set-order" = bt at q hS fit ⊢
 cases bt with
 | true =>
  rw [if_pos rfl]
  rw [if_pos rfl] at q
  rw [if_neg (by simp)]
  unfold setWalk setsByText
  refine wpAny_bind (wpAny_bind (wpAny_setState_of hS rfl fit (wpAny_bind (wpAny_bind (wpAny_askSetting (wpAny_pure ?_))))))
  show wpAny _ _ (if w.params.followText "set-order" = true then _ else _) _ _ _
  rw [hb, if_pos rfl]
  refine wpAny_bind (wpAny_askSetting (wpAny_pure (wpAny_pure ?_)))
  rw [Array.getElem?_toList] at q
  cases i <;> exact q
 | false =>
  rw [if_neg (by decide)]
  rw [if_neg (by decide)] at q
  rw [if_neg (by show ¬ ((!true && _) = true); simp)]
  refine wpAny_bind ?_
  show wpAny _ _ (if (!true && !es.toArray.isEmpty) = true then _ else _) _ _ _
  rw [if_neg (by simp)]
  refine wpAny_pure (wpAny_pure ?_)
  show Q (match es.toArray[SetTable.below (sub5 m).toArray (slot5 false (sub5 m) i)]?, (sub5 m).toArray[SetTable.below (sub5 m).toArray (slot5 false (sub5 m) i)]? with | some (_, x), some j => some (x, j + 1) | _, _ => none) s
  rw [below5 ⟨m, hm⟩ ⟨i, by lia⟩ hi]
  rcases Nat.lt_or_ge i (sub5 m).length with z | z
  ·have z' : i < es.length := by lia
   rw [List.getElem?_eq_getElem z'] at q
   simp only [List.getElem?_toArray, List.getElem?_eq_getElem z', List.getElem?_eq_getElem z]
   have e : slot5 false (sub5 m) (i + 1) = (sub5 m)[i] + 1 := by
    show (if false = true then 0 else (sub5 m).getD i 0 + 1) = _
    rw [if_neg (by decide), List.getD_eq_getElem?_getD, List.getElem?_eq_getElem z]
    rfl
   rw [e] at q
   exact q
  ·have z' : es.length <= i := by lia
   rw [List.getElem?_eq_none z'] at q
   simp only [List.getElem?_toArray, List.getElem?_eq_none z']
   exact q
end
section
variable {P : Program} {w : World} {A : Around} {E : Value -> Shared -> Prop} {a it : Addr} {m ep : Nat} {es : List (Int × Value)}
theorem nextS_item {s : Shared} {i : Nat} {e : Int × Value} {Q : Option Value -> Shared -> Prop} (hne : a ≠ it) (hm : m < 32) (en : Ents (sub5 m) es) (hI : s.heap.get? it = some (iterObj (slot5 (w.params.followText "set-order") (sub5 m) i) i (sub5 m).length ep a)) (hS : s.heap.get? a = some (setObj es ep (tab5 (!w.params.followText "set-order") (sub5 m))))
  (hi : i < (sub5 m).length) (he : (walk5 w a ep es)[i]? = some e)
  (q : ∀ h', h'.get? it = some (iterObj (slot5 (w.params.followText "set-order") (sub5 m) (i + 1)) (i + 1) (sub5 m).length ep a) -> Heap.SameBut it s.heap h' -> Q (some e.2) { s with heap := h' }) : wpAny (model P w) A (pyNext (.ref it)) Q E s := by
 have ty : s.TypeIs (.ref it) "set_iterator" := ⟨_, hI, rfl⟩
 have ln := en.len
 have fit : (tab5 (!w.params.followText "set-order") (sub5 m)).fits es.toArray.size = true := by rw [List.size_toArray, ln]; exact tab5_fits _ ⟨m, hm⟩
 unfold pyNext
 refine wpAny_bind (wpAny_attempt (wpAny_callSpecial?_slot (name := Str.ofString "__next__") ty si_next (wpAny_call_entry si_next ty si_next_at ?_ (si_next_args _))))
 unfold iterObj at hI
 unfold Builtin.«set_iterator.__next__»
 refine wpAny_bind (m := slotArgs _ _ _) (wpAny_pure ?_)
 refine wpAny_bind (wpAny_fieldsOf hI rfl ?_)
 show wpAny _ _ (setEntries a >>= _) _ _ _
 unfold setEntries
 refine wpAny_bind (wpAny_bind (wpAny_setState_of hS rfl fit (wpAny_pure ?_)))
 have zs : ((((es.toArray.size : Nat) : Int) != (((sub5 m).length : Nat) : Int))) = false := by rw [List.size_toArray, ln]; simp
 show wpAny _ _ (if ((((es.toArray.size : Nat) : Int) != (((sub5 m).length : Nat) : Int))) = true then _ else _) _ _ _
 rw [zs, if_neg (by decide)]
 show wpAny _ _ (setNext a ((slot5 (w.params.followText "set-order") (sub5 m) i : Nat) : Int).toNat ((i : Nat) : Int).toNat ((ep : Nat) : Int).toNat >>= _) _ _ _
 simp only [Int.toNat_natCast]
 refine wpAny_bind (next5 hm hS en (Nat.le_of_lt hi) ?_)
 rw [he]
 show wpAny _ _ (setField (.ref it) 0 (rawInt _) >>= _) _ _ _
 refine wpAny_bind (wpAny_setField_rec hI (by simp) fun h1 e1 sb1 => ?_)
 refine wpAny_bind (wpAny_setField_rec e1 (by simp) fun h2 e2 sb2 => ?_)
 exact wpAny_pure ⟨_, rfl, wpAny_pure (q h2 e2 (sb1.trans sb2))⟩
theorem nextS_end {s : Shared} {Q : Option Value -> Shared -> Prop} (hh : A.handled = none) (hne : a ≠ it) (hm : m < 32) (en : Ents (sub5 m) es) (hI : s.heap.get? it = some (iterObj (slot5 (w.params.followText "set-order") (sub5 m) (sub5 m).length) (sub5 m).length (sub5 m).length ep a)) (hS : s.heap.get? a = some (setObj es ep (tab5 (!w.params.followText "set-order") (sub5 m))))
  (q : ∀ h', Heap.ExtBut it s.heap h' -> Q none { s with heap := h' }) : wpAny (model P w) A (pyNext (.ref it)) Q E s := by
 have ty : s.TypeIs (.ref it) "set_iterator" := ⟨_, hI, rfl⟩
 have ln := en.len
 have fit : (tab5 (!w.params.followText "set-order") (sub5 m)).fits es.toArray.size = true := by rw [List.size_toArray, ln]; exact tab5_fits _ ⟨m, hm⟩
 have he : (walk5 w a ep es)[(sub5 m).length]? = none := List.getElem?_eq_none (by rw [(walk5_perm w a ep es).length_eq]; lia)
 unfold pyNext
 refine wpAny_bind (wpAny_attempt (wpAny_callSpecial?_slot (name := Str.ofString "__next__") ty si_next (wpAny_call_entry si_next ty si_next_at ?_ (si_next_args _))))
 unfold iterObj at hI
 unfold Builtin.«set_iterator.__next__»
 refine wpAny_bind (m := slotArgs _ _ _) (wpAny_pure ?_)
 refine wpAny_bind (wpAny_fieldsOf hI rfl ?_)
 show wpAny _ _ (setEntries a >>= _) _ _ _
 unfold setEntries
 refine wpAny_bind (wpAny_bind (wpAny_setState_of hS rfl fit (wpAny_pure ?_)))
 have zs : ((((es.toArray.size : Nat) : Int) != (((sub5 m).length : Nat) : Int))) = false := by rw [List.size_toArray, ln]; simp
 show wpAny _ _ (if ((((es.toArray.size : Nat) : Int) != (((sub5 m).length : Nat) : Int))) = true then _ else _) _ _ _
 rw [zs, if_neg (by decide)]
 show wpAny _ _ (setNext a ((slot5 (w.params.followText "set-order") (sub5 m) (sub5 m).length : Nat) : Int).toNat (((sub5 m).length : Nat) : Int).toNat ((ep : Nat) : Int).toNat >>= _) _ _ _
 simp only [Int.toNat_natCast]
 refine wpAny_bind (next5 hm hS en (Nat.le_refl _) ?_)
 rw [he]
 show wpAny _ _ (setField (.ref it) 2 .none >>= _) _ _ _
 refine wpAny_bind (wpAny_setField_rec hI (by simp) fun h1 e1 sb1 => ?_)
 refine wpAny_bind (m := newExc _ _) ?_
 simp only [newExc, newTuple]
 refine wpAny_bind (wpAny_newObj_type ?_ (by size_fits))
 refine wpAny_bind (m := firstArgMember _ _) (wpAny_of_eq (a := Value.none) (by first | rfl | (unfold firstArgMember; rfl)) (wpAny_newObj_type ?_ (by size_fits)))
 refine wpAny_raiseNew_none (by simpa using hh) (wpAny_bind (wpAny_isInstance (T := "StopIteration") (b := true) ⟨_, Heap.get?_push_size _ rfl, rfl⟩ isSubtype_stop (wpAny_pure ?_)))
 exact q _ fun b o nb e => Heap.get?_push_of_some _ (Heap.get?_push_of_some _ (sb1.extBut b o nb e))
theorem walks5 (hh : A.handled = none) (hne : a ≠ it) (hm : m < 32) (en : Ents (sub5 m) es) : Walks P w A it [it, a] [it] (sub5 m).length (fun i v => ∃ e, (walk5 w a ep es)[i]? = some e /\ v = e.2)
  (fun i h => h.get? it = some (iterObj (slot5 (w.params.followText "set-order") (sub5 m) i) i (sub5 m).length ep a) /\ h.get? a = some (setObj es ep (tab5 (!w.params.followText "set-order") (sub5 m)))) where
 sub := fun b hb => List.mem_cons.mpr (.inl (List.mem_singleton.mp hb))
 frame := fun i h h' st k => ⟨k it (List.mem_cons_self ..) _ st.1, k a (List.mem_cons_of_mem _ (List.mem_singleton.mpr rfl)) _ st.2⟩
 item := fun i s Q E hi st q => by
  have l1 : (walk5 w a ep es).length = (sub5 m).length := by rw [(walk5_perm w a ep es).length_eq, en.len]
  obtain ⟨e, he⟩ : ∃ e, (walk5 w a ep es)[i]? = some e := ⟨_, List.getElem?_eq_getElem (by lia)⟩
  refine nextS_item hne hm en st.1 st.2 hi he fun h' e1 sb => q e.2 h' s.toks ⟨e, he, rfl⟩ ⟨e1, sb.extBut _ _ hne st.2⟩ fun b o nb e => sb.extBut _ _ (fun z => nb (List.mem_singleton.mpr z)) e
 done := fun s Q E st q => nextS_end hh hne hm en st.1 st.2 fun h' x => q h' s.toks fun b o nb e => x b o (fun z => nb (List.mem_singleton.mpr z)) e
 self := fun i s Q E st q => by
  have ty : s.TypeIs (.ref it) "set_iterator" := ⟨_, st.1, rfl⟩
  refine wpAny_pyIter_slot ty si_iter (wpAny_call_entry si_iter ty si_iter_at ?_ (si_iter_args _))
  exact show wpAny _ _ (ret (.ref it)) _ _ s from wpAny_pure ⟨_, rfl, "set_iterator", _, ty, si_next.lookup, q⟩
theorem iterS {s : Shared} {Q : Value -> Shared -> Prop} (hm : m < 32) (en : Ents (sub5 m) es) (hS : s.heap.get? a = some (setObj es ep (tab5 (!w.params.followText "set-order") (sub5 m))))
  (q : Q (.ref s.heap.objs.size) { s with heap := s.heap.push (iterObj 0 0 (sub5 m).length ep a) }) : wpAny (model P w) A (pyIter (.ref a)) Q E s := by
 have ty : s.TypeIs (.ref a) "set" := ⟨_, hS, rfl⟩
 have ln := en.len
 have fit : (tab5 (!w.params.followText "set-order") (sub5 m)).fits es.toArray.size = true := by rw [List.size_toArray, ln]; exact tab5_fits _ ⟨m, hm⟩
 refine wpAny_pyIter_slot ty F.slot_set_iter (wpAny_call_entry F.slot_set_iter ty s_iter_at ?_ (F.args_set_iter_1 _))
 unfold Builtin.«frozenset.__iter__»
 refine wpAny_bind (m := Builtin.Frozenset.slot0 _ _) (wpAny_pure ?_)
 unfold Builtin.Frozenset.sizeOf setEntries
 refine wpAny_bind (wpAny_bind (wpAny_bind (wpAny_setState_of hS rfl fit (wpAny_pure (wpAny_pure ?_)))))
 unfold setDrawn setsByText
 refine wpAny_bind (wpAny_bind (wpAny_setState_of hS rfl fit (wpAny_bind (wpAny_bind (wpAny_askSetting (wpAny_pure (wpAny_pure ?_)))))))
 have nd : (!w.params.followText "set-order" && (!true && decide (es.toArray.size > 1))) = false := by simp
 show wpAny _ _ (if (!w.params.followText "set-order" && (!true && decide (es.toArray.size > 1))) = true then _ else _) _ _ _
 rw [nd, if_neg (by decide)]
 refine wpAny_bind (wpAny_pure (wpAny_bind (wpAny_setEpoch_of hS rfl fit ?_)))
 refine wpAny_bind (m := newFields _ _) ?_
 unfold newFields
 refine wpAny_newObj_type ?_ (by size_fits)
 rw [<- ln] at q
 exact wpAny_pure ⟨_, rfl, "set_iterator", _, ⟨_, Heap.get?_push_size _ rfl, rfl⟩, si_next.lookup, q⟩
theorem hintS {s : Shared} {Q : Bool -> Shared -> Prop} (ty : s.TypeIs (.ref a) "set") (q : Q false s) : wpAny (model P w) A (Builtin.List.listLengthHint (.ref a)) Q E s := by
 unfold Builtin.List.listLengthHint
 refine wpAny_bind (wpAny_specialOf ty F.slot_set_len.lookup ?_)
 generalize g : ("set.__len__" : String) = name
 wp_delta
 rw [show splitId name = some ("set", "__len__") by subst g; decide +kernel]
 subst g
 refine wpAny_bind (wpAny_isInstance (T := "set") (b := true) ty (by rw [isSubtype_type]; kernel_rfl) (wpAny_ite_split (fun z => absurd z (by decide)) fun _ => ?_))
 exact wpAny_ite_split (fun _ => wpAny_bind (wpAny_typeOf ty (wpAny_pure q))) fun z => absurd (by decide +kernel) z
theorem srcS (hm : m < 32) (en : Ents (sub5 m) es) : PySem.W.KdlSrc P w "set" a a (sub5 m).length (fun i v => ∃ e, (walk5 w a ep es)[i]? = some e /\ v = e.2) (fun h => h.get? a = some (setObj es ep (tab5 (!w.params.followText "set-order") (sub5 m)))) where
 type := fun _ e => ⟨_, e, rfl⟩
 there := fun _ e => ⟨Heap.lt_size e, Heap.lt_size e⟩
 keep := fun _ _ e k => k a (.inl rfl) _ e
 notList := by decide
 notTuple := by decide
 hint := fun _ _ _ _ e q => hintS ⟨_, e, rfl⟩ q
 iter := fun _ _ hh e => ⟨_, _, fun _ _ q => iterS hm en e q, walks5 hh (Nat.ne_of_lt (Heap.lt_size e)) hm en, Heap.get?_push_size _ rfl, Heap.get?_push_of_some _ e⟩
end
def norm5 (ns : List Nat) : List Nat := (List.range 5).filter fun i => ns.contains i
theorem mask5_bit (i : Nat) : ∀ (ns : List Nat) (m : Nat), (mask5 m ns).testBit i = (m.testBit i || ns.contains i)
 | [], m => by simp [mask5]
 | n :: ns, m => by
  show (mask5 (m ||| 2 ^ n) ns).testBit i = _
  rw [mask5_bit i ns, Nat.testBit_or, Nat.testBit_two_pow, List.contains_cons, Bool.or_assoc]
  congr 2
  by_cases h : n = i
  ·simp [h]
  ·simp [h, Ne.symm h]
theorem sub5_mask (ns : List Nat) : sub5 (mask5 0 ns) = norm5 ns := by
 unfold sub5 norm5
 congr 1
 funext i
 rw [mask5_bit]
 simp
theorem sub5_up (m : Nat) : (sub5 m).Pairwise (· <= ·) := by
 unfold sub5
 exact List.Pairwise.filter _ (by decide)
theorem valsI : ∀ {vs : List Value} {is : List Int}, IntsAre vs is -> Vals (is.map V.int) vs
 | _, _, .nil => .nil
 | _, _, .cons n t h => .cons ⟨t, rfl⟩ (valsI h)
theorem ents_ints : ∀ {ls : List (Int × Value)}, (∀ e ∈ ls, ∃ t, e.2 = .int e.1 t) -> IntsAre (ls.map (·.2)) (ls.map (·.1))
 | [], _ => .nil
 | e :: ls, h => by
  obtain ⟨t, et⟩ := h e (List.mem_cons_self ..)
  rw [List.map_cons, List.map_cons, et]
  exact .cons _ _ (ents_ints fun x hx => h x (List.mem_cons_of_mem _ hx))
section
variable {P : Program} {w : World} {A : Around} {E : Value -> Shared -> Prop} {a : Addr} {m : Nat}
theorem sortedS {s : Shared} {Q : Value -> Shared -> Prop} (hh : A.handled = none) (hS : IsSet5 s.heap a (!w.params.followText "set-order") m)
  (q : ∀ (h1 h' : Heap) tk out n, Vals ((sub5 m).map nv) out -> (∀ b o, s.heap.get? b = some o -> h1.get? b = some o) -> (∀ b o, h1.get? b = some o -> h'.get? b = some o) -> h'.get? h1.objs.size = some { cls := .type "list", data := .seq out.toArray n } -> Q (.ref h1.objs.size) { s with heap := h', toks := tk }) :
  wpAny (model P w) A (call (.builtin "sorted") [.ref a]) Q E s := by
 obtain ⟨hm, es, ep, eS, en⟩ := hS
 have m5 : (sub5 m).length <= 5 := sub5_len ⟨m, hm⟩
 have ln := en.len
 have perm := walk5_perm w a ep es
 refine Calls.call_function_entry kind_sorted plain_sorted entry_sorted (args_sorted1 _) ?_
 unfold Builtin.«sorted»
 refine wpAny_bind (m := checkCount "sorted" 1 1 _) (wpAny_pure ?_)
 refine wpAny_bind (PySem.W.kdu_collect (A := A.in1) (srcS hm en) (by simpa using hh) eS (by rw [sizeLine_eq]; lia) fun h1 tk acc keep its => ?_)
 have whole : acc.toList = (walk5 w a ep es).map (·.2) := by
  refine ext_items (by rw [Array.length_toList, its.1, List.length_map, perm.length_eq]; exact ln.symm) fun i x y hx hy => ?_
  obtain ⟨e, e1, e2⟩ := its.2 i x (by rw [<- Array.getElem?_toList]; exact hx)
  rw [List.getElem?_map, e1] at hy
  cases hy
  exact e2
 have are : IntsAre acc.toList ((walk5 w a ep es).map (·.1)) := by
  rw [whole]
  refine ents_ints fun e he => ?_
  obtain ⟨n, _, e1, t, e2⟩ := en.mem (perm.mem_iff.mp he)
  exact ⟨t, by rw [e1, e2]⟩
 have al : acc.toList.length = (sub5 m).length := by rw [whole, List.length_map, perm.length_eq, ln]
 refine wpAny_bind (wpAny_newList ?_ (by rw [al, sizeLine_eq]; lia))
 have eD : (h1.push (seqObj "list" acc.toList.toArray 0)).get? h1.objs.size = some (seqObj "list" acc.toList.toArray 0) := Heap.get?_push_size _ rfl
 refine wpAny_bind (wpAny_holding (wpAny_call_entry slot_list_sort ⟨_, eD, rfl⟩ entry_list_sort (list_sort_tree eD are (by lia) fun out js o1 o2 o3 => ⟨_, rfl, ?_⟩) (args_list_sort _)))
 have js_is : js = (sub5 m).map fun (n : Nat) => (n : Int) := by
  refine List.Perm.eq_of_pairwise (le := (· <= ·)) (fun x y _ _ => Int.le_antisymm) o3 ?_ (o2.trans ?_)
  ·exact List.pairwise_map.mpr ((sub5_up m).imp fun h => by lia)
  ·rw [<- en.keys]
   exact perm.map _
 obtain ⟨n, eN⟩ := sortedHeap_at (out := out) eD
 refine wpAny_pure ⟨_, rfl, q h1 _ tk out.toList n ?_ keep (fun b o e => ?_) (by simpa using eN)⟩
 ·have z := valsI o1
  rw [js_is, List.map_map] at z
  exact z
 ·have lt := Heap.lt_size e
  rw [sortedHeap_old (Nat.ne_of_lt lt) (Nat.lt_of_lt_of_le lt (by rw [Heap.size_push]; exact Nat.le_succ _))]
  exact Heap.get?_push_of_some _ e
end
section
variable {X : Cx}
def SetO (w : World) (a : Addr) (m : Nat) : HO := .ext fun h => IsSet5 h a (!w.params.followText "set-order") m
theorem IsSet5.ok {w : World} {h : Heap} {a : Addr} {m : Nat} {P : Program} {w' : World} {H : Hp} (x : IsSet5 h a (!w.params.followText "set-order") m) : ObjOk P w' H h a (SetO w a m) := by
 obtain ⟨hm, es, ep, e, en⟩ := id x
 exact ⟨x, ⟨_, e⟩, fun h1 h2 ⟨y1, es', ep', y2, y3⟩ k => ⟨y1, es', ep', k _ y2, y3⟩⟩
theorem Inv.track {pins : List (Addr × Obj)} {σ : St} {H : Hp} {s : Shared} {D : Addr} {o : HO} (I : Inv X pins σ H s) (hD : H D = none) (ok : ObjOk X.prog X.w (upd H D o) s.heap D o)
  (h0 : X.s₀.heap.objs.size <= D) (h1 : D ≠ X.env.locals) (h2 : ∀ x c, X.env.cells.lookup x = some c -> c ≠ D) (h3 : ∀ p ∈ X.pn ++ pins, p.1 ≠ D) : Inv X pins σ (upd H D o) s := by
 have nd : ∀ b u, H b = some u -> b ≠ D := fun b u q z => by rw [z, hD] at q; cases q
 have q := I.step (h' := s.heap) (H' := upd H D o) (g' := s.gens) (t' := s.toks) (d' := s.drawn) (ch := [D]) (fun b hb => by
   have z : b = D := by simpa using hb
   subst z
   exact ⟨.inr h0, h1, h2, h3⟩)
  (fun b o _ _ _ e _ => e) (fun b o _ _ _ e _ => ⟨o.slots, e⟩) (fun b o hb _ n => by rw [upd_ne (fun z => hb (by simp [z]))]; exact n) (fun b o _ e => ⟨o, e⟩)
  (fun b xs q => by rw [upd_ne (nd b _ q)]; exact q) (fun b o u q => by rw [upd_ne (nd b _ q)]; exact q) (fun b ps q => ⟨#[], by rw [upd_ne (nd b _ q), q]; simp⟩) (fun m hm => hm) (fun b u q => ?_) I.bare
 ·exact q
 ·by_cases hb : b = D
  ·subst hb
   rw [upd_same] at q
   cases q
   exact ok
  ·rw [upd_ne hb] at q
   exact (I.hok b u q).stay (fun _ _ _ z => z) (fun c z => by rw [upd_ne (nd c _ z)]; exact z) fun c xs z => by rw [upd_ne (nd c _ z)]; exact z
theorem Inv.trackNew {pins : List (Addr × Obj)} {σ : St} {H : Hp} {s s1 : Shared} {o : HO} (I : Inv X pins σ H s) (I1 : Inv X pins σ H s1) (ok : ObjOk X.prog X.w (upd H s.heap.objs.size o) s1.heap s.heap.objs.size o) : Inv X pins σ (upd H s.heap.objs.size o) s1 := by
 obtain ⟨f0, f1, f2, f3, f4, f5⟩ := I.fpOk (b := s.heap.objs.size) (H' := H) (Nat.le_refl _) (I.hok.fresh (Nat.le_refl _))
 exact I1.track f0 ok I.sz f1 f4 f5
def rSetN (K : W.Frag) (w : World) : List V -> Hp -> VK -> Prop := fun xs H Q => ∃ p ns, xs = [.ref p] /\ SqL K H p (ns.map nv) /\ (∀ n ∈ ns, n < 5) /\ ∀ a, H a = none -> Q (.ref a) (upd H a (SetO w a (mask5 0 ns)))
theorem call_setN (hc : X.calm = true) : CallR X (.type "set") (rSetN X.K X.w) := by
 intro pins s σ H xs us Q I r h
 obtain ⟨p, ns, rfl, hl, h5, q⟩ := h
 obtain ⟨u, rfl, ru⟩ := vals1 r
 cases ru
 obtain ⟨its, rv, pl, _⟩ := I.list hl
 refine set5_call (I.ok.hd hc) pl.isList rv h5 fun h' tk z keep => ?_
 have I1 : Inv X pins σ H { s with heap := h', toks := tk } := I.kept keep
 exact ⟨.ref s.heap.objs.size, _, Inv.trackNew I I1 z.ok, rfl, q _ I.fresh⟩
def rSortS (w : World) : List V -> Hp -> VK -> Prop := fun xs H Q => ∃ a m, xs = [.ref a] /\ H a = some (SetO w a m) /\ ∀ l, H l = none -> Q (.ref l) (upd H l (.lst ((sub5 m).map nv)))
theorem call_sortS (hc : X.calm = true) : CallR X (.builtin "sorted") (rSortS X.w) := by
 intro pins s σ H xs us Q I r h
 obtain ⟨a, m, rfl, ha, q⟩ := h
 obtain ⟨u, rfl, ru⟩ := vals1 r
 cases ru
 obtain ⟨z, _, _⟩ := I.hok a _ ha
 refine sortedS (I.ok.hd hc) z fun h1 h' tk out n vo k1 k2 e => ?_
 have I1 : Inv X pins σ H { s with heap := h1, toks := tk } := I.kept k1
 have I2 : Inv X pins σ H { s with heap := h', toks := tk } := I1.kept k2
 have m5 : (sub5 m).length <= 5 := sub5_len ⟨m, z.1⟩
 have ok : ObjOk X.prog X.w (upd H h1.objs.size (.lst ((sub5 m).map nv))) h' h1.objs.size (.lst ((sub5 m).map nv)) := ⟨by rw [List.length_map, sizeLine_eq]; lia, out, n, vo, e⟩
 exact ⟨.ref h1.objs.size, _, Inv.trackNew I1 I2 ok, rfl, q _ I1.fresh⟩
end
section
variable {X : Cx}
def rAny (K : W.Frag) : List V -> Hp -> VK -> Prop := fun xs H Q => ∃ (p : Addr) (bs : List Bool), xs = [.ref p] /\ SqL K H p (bs.map V.bl) /\ Q (.bl (bs.any id)) H
theorem call_anyL (hc : X.calm = true) : CallR X (.builtin "any") (rAny X.K) := by
 intro pins s σ H xs us Q I r h
 obtain ⟨p, bs, rfl, hp, q⟩ := h
 obtain ⟨u, rfl, ru⟩ := vals1 r
 cases ru
 obtain ⟨its, rv, pl, _⟩ := I.list hp
 have hl := pl.isList
 have hlt : p < s.heap.objs.size := pl.lt
 have hlen : its.length = bs.length := by rw [<- rv.length, List.length_map]
 refine call_any_walk (wpAny_pyIter_list hl ⟨_, _, _, _, _, _, fun i => bs.getD i false, rfl, Walks.list (A := X.A.in1) (I.ok.hd hc) _ p (Nat.ne_of_lt hlt) its.toArray, ⟨⟨_, Heap.get?_push_size _ rfl, rfl, rfl⟩, hl.push _⟩, ?_, fun h' tk hk => ?_⟩)
 ·intro i v s2 Q2 E2 hv hq
  have hv' : its[i]? = some v := by simpa using hv
  have hi : i < bs.length := by rw [<- hlen]; exact (List.getElem?_eq_some_iff.mp hv').1
  obtain ⟨u2, e1, e2⟩ := rv.get (i := i) (x := .bl (bs.getD i false)) (by rw [List.getElem?_map, List.getElem?_eq_getElem hi, List.getD_eq_getElem?_getD, List.getElem?_eq_getElem hi]; rfl)
  rw [hv'] at e1
  cases e1
  cases (show v = Value.bool _ from e2)
  exact wpAny_truthy_bool hq
 ·have e : (List.range its.toArray.size).any (fun i => bs.getD i false) = bs.any id := by
   rw [List.size_toArray, hlen]
   have : bs = (List.range bs.length).map fun i => bs.getD i false := by
    refine List.ext_getElem (by simp) fun i h1 h2 => ?_
    simp [List.getD_eq_getElem?_getD, h1]
   conv => rhs; rw [this, List.any_map]
   rfl
  rw [e]
  exact ⟨.bl (bs.any id), H, I.kept fun b o z => hk b o (by simp only [List.mem_singleton]; exact Nat.ne_of_lt (Heap.lt_size z)) (Heap.get?_push_of_some _ z), rfl, q⟩
end
def drop (H : Hp) (c : Addr) : Hp := fun b => if b = c then none else H b
theorem drop_same {H : Hp} {c : Addr} : drop H c c = none := by unfold drop; rw [if_pos rfl]
theorem drop_ne {H : Hp} {b c : Addr} (h : b ≠ c) : drop H c b = H b := by unfold drop; rw [if_neg h]
theorem drop_none {H : Hp} {b c : Addr} (h : H b = none) : drop H c b = none := by
 by_cases e : b = c
 ·rw [e]; exact drop_same
 ·rw [drop_ne e]; exact h
def CellO (c m : Addr) (o : Obj) : HO := .ext fun h => h.get? c = some o /\ o.data = .cell (some (.ref m))
def CodeO (c : Addr) (q : Str) : HO := .ext fun h => h.CodeRec (.ref c) q
def LamO (f : Addr) (fd : FuncData) : HO := .ext fun h => h.get? f = some { cls := .type "function", data := .func fd }
theorem HOk.drop {P : Program} {w : World} {H : Hp} {h : Heap} {c : Addr} {φ : Heap -> Prop} (x : HOk P w H h) (hc : H c = some (.ext φ)) : HOk P w (drop H c) h := fun b o e => by
 by_cases hb : b = c
 ·rw [hb, drop_same] at e; cases e
 ·rw [drop_ne hb] at e
  refine (x b o e).stay (fun _ _ _ z => z) (fun d z => ?_) fun d xs z => ?_
  ·rw [drop_ne (fun q => by rw [q, hc] at z; cases z)]; exact z
  ·rw [drop_ne (fun q => by rw [q, hc] at z; cases z)]; exact z
theorem HOk.back {P : Program} {w : World} {H : Hp} {h : Heap} {c : Addr} {o : HO} (x : HOk P w H h) (hc : H c = none) (ok : ObjOk P w (upd H c o) h c o) : HOk P w (upd H c o) h := fun b u e => by
 by_cases hb : b = c
 ·subst hb; rw [upd_same] at e; cases e; exact ok
 ·rw [upd_ne hb] at e
  exact (x b u e).stay (fun _ _ _ z => z) (fun d z => by rw [upd_ne (ne_of_none z hc)]; exact z) fun d xs z => by rw [upd_ne (ne_of_none z hc)]; exact z
theorem cell_ok {P : Program} {w : World} {H : Hp} {h : Heap} {c m : Addr} {o : Obj} (x : h.get? c = some o) (d : o.data = .cell (some (.ref m))) : ObjOk P w H h c (CellO c m o) := ⟨⟨x, d⟩, ⟨o, x⟩, fun h1 h2 e k => ⟨k _ e.1, e.2⟩⟩
theorem lam_ok {P : Program} {w : World} {H : Hp} {h : Heap} {f : Addr} {fd : FuncData} (x : h.get? f = some { cls := .type "function", data := .func fd }) : ObjOk P w H h f (LamO f fd) := ⟨x, ⟨_, x⟩, fun h1 h2 e k => k _ e⟩
theorem code_ok {P : Program} {w : World} {H : Hp} {h : Heap} {c : Addr} {q : Str} (x : h.CodeRec (.ref c) q) : ObjOk P w H h c (CodeO c q) := by
 obtain ⟨c', o, vs, t, e1, e2, e3⟩ := id x
 cases e1
 refine ⟨x, ⟨o, e2⟩, fun h1 h2 ⟨c', o', vs', t', f1, f2, f3⟩ k => ?_⟩
 cases f1
 exact ⟨c, o', vs', t', rfl, k _ f2, f3⟩
structure LamScope (ps : List Str) (y : Str) (sc : Scope) : Prop where
 kind : sc.kind = .function
 co : sc.isCoroutine = false
 gen : sc.isGenerator = false
 nd : (ps ++ [y]).Nodup
 par : ∀ x ∈ ps, sc.names.lookup x = some .local
 fre : sc.names.lookup y = some .free
 only : ∀ z ∈ sc.names, z.2 ≠ .cell /\ (z.2 = .free -> z.1 = y)
abbrev lamFd (qual : Str) (params : Arguments) (body : Expr) (scope : Scope) (y : Str) (c : Addr) (pm cd ct : Value) : FuncData := PySem.W.kla_fn "<lambda>" qual params body scope [(y, c)] pm cd ct
def cxL (P : Program) (w : World) (K : W.Frag) (mg : Str -> Option Value) (base : Heap) (N : List Str) (qual : Str) (scope : Scope) (f : Addr) (cd : Value) (cl : List (Str × Addr)) (A : Around) (outer : List Env) (s : Shared) (H : Hp) : Cx where
 prog := P
 w := w
 K := K
 mg := mg
 base := base
 A := A.deeper (PySem.W.envX qual scope s.heap.objs.size f cd cl)
 N := N
 s₀ := s
 H₀ := H
 env := PySem.W.envX qual scope s.heap.objs.size f cd cl
 outer := outer
 stack := PySem.W.envX qual scope s.heap.objs.size f cd cl :: outer
 ex := []
 calm := true
 fn := fun _ => false
 pn := []
 xe := fun _ _ => False
theorem lookup_nodup {x : Str} {u : Value} : ∀ {l : List (Str × Value)}, (l.map (·.1)).Nodup -> (x, u) ∈ l -> l.lookup x = some u
 | (a, b) :: l, nd, h => by
  rw [List.map_cons, List.nodup_cons] at nd
  rw [List.lookup_cons]
  rcases List.mem_cons.mp h with e | e
  ·cases e
   rw [beq_self_eq_true]
  ·have ne : (x == a) = false := beq_eq_false_iff_ne.mpr fun q => nd.1 (List.mem_map.mpr ⟨(x, u), e, q⟩)
   rw [ne]
   exact lookup_nodup nd.2 e
theorem zip_lookup {ps : List Str} {us : List Value} {i : Nat} {x : Str} {u : Value} (nd : ps.Nodup) (h1 : ps[i]? = some x) (h2 : us[i]? = some u) : (ps.zip us).reverse.lookup x = some u := by
 refine lookup_nodup ?_ (List.mem_reverse.mpr (List.mem_iff_getElem?.mpr ⟨i, List.getElem?_zip_eq_some.mpr ⟨h1, h2⟩⟩))
 have sub : ∀ (ps : List Str) (us : List Value), ((ps.zip us).map (·.1)).Sublist ps := fun ps => by
  induction ps with
  | nil => intro us; simp
  | cons a ps ih =>
   intro us
   cases us with
   | nil => simp
   | cons b us => rw [List.zip_cons_cons, List.map_cons]; exact (ih us).cons₂ a
 rw [List.map_reverse]
 show List.Pairwise (· ≠ ·) _
 rw [List.pairwise_reverse]
 exact (nd.sublist (sub ps us)).imp Ne.symm
theorem lam_inv {P : Program} {w : World} {K : W.Frag} {mg : Str -> Option Value} {base : Heap} {ps : List Str} {y qual : Str} {scope : Scope} {f c m : Addr} {cd : Value} {A : Around} {outer : List Env} {s : Shared} {H : Hp} {us : List Value} {vs : List V} {h1 : Heap} {tk : Nat}
  (S : LamScope ps y scope) (hd : A.handled = none) (e0 : Env0 P w K mg base A outer s H) (hl : vs.length = ps.length) (r : Vals vs us) (hc : H c = none) (ic : s.heap.IsCell c (some (.ref m)))
  (hns : h1.Ns s.heap.objs.size (fun x => (ps.zip us).reverse.lookup x)) (sb : Heap.SameBut s.heap.objs.size (s.heap.push { cls := .type "frame", data := .dict #[] }) h1) :
  Inv (cxL P w K mg base (ps ++ [y]) qual scope f cd [(y, c)] A outer s H) [] (vs.map some ++ [some (.ref m)]) H { s with heap := h1, toks := tk } := by
 have hk : ∀ b o, s.heap.get? b = some o -> h1.get? b = some o := fun b o e => sb.extBut _ _ (Nat.ne_of_lt (Heap.lt_size e)) (Heap.get?_push_of_some _ e)
 have ic1 : h1.IsCell c (some (.ref m)) := let ⟨o, e, d⟩ := ic; ⟨o, hk _ _ e, d⟩
 have one : ∀ {x : Str} {d : Addr}, ([(y, c)] : List (Str × Addr)).lookup x = some d -> x = y /\ d = c := fun {x d} h => by
  rw [List.lookup_cons] at h
  cases q : x == y with
  | true => rw [q] at h; cases h; exact ⟨eq_of_beq q, rfl⟩
  | false => rw [q] at h; cases h
 have at_y : ([(y, c)] : List (Str × Addr)).lookup y = some c := by rw [List.lookup_cons, beq_self_eq_true]
 have noA : ∀ b : Addr, b ∉ (cxL P w K mg base (ps ++ [y]) qual scope f cd [(y, c)] A outer s H).ex := fun b z => absurd (show b ∈ ([] : List Addr) from z) (by simp)
 refine ⟨⟨e0.mod, S.kind, rfl, rfl, Nat.le_refl _, fun a b d h1 h2 => (one h1).1.trans (one h2).1.symm, fun a ha => ?_, fun a d h _ => absurd (show false = true from h) Bool.false_ne_true, fun _ => hd, Around.frames_deeper e0.frames, .inr ⟨rfl, rfl⟩, fun b z => absurd z (noA b), e0.bs, e0.bsz, fun b _ _ => noA b, fun b z => absurd z (noA b), e0.funs, e0.frf⟩,
  rfl, e0.bare, Un.kept hk, ⟨_, hns, fun i x v q1 q2 q3 => ?_⟩, fun a d h => ?_, e0.hok.fresh (Nat.le_refl _), fun a d h => ?_, fun p hp => absurd (show p ∈ ([] : List (Addr × Obj)) from hp) (by simp), e0.hok.kept hk, ?_⟩
 ·have ha' : scope.names.lookup a = some .cell ∨ scope.names.lookup a = some .free := ha
  rcases ha' with z | z
  ·exact absurd rfl (S.only _ (PySem.mem_of_lookup z)).1
  ·have e := (S.only _ (PySem.mem_of_lookup z)).2 rfl
   exact ⟨c, by rw [show a = y from e]; exact at_y⟩
 ·have q1' : (ps ++ [y])[i]? = some x := q1
  rcases Nat.lt_or_ge i ps.length with z | z
  ·rw [List.getElem?_append_left z] at q1'
   rw [List.getElem?_append_left (by rw [List.length_map]; lia), List.getElem?_map] at q2
   cases e : vs[i]? with
   | none => rw [e] at q2; cases q2
   | some a =>
    rw [e] at q2
    cases q2
    obtain ⟨u, hu, rv⟩ := r.get e
    have kx := S.par x (List.mem_of_getElem? q1')
    refine ⟨u, rv, .inl ⟨kx, ?_⟩⟩
    exact zip_lookup (S.nd.sublist (List.sublist_append_left _ _)) q1' hu
  ·rw [List.getElem?_append_right z] at q1'
   rw [List.getElem?_append_right (by rw [List.length_map]; lia), List.length_map] at q2
   have e : i - ps.length = 0 := by
    rcases Nat.eq_zero_or_pos (i - ps.length) with y0 | y0
    ·exact y0
    ·rw [List.getElem?_eq_none (by simp; lia)] at q1'; cases q1'
   rw [e] at q1'
   rw [hl, e] at q2
   cases q1'
   cases q2
   exact ⟨.ref m, rfl, .inr ⟨.inr S.fre, c, at_y, ic1⟩⟩
 ·obtain ⟨rfl, rfl⟩ := one (show ([(y, c)] : List (Str × Addr)).lookup a = some d from h)
  exact ⟨_, ic1⟩
 ·obtain ⟨rfl, rfl⟩ := one (show ([(y, c)] : List (Str × Addr)).lookup a = some d from h)
  exact hc
 ·show (vs.map some ++ [some (V.ref m)]).length = (ps ++ [y]).length
  simp [hl]
theorem lam_fn {P : Program} {w : World} {K : W.Frag} {mg : Str -> Option Value} {base : Heap} {k : Nat} {ps : List Str} {y qual : Str} {params : Arguments} {body : Expr} {scope : Scope} {f c m cc : Addr} {oc : Obj} {pm ct : Value} {sp : Sp}
  (S : LamScope ps y scope) (len : ∀ vs H Q E, sp vs H Q E -> vs.length = ps.length) (here : ∀ vs H Q E, sp vs H Q E -> H f = some (LamO f (lamFd qual params body scope y c pm (.ref cc) ct)) /\ H c = some (CellO c m oc) /\ H cc = some (CodeO cc qual))
  (hbody : ∀ (A : Around) (outer : List Env) (s : Shared) (H : Hp) (vs : List V) (Q : VK) (E : XK), Room k (A.deeper (PySem.W.envX qual scope s.heap.objs.size f (.ref cc) [(y, c)])) -> sp vs H Q E ->
   ∃ t, PE (cxL P w K mg base (ps ++ [y]) qual scope f (.ref cc) [(y, c)] A outer s (drop H c)) body t /\ t (vs.map some ++ [some (.ref m)]) (drop H c) fun v H' => H' c = none -> Q v (upd H' c (CellO c m oc))) :
  FnOk P w K mg base CX0 (k + 1) f (lamFd qual params body scope y c pm (.ref cc) ct) ps sp := by
 refine ⟨len, fun A outer s H args us vs Q E hr e0 hb r hsp => ?_⟩
 obtain ⟨hf, hc, hcc⟩ := here _ _ _ _ hsp
 have hl := len _ _ _ _ hsp
 obtain ⟨ef, _, _⟩ := e0.hok f _ hf
 obtain ⟨ecell, _, _⟩ := e0.hok c _ hc
 obtain ⟨ecode, _, _⟩ := e0.hok cc _ hcc
 have e1 : Env0 P w K mg base A outer s (drop H c) := ⟨e0.frames, e0.mod, fun b o e => ⟨(e0.bs b o e).1, drop_none (e0.bs b o e).2⟩, e0.bsz, e0.funs, fun b hb => drop_none (e0.frf b hb), e0.hok.drop hc, e0.bare⟩
 have lim : s.heap.NoLimit := e0.mod.nolimit.keeps fun b o e => (e0.bs b o e).1
 refine PySem.W.kla_callFunE hr.depth ef rfl S.co S.gen rfl ecode (hb _ _ _ _ ?_)
 refine wpAny_newFunctionEnv (fun x hx => (S.only x hx).1) (fun x hx => S.par _ (List.of_mem_zip hx).1) (fun h1 hns sb => ?_) S.kind
 have hk : ∀ b o, s.heap.get? b = some o -> h1.get? b = some o := fun b o e => sb.extBut _ _ (Nat.ne_of_lt (Heap.lt_size e)) (Heap.get?_push_of_some _ e)
 refine ⟨lim.keeps hk, PySem.W.kla_codeExpr ?_⟩
 obtain ⟨t, ht, hq⟩ := hbody A outer s H vs Q E (hr.deeper _) hsp
 have I : Inv (cxL P w K mg base (ps ++ [y]) qual scope f (.ref cc) [(y, c)] A outer s (drop H c)) [] (vs.map some ++ [some (.ref m)]) (drop H c) { s with heap := h1, toks := s.toks + (ps.zip us).length } := lam_inv S hr.hd e1 hl r drop_same ⟨oc, ecell⟩ hns sb
 refine wpAny_mono (ht [] _ _ _ _ I hq) (fun v s' ⟨x, H', J, rx, q⟩ => ?_) fun e s' z => False.elim z
 have Hc : H' c = none := J.freeC y c (by show ([(y, c)] : List (Str × Addr)).lookup y = some c; rw [List.lookup_cons, beq_self_eq_true])
 have ec' : s'.heap.get? c = some oc := J.base.keep c oc ecell.1 drop_same (fun z => ?_) (by simp [cxL])
 ·refine ⟨x, upd H' c (CellO c m oc), J.os, J.bare, ⟨fun b o e n hb _ => ?_, fun b o e n hb _ => ?_, fun b o e n _ => ?_, fun b o e _ => J.base.there b o e (by simp [cxL]), fun b xs e => ?_, fun b o u e => ?_, fun b ps e => ?_⟩, J.hok.back Hc (cell_ok ec' ecell.2), rx, q Hc⟩
  ·exact J.base.keep b o e (drop_none n) hb (by simp [cxL])
  ·exact J.base.slot b o e (drop_none n) hb (by simp [cxL])
  ·have nb : b ≠ c := fun z => by rw [z, hc] at n; cases n
   rw [upd_ne nb]
   exact J.base.free b o e (drop_none n) (by simp [cxL])
  ·have nb : b ≠ c := fun z => by rw [z, hc] at e; cases e
   rw [upd_ne nb]
   exact J.base.tups b xs (by show drop H c b = _; rw [drop_ne nb]; exact e)
  ·have nb : b ≠ c := fun z => by rw [z, hc] at e; cases e
   rw [upd_ne nb]
   exact J.base.frzs b o u (by show drop H c b = _; rw [drop_ne nb]; exact e)
  ·have nb : b ≠ c := fun z => by rw [z, hc] at e; cases e
   rw [upd_ne nb]
   exact J.base.tbls b ps (by show drop H c b = _; rw [drop_ne nb]; exact e)
 ·have := e0.frf c z
  rw [hc] at this
  cases this
section
variable {X : Cx}
def tCallV (X : Cx) (i : Nat) (t : TA) : TE := fun σ H Q => tVar i σ H fun v H0 => ∃ st fd, v = .ref st /\ H0 st = some (LamO st fd) /\ t σ H0 fun vs H1 => H1 st = some (LamO st fd) /\ ∃ k ps sp, FnOk X.prog X.w X.K X.mg X.base CX0 k st fd ps sp /\ Room k X.A /\ Binds X.K fd ps [] /\ sp vs H1 Q E0
theorem lam_at {pins : List (Addr × Obj)} {σ : St} {H : Hp} {s : Shared} {st : Addr} {fd : FuncData} (I : Inv X pins σ H s) (h : H st = some (LamO st fd)) : PySem.W.FnAt st s.heap := by
 obtain ⟨e, _, _⟩ := I.hok st _ h
 exact ⟨_, _, _, _, e⟩
theorem pe_callV (i : Nat) {x : Str} {e : Expr} {es : List Expr} {t : TA} {p pos : Pos} (hv : PE X (.Name x p) (tVar i)) (ha : PA X (e :: es) t) (he : starEach (e :: es) X.env = (false, eval e X.env) :: starEach es X.env := by rfl) (hpl : (backTo pos (starEach es X.env)).any (·.1) = false := by rfl) :
  PE X (.Call (.Name x p) (e :: es) [] pos) (tCallV X i t) := by
 intro pins s σ H Q I h
 refine wpAny_Call_Name_kw (thn (hv pins s σ H _ I h) fun u s1 ⟨v, H0, I0, rv, st, fd, ev, e0, q⟩ => ?_)
 subst ev
 cases rv
 refine PySem.W.callWith_F (lam_at I0 e0) (thn (ha pos pins s1 σ H0 _ I0 q) fun us s2 zq => ?_) he hpl
 obtain ⟨vs, H1, I1, r, e1, k, ps, sp, F, hr, hb, q2⟩ := zq
 refine ⟨lam_at I1 e1, ?_⟩
 have z := run_fn (dvs := []) (ds := []) F hr hb .nil pass0 I1 r (by rw [List.append_nil]; exact q2)
 exact z
def tCallC (sp : Sp) (dvs : List V) (j : Nat) (c : Addr) (t : TA) : TE := fun σ H Q => t σ H fun vs H1 => ∃ m, σ[j]? = some (some (.ref m)) /\ ∀ oc, H1 c = none -> sp (vs ++ dvs) (upd H1 c (CellO c m oc)) (fun r H2 => H2 c = some (CellO c m oc) /\ Q r (drop H2 c)) E0
theorem Inv.afterC {pins : List (Addr × Obj)} {σ : St} {H : Hp} {s s' : Shared} {c m : Addr} {oc : Obj} {Q : VK} {u : Value} (I : Inv X pins σ H s) (hc : H c = none) (ec : s.heap.get? c = some oc)
  (h : CE X.stack X.prog X.w (upd H c (CellO c m oc)) s (fun r H2 => H2 c = some (CellO c m oc) /\ Q r (drop H2 c)) u s') : EP X pins σ Q u s' := by
 obtain ⟨v, H2, os, bare, un, hok, rv, e2, q⟩ := h
 obtain ⟨⟨ec', _⟩, _, _⟩ := hok c _ e2
 refine I.after ⟨v, drop H2 c, os, bare, ⟨fun b o e n hb he => ?_, fun b o e n hb he => ?_, fun b o e n he => ?_, un.there, fun b xs e => ?_, fun b o w e => ?_, fun b ps e => ?_⟩, hok.drop e2, rv, q⟩
 ·by_cases z : b = c
  ·subst z
   rw [ec] at e
   cases e
   exact ec'
  ·exact un.keep b o e (by rw [upd_ne z]; exact n) hb he
 ·by_cases z : b = c
  ·subst z
   rw [ec] at e
   cases e
   exact ⟨oc.slots, ec'⟩
  ·exact un.slot b o e (by rw [upd_ne z]; exact n) hb he
 ·by_cases z : b = c
  ·rw [z]; exact drop_same
  ·exact drop_none (un.free b o e (by rw [upd_ne z]; exact n) he)
 ·have z : b ≠ c := fun z => by rw [z, hc] at e; cases e
  rw [drop_ne z]
  exact un.tups b xs (by rw [upd_ne z]; exact e)
 ·have z : b ≠ c := fun z => by rw [z, hc] at e; cases e
  rw [drop_ne z]
  exact un.frzs b o w (by rw [upd_ne z]; exact e)
 ·have z : b ≠ c := fun z => by rw [z, hc] at e; cases e
  rw [drop_ne z]
  exact un.tbls b ps (by rw [upd_ne z]; exact e)
theorem pe_callC {x : Str} {k j : Nat} {ps : List Str} {sp : Sp} {f c : Addr} {fd : FuncData} {dvs : List V} {ds : List Value} {y : Str} {e : Expr} {es : List Expr} {t : TA} {p pos : Pos} (F : FnOk X.prog X.w X.K X.mg X.base CX0 k f fd ps sp) (hr : Room k X.A) (hg : Gl X x) (hm : X.mg x = some (.ref f))
  (hk : PySem.W.keepIn X.K (.ref f) = true) (hb : Binds X.K fd ps ds) (hd : Vals dvs ds) (hN : X.N[j]? = some y) (hc : X.env.cells.lookup y = some c) (hkd : X.env.scope.names.lookup y = some .cell) (hfn : X.fn y = true) (ha : PA X (e :: es) t)
  (hdb : (x == ("__debug__" : Str)) = false := by decide) (he : starEach (e :: es) X.env = (false, eval e X.env) :: starEach es X.env := by rfl) (hpl : (backTo pos (starEach es X.env)).any (·.1) = false := by rfl) :
  PE X (.Call (.Name x p) (e :: es) [] pos) (tCallC sp dvs j c t) := by
 intro pins s σ H Q I h
 refine wpAny_Call_Name_kw (ld_glob I hg hm ?_ hdb)
 refine PySem.W.callWith_K (h₀ := X.base) I.ok.mod.kin hk (thn (ha pos pins s σ H _ I h) fun us s1 ⟨vs, H1, I1, r, m, hj, q⟩ => ⟨I1.kIn, ?_⟩) he hpl
 have hc0 : H1 c = none := I1.freeC y c hc
 obtain ⟨mm, hn, look⟩ := I1.loc
 obtain ⟨u, ru, lk⟩ := look j y (.ref m) hN hj (.inr (.inl hkd))
 cases ru
 obtain ⟨oc, ec, dc⟩ : s1.heap.IsCell c (some (.ref m)) := by
  rcases lk with ⟨z, _⟩ | ⟨_, c', ec', ic⟩
  ·have z' : X.env.scope.names.lookup y = some .local := z
   rw [hkd] at z'
   cases z'
  ·rw [hc] at ec'
   cases ec'
   exact ic
 have q1 := q oc hc0
 have r2 : Vals (vs ++ dvs) (us ++ ds) := r.append hd
 have hl : (us ++ ds).length = ps.length := by rw [<- r2.length]; exact F.len _ _ _ _ q1
 have e1 : Env0 X.prog X.w X.K X.mg X.base X.A X.stack s1 (upd H1 c (CellO c m oc)) := by
  have e0 := I1.env0
  have young := I1.ok.cab y c hfn hc
  have nb : ∀ b o, X.base.get? b = some o -> b ≠ c := fun b o e z => by
   subst z
   exact absurd (Nat.lt_of_lt_of_le (Heap.lt_size e) (Nat.le_trans I1.ok.bsz young)) (Nat.lt_irrefl _)
  have nf : ∀ b ∈ frs X.stack, b ≠ c := fun b hb z => by
   subst z
   rcases List.mem_cons.mp (I1.stkSub b hb) with w | w
   ·exact I1.cne y b hc w
   ·obtain ⟨_, o, ho, _⟩ := I1.ok.funs.mem w
    exact absurd (Nat.lt_of_lt_of_le (Heap.lt_size ho) young) (Nat.lt_irrefl _)
  exact ⟨e0.frames, e0.mod, fun b o e => ⟨(e0.bs b o e).1, by rw [upd_ne (nb b o e)]; exact (e0.bs b o e).2⟩, e0.bsz, e0.funs, fun b hb => by rw [upd_ne (nf b hb)]; exact e0.frf b hb, e0.hok.back hc0 (cell_ok ec dc), e0.bare⟩
 refine wpAny_call (codeAny_mono (F.run X.A X.stack s1 _ ⟨us, []⟩ (us ++ ds) (vs ++ dvs) _ E0 hr e1 (hb s1 us I1.kIn hl) r2 q1) fun r s' hq => ?_)
 cases r with
 | error e => exact hq.elim
 | ok fl =>
  cases fl with
  | ret u => exact I1.afterC hc0 ec hq
  | next => exact False.elim hq
  | brk => exact False.elim hq
  | cont => exact False.elim hq
end
section
variable {X : Cx}
def BMain (mg : Str -> Option Value) (h : Heap) : Prop := ∃ bm o, mg "__builtins__" = some (.ref bm) /\ bm ≠ builtinsNs /\ h.get? bm = some o /\ o.cls = .type "module" /\ o.dict = some builtinsNs /\ o.data = .plain
abbrev triple (pos : Pos) (cc : Addr) : Array Value := #[rawInt pos.line, rawInt pos.col, .ref cc]
def tLam (P : Addr) (qual : Str) (params : Arguments) (body : Expr) (scope : Scope) (y : Str) (c : Addr) (pm : Value) (pos : Pos) : TE := fun _ H Q =>
 (H P = some (.tbl #[]) /\ ∀ fl cc ct, H fl = none -> H cc = none -> fl ≠ cc -> Q (.ref fl) (upd (upd (upd H P (.tbl (triple pos cc))) cc (CodeO cc qual)) fl (LamO fl (lamFd qual params body scope y c pm (.ref cc) ct)))) ∨
 ∃ cc, H P = some (.tbl (triple pos cc)) /\ H cc = some (CodeO cc qual) /\ ∀ fl ct, H fl = none -> Q (.ref fl) (upd H fl (LamO fl (lamFd qual params body scope y c pm (.ref cc) ct)))
theorem pe_lam {P cd c : Addr} {qual y : Str} {params : Arguments} {body : Expr} {scope : Scope} {pos : Pos} (hcd : X.env.code = .ref cd) (C : PySem.W.CodeHd X.base cd P) (bm : BMain X.mg X.base) (hcl : ∀ pins σ H s, Inv X pins σ H s -> closureFor scope X.env = pure [(y, c)])
  (hdf : defaultsOf params X.env = ([], [])) (hq : X.env.qual ++ "<lambda>" = qual) : PE X (.Lambda params body scope pos) (tLam P qual params body scope y c ((X.mg "__name__").getD .none) pos) := by
 intro pins s σ H Q I h
 rw [arm_eval_Lambda, hdf, hq]
 have C' : PySem.W.CodeHd s.heap cd P := C.keeps I.bk
 have hg : s.heap.Ns mainGlobals X.mg := I.mod.glob.keeps I.bk
 refine wpAny_bind (m := evalAll []) (wpAny_pure (wpAny_bind (m := holding _ (evalAllOpt [])) (wpAny_holding (wpAny_pure ?_))))
 have track : ∀ ps, H P = some (.tbl ps) -> s.heap.get? P = some (PySem.W.tabObj ps) /\ mainGlobals ≠ P /\ s.heap.BuiltinsAt X.mg P := fun ps e => by
  have eP : s.heap.get? P = some (PySem.W.tabObj ps) := I.hok P _ e
  have ng : mainGlobals ≠ P := fun z => by
   obtain ⟨o, es, ep, e1, _⟩ := I.mod.glob
   have := (I.bs _ _ e1).2
   rw [z, e] at this
   cases this
  obtain ⟨b, o, b1, b2, b3, b4, b5, b6⟩ := bm
  refine ⟨eP, ng, b, o, b1, b2, fun z => ?_, fun z => ?_, I.bk _ _ b3, b4, b5, b6⟩
  ·obtain ⟨o', es, ep, e1, d1, _⟩ := I.mod.glob
   rw [z, e1] at b3
   cases b3
   rw [d1] at b6
   cases b6
  ·have := (I.bs _ _ b3).2
   rw [z, e] at this
   cases this
 rcases h with ⟨e, q⟩ | ⟨cc, e, ecc, q⟩
 ·obtain ⟨eP, ng, hb⟩ := track _ e
  refine PySem.W.kla_makeFunction (hcl pins σ H s I) I.ok.glob hg hcd C' eP (by trivial) rfl ng hb fun cc ct h' tk hx hge hlt hrec htb => ?_
  have hcc : H cc = none := I.hok.fresh hge
  have hfl : H h'.objs.size = none := I.hok.fresh (Nat.le_trans hge (Nat.le_of_lt hlt))
  have nPc : P ≠ cc := ne_of_none e hcc
  have nPf : P ≠ h'.objs.size := ne_of_none e hfl
  have nfc : h'.objs.size ≠ cc := Nat.ne_of_gt hlt
  generalize eo : PySem.W.kla_obj "<lambda>" qual params body scope [(y, c)] ((X.mg "__name__").getD .none) cc ct = ob
  have old : ∀ b u, H b = some u -> b ≠ cc /\ b ≠ h'.objs.size := fun b u z => ⟨ne_of_none z hcc, ne_of_none z hfl⟩
  have far : ∀ b o, s.heap.get? b = some o -> b ≠ cc /\ b ≠ h'.objs.size := fun b o z => ⟨Nat.ne_of_lt (Nat.lt_of_lt_of_le (Heap.lt_size z) hge), Nat.ne_of_lt (Nat.lt_of_lt_of_le (Heap.lt_size z) (Nat.le_trans hge (Nat.le_of_lt hlt)))⟩
  have kp : ∀ b o, b ≠ P -> s.heap.get? b = some o -> (h'.push ob).get? b = some o := fun b o n z => Heap.get?_push_of_some _ (hx b o n z)
  have at3 : ∀ b, b ≠ P -> b ≠ cc -> b ≠ h'.objs.size -> upd (upd (upd H P (.tbl (triple pos cc))) cc (CodeO cc qual)) h'.objs.size (LamO h'.objs.size (lamFd qual params body scope y c ((X.mg "__name__").getD .none) (.ref cc) ct)) b = H b := fun b n1 n2 n3 => by rw [upd_ne n3, upd_ne n2, upd_ne n1]
  have atP : upd (upd (upd H P (.tbl (triple pos cc))) cc (CodeO cc qual)) h'.objs.size (LamO h'.objs.size (lamFd qual params body scope y c ((X.mg "__name__").getD .none) (.ref cc) ct)) P = some (.tbl (triple pos cc)) := by rw [upd_ne nPf, upd_ne nPc, upd_same]
  have tP : (h'.push ob).get? P = some (PySem.W.tabObj (triple pos cc)) := by
   refine Heap.get?_push_of_some _ ?_
   rw [htb]
   rfl
  refine ⟨.ref h'.objs.size, _, ?_, rfl, q h'.objs.size cc ct hfl hcc nfc⟩
  refine I.step (ch := []) (fun _ z => nomatch z) (fun b o _ _ _ z n => kp b o (fun w => by rw [w, e] at n; cases n) z) (fun b o _ _ _ z n => ⟨o.slots, kp b o (fun w => by rw [w, e] at n; cases n) z⟩)
   (fun b o _ z n => ?_) (fun b o _ z => ?_) (fun b xs z => ?_) (fun b o u z => ?_) (fun b ps z => ?_) (fun m hm => ?_) (fun b u z => ?_) I.bare
  ·rw [at3 b (fun w => by rw [w, e] at n; cases n) (far b o z).1 (far b o z).2]; exact n
  ·by_cases w : b = P
   ·rw [w]; exact ⟨_, tP⟩
   ·exact ⟨o, kp b o w z⟩
  ·rw [at3 b (fun w => by rw [w, e] at z; cases z) (old b _ z).1 (old b _ z).2]; exact z
  ·rw [at3 b (fun w => by rw [w, e] at z; cases z) (old b _ z).1 (old b _ z).2]; exact z
  ·by_cases w : b = P
   ·subst w
    rw [e] at z
    cases z
    exact ⟨triple pos cc, by rw [atP]; rfl⟩
   ·exact ⟨#[], by rw [at3 b w (old b _ z).1 (old b _ z).2, z]; simp⟩
  ·exact hm.at' fun o z => kp _ o (fun w => by have := I.free; rw [w, e] at this; cases this) z
  ·by_cases w3 : b = h'.objs.size
   ·rw [w3, upd_same] at z
    cases z
    rw [w3]
    exact lam_ok (by rw [<- eo]; exact Heap.get?_push_size _ rfl)
   ·by_cases w2 : b = cc
    ·rw [w2, upd_ne nfc.symm, upd_same] at z
     cases z
     rw [w2]
     exact code_ok (hrec.push _)
    ·by_cases w1 : b = P
     ·rw [w1, atP] at z
      cases z
      rw [w1]
      exact tP
     ·rw [at3 b w1 w2 w3] at z
      refine (I.hok b u z).stay (fun d o hd y => kp d o (fun w => ?_) y) (fun d y => ?_) fun d xs y => ?_
      ·rcases hd with v | v
       ·exact w1 (v.symm.trans w)
       ·rw [w, e] at v; cases v
      ·rw [at3 d (fun w => by rw [w, e] at y; cases y) (old d _ y).1 (old d _ y).2]; exact y
      ·rw [at3 d (fun w => by rw [w, e] at y; cases y) (old d _ y).1 (old d _ y).2]; exact y
 ·obtain ⟨eP, ng, hb⟩ := track _ e
  have found : codeAmong pos (triple pos cc).toList = some (.ref cc) := by
   show (if ((pos.line : Int) == (pos.line : Int) && (pos.col : Int) == (pos.col : Int)) = true then _ else _) = _
   rw [if_pos (by simp)]
  refine PySem.W.kla_makeFunctionHit (hcl pins σ H s I) I.ok.glob hg hcd C' eP (by trivial) found hb fun ct h' tk keep sz => ?_
  have I1 : Inv X pins σ H { s with heap := h', toks := tk } := I.kept keep
  have I2 : Inv X pins σ H { s with heap := h'.push { cls := .type "function", data := .func (lamFd qual params body scope y c ((X.mg "__name__").getD .none) (.ref cc) ct) }, toks := tk } := I1.kept fun b o z => Heap.get?_push_of_some _ z
  have ok : ObjOk X.prog X.w (upd H h'.objs.size (LamO h'.objs.size (lamFd qual params body scope y c ((X.mg "__name__").getD .none) (.ref cc) ct))) (h'.push { cls := .type "function", data := .func (lamFd qual params body scope y c ((X.mg "__name__").getD .none) (.ref cc) ct) }) h'.objs.size (LamO h'.objs.size (lamFd qual params body scope y c ((X.mg "__name__").getD .none) (.ref cc) ct)) := lam_ok (Heap.get?_push_size _ rfl)
  exact ⟨.ref h'.objs.size, _, Inv.trackNew I1 I2 ok, rfl, q _ ct I1.fresh⟩
end
def hpT (K : W.Frag) (tabs : List Addr) (a : Addr) (o : Obj) (ns : List Int) : Hp := fun b => if b ∈ tabs then some (.tbl #[]) else if b = a /\ K.lookup a = none then some (.frz o (.lst (ns.map V.int))) else none
theorem law_callT {P : Program} {w : World} {K : W.Frag} {mg mb : Str -> Option Value} {k : Nat} {fa a : Addr} {fd : FuncData} {x : Str} {sp : Sp} {s₁ : Shared} {vs : List Value} {ns : List Int} {tabs : List Addr}
  (KX : K.In s₁.heap) (hns : s₁.heap.Ns mainGlobals mg) (hb : s₁.heap.Ns builtinsNs mb) (hbb : ∀ x : Str, x ≠ "__name__" -> mb x = bootBuiltins x) (hlim : s₁.heap.NoLimit) (hg : s₁.gens = #[]) (hbm : BMain mg s₁.heap)
  (ha : s₁.heap.get? a = some { cls := .type "list", data := .seq vs.toArray }) (hi : IntsAre vs ns) (hl : ns.length <= sizeLine) (hr : Room k callerA) (hT : ∀ q ∈ tabs, K.lookup q = none /\ ∃ c, s₁.heap.TableAt c q #[])
  (F : ∀ base : Heap, K.In base -> base.Ns mainGlobals mg -> BMain mg base -> FnOk P w K mg base CX0 k fa fd [x] sp) (hbind : ∀ (s : Shared) (u : Value), BindsTo s fd ⟨[u], []⟩ [(x, u)])
  (hsp : ∀ H : Hp, (∀ q ∈ tabs, H q = some (.tbl #[])) -> SqL K H a (ns.map V.int) -> sp [.ref a] H (fun v _ => v = .bl true) fun _ _ _ => False) :
  codeAny (model P w) callerA (.call (.ref fa) ⟨[.ref a], []⟩) (fun r s' => r = .ok (.ret (.bool true)) /\ OldK s₁.heap s'.heap /\ s'.os = s₁.os /\ AllBare s'.gens) s₁ := by
 have rv := vals_ints hi
 have lenV := hi.length
 have tabO : ∀ q ∈ tabs, s₁.heap.get? q = some (PySem.W.tabObj #[]) := fun q hq => let ⟨_, c, t⟩ := hT q hq; t.2
 have na : a ∉ tabs := fun hq => by
  have := tabO a hq
  rw [ha] at this
  cases this
 generalize eH : hpT K tabs a { cls := .type "list", data := .seq vs.toArray } ns = H
 have inT : ∀ q ∈ tabs, H q = some (.tbl #[]) := fun q hq => by rw [<- eH]; exact if_pos hq
 have outT : ∀ b, b ∉ tabs -> H b = if b = a /\ K.lookup a = none then some (.frz { cls := .type "list", data := .seq vs.toArray } (.lst (ns.map V.int))) else none := fun b hb => by rw [<- eH]; exact if_neg hb
 have what : ∀ b u, H b = some u -> (b ∈ tabs /\ u = .tbl #[]) ∨ (b = a /\ K.lookup a = none /\ u = .frz { cls := .type "list", data := .seq vs.toArray } (.lst (ns.map V.int))) := fun b u e => by
  by_cases hb : b ∈ tabs
  ·rw [inT b hb] at e
   cases e
   exact .inl ⟨hb, rfl⟩
  ·rw [outT b hb] at e
   by_cases h : b = a /\ K.lookup a = none
   ·rw [if_pos h] at e
    cases e
    exact .inr ⟨h.1, h.2, rfl⟩
   ·rw [if_neg h] at e
    cases e
 have hok : HOk P w H s₁.heap := fun b u e => by
  rcases what b u e with ⟨hb, rfl⟩ | ⟨rfl, _, rfl⟩
  ·exact tabO b hb
  ·exact ⟨ha, by rw [List.length_map]; exact hl, vs, _, rv, ha⟩
 have hS : SqL K H a (ns.map V.int) := by
  cases hk : K.lookup a with
  | some o =>
   have e := KX a o hk
   rw [ha] at e
   cases e
   exact .inr ⟨_, vs.toArray, _, hk, rfl, rfl, rfl, by rw [List.size_toArray, lenV]; exact hl, by simpa using rv⟩
  | none => exact .inl (.inr ⟨{ cls := .type "list", data := .seq vs.toArray }, by rw [outT a na, if_pos ⟨rfl, hk⟩]⟩)
 have free : ∀ {b : Addr} {o : Obj}, s₁.heap.get? b = some o -> o.cls ≠ .none -> (∀ its n, o.data ≠ .seq its n) -> H b = none := fun {b o} e hc hd => by
  cases q : H b with
  | none => rfl
  | some u =>
   rcases what b u q with ⟨hb, _⟩ | ⟨rfl, _, _⟩
   ·rw [tabO b hb] at e
    cases e
    exact absurd rfl hc
   ·rw [ha] at e
    cases e
    exact absurd rfl (hd _ _)
 have nsK : ∀ {b : Addr} {m : Str -> Option Value}, s₁.heap.Ns b m -> (hidT s₁.heap H).Ns b m := fun {b m} ⟨o, es, ep, e, d, r⟩ => by
  refine ⟨o, es, ep, hidT_get e ?_, d, r⟩
  cases q : H b with
  | none => rfl
  | some u =>
   rcases what b u q with ⟨hb, _⟩ | ⟨rfl, _, _⟩
   ·rw [tabO b hb] at e
    cases e
    cases d
   ·rw [ha] at e
    cases e
    cases d
 have hKb : K.In (hidT s₁.heap H) := fun b o e => hidT_get (KX b o e) (by
  cases q : H b with
  | none => rfl
  | some u =>
   rcases what b u q with ⟨hb, _⟩ | ⟨rfl, hk, _⟩
   ·rw [(hT b hb).1] at e
    cases e
   ·rw [hk] at e
    cases e)
 have hBb : BMain mg (hidT s₁.heap H) := by
  obtain ⟨bm, o, b1, b2, b3, b4, b5, b6⟩ := hbm
  exact ⟨bm, o, b1, b2, hidT_get b3 (free b3 (by rw [b4]; nofun) (fun its n z => by rw [b6] at z; cases z)), b4, b5, b6⟩
 have hM : Mod K mg (hidT s₁.heap H) := ⟨hKb, nsK hns, ⟨mb, nsK hb, hbb⟩, let ⟨mc, h1, h2⟩ := hlim; ⟨mc, nsK h1, h2⟩⟩
 have e0 : Env0 P w K mg (hidT s₁.heap H) callerA [] s₁ H := ⟨rfl, hM, fun b o e => of_hidT e, Nat.le_of_eq (hidT_size _ _), trivial, fun b hb => absurd (show b ∈ ([] : List Addr) from hb) (by simp), hok, .of_eq hg⟩
 refine codeAny_mono ((F _ hKb (nsK hns) hBb).run callerA [] s₁ H ⟨[.ref a], []⟩ [.ref a] [.ref a] _ _ hr e0 (hbind s₁ (.ref a)) (.cons rfl .nil) (hsp H inT hS)) fun r s' h => ?_
 cases r with
 | error e => exact h.elim
 | ok fl =>
  cases fl with
  | next => exact False.elim h
  | brk => exact False.elim h
  | cont => exact False.elim h
  | ret u =>
   obtain ⟨v, H', os, bare, un, hok', r', q⟩ := h
   have q' : v = .bl true := q
   subst q'
   obtain rfl : u = Value.bool true := r'
   refine ⟨rfl, ⟨fun b o e => ?_, fun b o e => un.there b o e (by simp)⟩, os, bare⟩
   cases z : H b with
   | none => exact .inl (un.keep b o e z (by intro y; exact absurd (show b ∈ ([] : List Addr) from y) (by simp)) (by simp))
   | some u =>
    rcases what b u z with ⟨hb, rfl⟩ | ⟨rfl, _, rfl⟩
    ·obtain ⟨more, z2⟩ := un.tbls b _ z
     have e2 : s'.heap.get? b = some (PySem.W.tabObj (#[] ++ more)) := hok' b _ z2
     rw [tabO b hb] at e
     cases e
     obtain ⟨_, c, t⟩ := hT b hb
     exact .inr (.inl ⟨t.isCodeTable, rfl, #[], more, rfl, e2⟩)
    ·obtain ⟨e2, _⟩ := hok' b _ (un.frzs b _ _ z)
     rw [ha] at e
     cases e
     exact .inl e2
theorem walk_ofT {l : PySem.W.OpenLaw} {n k : Nat} {q : Program} {loose : List Str} {XP : (Str -> Option Value) -> Heap -> Prop} {YP : World -> Heap -> Prop} {d : DefRec} {K : Params -> W.Frag} {sp : World -> Sp} {x : Str} {tabs : List (Str × Addr)}
  (hn : l.most = some n) (hn2 : n <= sizeLine) (hdf : d.params.defaults = []) (hr : Room k callerA) (hY : ∀ (w : World) (h : Heap), YP w h -> (K w.params).In h)
  (hT : ∀ w : World, ∀ t ∈ tabs, (K w.params).lookup t.2 = none /\ (∃ c, PySem.W.tabIn (K w.params) t.1 = some (c, t.2)) /\ ∃ e, (recsOf q).find? (fun r => r.name == t.1) = some e)
  (F : ∀ (w : World) (mg : Str -> Option Value) (fa : Addr) (h : Heap), (K w.params).In h -> h.Ns mainGlobals mg -> mg d.name = some (.ref fa) ->
   ∃ fd : FuncData, (∀ (s : Shared) (u : Value), BindsTo s fd ⟨[u], []⟩ [(x, u)]) /\ ∀ base : Heap, (K w.params).In base -> base.Ns mainGlobals mg -> BMain mg base -> FnOk l.prog w (K w.params) mg base CX0 k fa fd [x] (sp w))
  (hsp : ∀ (w : World) (H : Hp) (a : Addr) (ns : List Int), ns.length <= n -> (∀ t ∈ tabs, H t.2 = some (.tbl #[])) -> SqL (K w.params) H a (ns.map V.int) -> sp w [.ref a] H (fun v _ => v = .bl true) fun _ _ _ => False) :
  PySem.W.WalkO q loose XP YP l.row.toRowW d [] (fun f vs => PySem.call f vs) := by
 refine Att.attach_call hn hdf fun w s₀ s₁ mg mb fa o pm cd doc a vs ns G Y ho hd hcd hmg hobj hints hlen hg => ?_
 have KX := hY w _ Y
 obtain ⟨fd, hb, hF⟩ := F w mg fa _ KX G.T.g hmg
 refine law_callT (tabs := tabs.map (·.2)) KX G.T.g G.T.b G.T.builtins G.T.nolimit hg G.T.bmain hobj hints (Nat.le_trans hlen hn2) hr (fun q hq => ?_) hF hb (fun H hH hS => hsp w H a ns hlen (fun t ht => hH _ (List.mem_map_of_mem ht)) hS)
 obtain ⟨t, ht, rfl⟩ := List.mem_map.mp hq
 obtain ⟨h1, ⟨c, h2⟩, e, h3⟩ := hT w t ht
 obtain ⟨C, eP⟩ := PySem.W.tab_of G.T KX h3 h2
 exact ⟨h1, c, C.tab eP⟩
def sl (u v : List Nat) : Prop := u.length < v.length ∨ (u.length = v.length /\ ltl u v = true)
theorem ltl_cons_ne {a b : Nat} {xs ys : List Nat} (h : a ≠ b) : ltl (a :: xs) (b :: ys) = decide (a < b) := by
 unfold ltl
 rw [ltlO, if_neg h]
 rfl
theorem ltl_cons {a : Nat} {xs ys : List Nat} : ltl (a :: xs) (a :: ys) = ltl xs ys := by
 unfold ltl
 rw [ltlO, if_pos rfl]
 cases ltlO xs ys with
 | none => simp
 | some b => rfl
theorem ltl_trans : ∀ {xs ys zs : List Nat}, xs.length = ys.length -> ys.length = zs.length -> ltl xs ys = true -> ltl ys zs = true -> ltl xs zs = true
 | [], [], _, _, _, h, _ => by rw [ltl_irr] at h; cases h
 | [], _ :: _, _, h, _, _, _ => by simp at h
 | _ :: _, [], _, h, _, _, _ => by simp at h
 | _ :: _, _ :: _, [], _, h, _, _ => by simp at h
 | a :: xs, b :: ys, c :: zs, h1, h2, h3, h4 => by
  by_cases ab : a = b
  ·subst ab
   rw [ltl_cons] at h3
   by_cases bc : a = c
   ·subst bc
    rw [ltl_cons] at h4 ⊢
    exact ltl_trans (by simpa using h1) (by simpa using h2) h3 h4
   ·rw [ltl_cons_ne bc] at h4 ⊢
    exact h4
  ·rw [ltl_cons_ne ab] at h3
   have h3' : a < b := of_decide_eq_true h3
   by_cases bc : b = c
   ·subst bc
    rw [ltl_cons_ne ab]
    exact h3
   ·rw [ltl_cons_ne bc] at h4
    have h4' : b < c := of_decide_eq_true h4
    rw [ltl_cons_ne (by lia)]
    exact decide_eq_true (by lia)
theorem ltl_behind : ∀ {xs ys us vs : List Nat}, xs.length = ys.length -> ltl xs ys = true -> ltl (xs ++ us) (ys ++ vs) = true
 | [], [], _, _, _, h => by rw [ltl_irr] at h; cases h
 | [], _ :: _, _, _, h, _ => by simp at h
 | _ :: _, [], _, _, h, _ => by simp at h
 | a :: xs, b :: ys, us, vs, h1, h2 => by
  by_cases ab : a = b
  ·subst ab
   rw [List.cons_append, List.cons_append, ltl_cons]
   rw [ltl_cons] at h2
   exact ltl_behind (by simpa using h1) h2
  ·rw [List.cons_append, List.cons_append, ltl_cons_ne ab]
   rw [ltl_cons_ne ab] at h2
   exact h2
theorem ltl_last (xs : List Nat) {a b : Nat} (h : a < b) : ltl (xs ++ [a]) (xs ++ [b]) = true := by
 induction xs with
 | nil => exact (ltl_cons_ne (by lia)).trans (decide_eq_true h)
 | cons x xs ih => rw [List.cons_append, List.cons_append, ltl_cons]; exact ih
theorem sl_trans {u v x : List Nat} (h1 : sl u v) (h2 : sl v x) : sl u x := by
 rcases h1 with h1 | ⟨e1, l1⟩ <;> rcases h2 with h2 | ⟨e2, l2⟩
 ·exact .inl (by lia)
 ·exact .inl (by lia)
 ·exact .inl (by lia)
 ·exact .inr ⟨by lia, ltl_trans e1 e2 l1 l2⟩
theorem sl_irr {u : List Nat} (h : sl u u) : False := by
 rcases h with h | ⟨_, h⟩
 ·lia
 ·rw [ltl_irr] at h; cases h
theorem sl_snoc {u v : List Nat} {a b : Nat} (h : sl u v) : sl (u ++ [a]) (v ++ [b]) := by
 rcases h with h | ⟨e, l⟩
 ·exact .inl (by simp; lia)
 ·exact .inr ⟨by simp [e], ltl_behind e l⟩
theorem sl_last (u : List Nat) {a b : Nat} (h : a < b) : sl (u ++ [a]) (u ++ [b]) := .inr ⟨by simp, ltl_last u h⟩
def sle (u v : List Nat) : Prop := u = v ∨ sl u v
theorem sle_trans {u v x : List Nat} (h1 : sle u v) (h2 : sle v x) : sle u x := by
 rcases h1 with rfl | h1
 ·exact h2
 ·rcases h2 with rfl | h2
  ·exact .inr h1
  ·exact .inr (sl_trans h1 h2)
theorem sle_snoc {u v : List Nat} {a : Nat} (h : sle u v) : sle (u ++ [a]) (v ++ [a]) := by
 rcases h with rfl | h
 ·exact .inl rfl
 ·exact .inr (sl_snoc h)
section
variable (f : List Nat -> Nat -> List Nat) (L : Nat) (x0 : List Nat)
abbrev TW := List (List Nat × List Nat)
def goes (word : List Nat) : List Nat := word.foldl f x0
def Goes (ws : TW) (p : List Nat × List Nat) (l : Nat) : Prop := ∃ u, (f p.1 l, u) ∈ ws /\ sle u (p.2 ++ [l])
structure Told (ws : TW) : Prop where
 head : ws[0]? = some (x0, [])
 keys : (ws.map (·.1)).Nodup
 run : ∀ p ∈ ws, (∀ l ∈ p.2, l < L) /\ goes f x0 p.2 = p.1
 up : ws.Pairwise fun p q => sl p.2 q.2
 all : ∀ p ∈ ws, ∀ l, l < L -> Goes f ws p l
 short : ∀ p ∈ ws, p.2.length < ws.length
structure Bfs (d : Nat) (ws wv fo : TW) (i j : Nat) : Prop where
 head : ws[0]? = some (x0, [])
 keys : (ws.map (·.1)).Nodup
 run : ∀ p ∈ ws, (∀ l ∈ p.2, l < L) /\ goes f x0 p.2 = p.1
 up : ws.Pairwise fun p q => sl p.2 q.2
 len : ∀ p ∈ ws, p.2.length <= d + 1
 wave : ∀ p ∈ wv, p ∈ ws /\ p.2.length = d
 wup : wv.Pairwise fun p q => sl p.2 q.2
 foll : ∀ p ∈ fo, p ∈ ws /\ p.2.length = d + 1
 fup : fo.Pairwise fun p q => sl p.2 q.2
 front : ∀ p ∈ ws, ∀ t, wv[i]? = some t -> sl p.2 (t.2 ++ [j])
 done : ∀ p ∈ ws, p ∈ fo ∨ (∃ a, i <= a /\ wv[a]? = some p) ∨ ∀ l, l < L -> Goes f ws p l
 part : ∀ t, wv[i]? = some t -> ∀ l, l < j -> Goes f ws t l
 short : ∀ p ∈ ws, p.2.length < ws.length
variable {f L x0} {d i j : Nat} {ws wv fo : TW} {t : List Nat × List Nat}
theorem Goes.more {p q : List Nat × List Nat} {l : Nat} (h : Goes f ws p l) : Goes f (ws ++ [q]) p l := by
 obtain ⟨u, h1, h2⟩ := h
 exact ⟨u, List.mem_append_left _ h1, h2⟩
theorem Bfs.start : Bfs f L x0 0 [(x0, [])] [(x0, [])] [] 0 0 where
 head := rfl
 keys := by simp
 run := fun p hp => by
  rw [List.mem_singleton.mp hp]
  exact ⟨fun _ h => (nomatch h), rfl⟩
 up := List.pairwise_singleton _ _
 len := fun p hp => by rw [List.mem_singleton.mp hp]; simp
 wave := fun p hp => ⟨hp, by rw [List.mem_singleton.mp hp]; rfl⟩
 wup := List.pairwise_singleton _ _
 foll := fun _ h => nomatch h
 fup := .nil
 front := fun p hp t _ => by
  rw [List.mem_singleton.mp hp]
  exact .inl (by simp)
 done := fun p hp => .inr (.inl ⟨0, Nat.le_refl _, by rw [List.mem_singleton.mp hp]; rfl⟩)
 part := fun _ _ _ h => absurd h (Nat.not_lt_zero _)
 short := fun p hp => by rw [List.mem_singleton.mp hp]; simp
theorem Bfs.old (b : Bfs f L x0 d ws wv fo i j) (ht : wv[i]? = some t) (hm : f t.1 j ∈ ws.map (·.1)) : Bfs f L x0 d ws wv fo i (j + 1) := by
 obtain ⟨p, hp, e⟩ := List.mem_map.mp hm
 refine { b with front := fun q hq t' ht' => ?_, part := fun t' ht' l hl => ?_ }
 ·exact sl_trans (b.front q hq t' ht') (sl_last _ (Nat.lt_succ_self _))
 ·rcases Nat.lt_succ_iff_lt_or_eq.mp hl with hl | rfl
  ·exact b.part t' ht' l hl
  ·rw [ht] at ht'
   cases ht'
   exact ⟨p.2, by rw [<- e]; exact hp, .inr (b.front p hp t ht)⟩
theorem Bfs.new (b : Bfs f L x0 d ws wv fo i j) (ht : wv[i]? = some t) (hj : j < L) (hm : f t.1 j ∉ ws.map (·.1)) :
  Bfs f L x0 d (ws ++ [(f t.1 j, t.2 ++ [j])]) wv (fo ++ [(f t.1 j, t.2 ++ [j])]) i (j + 1) := by
 obtain ⟨tw, tl⟩ := b.wave t (List.mem_of_getElem? ht)
 obtain ⟨r1, r2⟩ := b.run t tw
 have nl : (t.2 ++ [j]).length = d + 1 := by simp [tl]
 have pos : 0 < ws.length := List.length_pos_of_mem tw
 refine ⟨?_, ?_, fun p hp => ?_, ?_, fun p hp => ?_, fun p hp => ⟨List.mem_append_left _ (b.wave p hp).1, (b.wave p hp).2⟩, b.wup, fun p hp => ?_, ?_, fun p hp t' ht' => ?_, fun p hp => ?_, fun t' ht' l hl => ?_, fun p hp => ?_⟩
 ·rw [List.getElem?_append_left pos]
  exact b.head
 ·rw [List.map_append, List.nodup_append]
  refine ⟨b.keys, by simp, fun x hx y hy z => ?_⟩
  simp at hy
  subst hy
  exact hm (z ▸ hx)
 ·rcases List.mem_append.mp hp with hp | hp
  ·exact b.run p hp
  ·rw [List.mem_singleton.mp hp]
   refine ⟨fun l hl => ?_, ?_⟩
   ·rcases List.mem_append.mp hl with hl | hl
    ·exact r1 l hl
    ·rw [List.mem_singleton.mp hl]; exact hj
   ·show goes f x0 (t.2 ++ [j]) = f t.1 j
    unfold goes at r2 ⊢
    rw [List.foldl_append, r2]
    rfl
 ·rw [List.pairwise_append]
  refine ⟨b.up, List.pairwise_singleton _ _, fun p hp q hq => ?_⟩
  rw [List.mem_singleton.mp hq]
  exact b.front p hp t ht
 ·rcases List.mem_append.mp hp with hp | hp
  ·exact b.len p hp
  ·rw [List.mem_singleton.mp hp]; exact Nat.le_of_eq nl
 ·rcases List.mem_append.mp hp with hp | hp
  ·exact ⟨List.mem_append_left _ (b.foll p hp).1, (b.foll p hp).2⟩
  ·exact ⟨List.mem_append_right _ hp, by rw [List.mem_singleton.mp hp]; exact nl⟩
 ·rw [List.pairwise_append]
  refine ⟨b.fup, List.pairwise_singleton _ _, fun p hp q hq => ?_⟩
  rw [List.mem_singleton.mp hq]
  exact b.front p (b.foll p hp).1 t ht
 ·rw [ht] at ht'
  cases ht'
  rcases List.mem_append.mp hp with hp | hp
  ·exact sl_trans (b.front p hp t ht) (sl_last _ (Nat.lt_succ_self _))
  ·rw [List.mem_singleton.mp hp]
   exact sl_last _ (Nat.lt_succ_self _)
 ·rcases List.mem_append.mp hp with hp | hp
  ·rcases b.done p hp with h | h | h
   ·exact .inl (List.mem_append_left _ h)
   ·exact .inr (.inl h)
   ·exact .inr (.inr fun l hl => (h l hl).more)
  ·exact .inl (List.mem_append_right _ hp)
 ·rw [ht] at ht'
  cases ht'
  rcases Nat.lt_succ_iff_lt_or_eq.mp hl with hl | rfl
  ·exact (b.part t ht l hl).more
  ·exact ⟨t.2 ++ [l], List.mem_append_right _ (List.mem_singleton.mpr rfl), .inl rfl⟩
 ·rw [List.length_append, List.length_singleton]
  rcases List.mem_append.mp hp with hp | hp
  ·exact Nat.lt_succ_of_lt (b.short p hp)
  ·rw [List.mem_singleton.mp hp]
   have z := b.short t tw
   show (t.2 ++ [j]).length < _
   rw [List.length_append, List.length_singleton]
   lia
theorem Bfs.next (b : Bfs f L x0 d ws wv fo i L) (ht : wv[i]? = some t) : Bfs f L x0 d ws wv fo (i + 1) 0 := by
 refine { b with front := fun p hp t' ht' => ?_, done := fun p hp => ?_, part := fun _ _ l hl => absurd hl (Nat.not_lt_zero _) }
 ·have h1 := b.front p hp t ht
  have h2 : sl t.2 t'.2 := by
   obtain ⟨l1, e1⟩ := List.getElem?_eq_some_iff.mp ht
   obtain ⟨l2, e2⟩ := List.getElem?_eq_some_iff.mp ht'
   rw [<- e1, <- e2]
   exact List.pairwise_iff_getElem.mp b.wup i (i + 1) l1 l2 (Nat.lt_succ_self _)
  exact sl_trans h1 (sl_snoc h2)
 ·rcases b.done p hp with h | ⟨a, h1, h2⟩ | h
  ·exact .inl h
  ·rcases Nat.eq_or_lt_of_le h1 with e | e
   ·subst e
    rw [ht] at h2
    cases h2
    exact .inr (.inr fun l hl => b.part t ht l hl)
   ·exact .inr (.inl ⟨a, e, h2⟩)
  ·exact .inr (.inr h)
theorem Bfs.wave' (b : Bfs f L x0 d ws wv fo wv.length 0) : Bfs f L x0 (d + 1) ws fo [] 0 0 := by
 refine ⟨b.head, b.keys, b.run, b.up, fun p hp => Nat.le_succ_of_le (b.len p hp), b.foll, b.fup, fun _ h => (nomatch h), .nil, fun p hp t ht => ?_, fun p hp => ?_, fun _ _ l hl => absurd hl (Nat.not_lt_zero _), b.short⟩
 ·have h1 := b.len p hp
  have h2 := (b.foll t (List.mem_of_getElem? ht)).2
  exact .inl (by simp; lia)
 ·rcases b.done p hp with h | ⟨a, h1, h2⟩ | h
  ·obtain ⟨a, e⟩ := List.mem_iff_getElem?.mp h
   exact .inr (.inl ⟨a, Nat.zero_le _, e⟩)
  ·rw [List.getElem?_eq_none h1] at h2
   cases h2
  ·exact .inr (.inr h)
theorem Bfs.told (b : Bfs f L x0 d ws [] [] 0 0) : Told f L x0 ws := ⟨b.head, b.keys, b.run, b.up, fun p hp => by
 rcases b.done p hp with h | ⟨a, _, h⟩ | h
 ·nomatch h
 ·simp at h
 ·exact h, b.short⟩
theorem Told.least (T : Told f L x0 ws) : ∀ (n : Nat) (v : List Nat), v.length = n -> (∀ l ∈ v, l < L) -> ∃ u, (goes f x0 v, u) ∈ ws /\ sle u v
 | 0, v, hn, _ => by
  have e : v = [] := List.length_eq_zero_iff.mp hn
  subst e
  exact ⟨[], List.mem_of_getElem? T.head, .inl rfl⟩
 | n + 1, v, hn, hv => by
  obtain ⟨v', l, rfl⟩ : ∃ v' l, v = v' ++ [l] := ⟨v.dropLast, v.getLast (by intro z; rw [z] at hn; cases hn), (List.dropLast_concat_getLast _).symm⟩
  obtain ⟨u, h1, h2⟩ := T.least n v' (by simp at hn; lia) fun x hx => hv x (List.mem_append_left _ hx)
  obtain ⟨u', h3, h4⟩ := T.all _ h1 l (hv l (List.mem_append_right _ (List.mem_singleton.mpr rfl)))
  refine ⟨u', ?_, sle_trans h4 (sle_snoc h2)⟩
  have e : goes f x0 (v' ++ [l]) = f (goes f x0 v') l := by
   unfold goes
   rw [List.foldl_append]
   rfl
  rw [e]
  exact h3
theorem goes_in {U : List (List Nat)} (h0 : x0 ∈ U) (hU : ∀ x ∈ U, ∀ l, l < L -> f x l ∈ U) : ∀ word : List Nat, (∀ l ∈ word, l < L) -> goes f x0 word ∈ U := by
 have go : ∀ (word : List Nat) (x : List Nat), x ∈ U -> (∀ l ∈ word, l < L) -> word.foldl f x ∈ U := by
  intro word
  induction word with
  | nil => intro x hx _; exact hx
  | cons l word ih => intro x hx h; exact ih _ (hU x hx l (h l (List.mem_cons_self ..))) fun y hy => h y (List.mem_cons_of_mem _ hy)
 exact fun word h => go word x0 h0 h
theorem few_of {U : List (List Nat)} {l : List (List Nat)} (nd : l.Nodup) (h : ∀ x ∈ l, x ∈ U) : l.length <= U.length := List.Nodup.length_le_of_subset nd h
end
section
variable {P : Program} {w : World} {A : Around} {E : Value -> Shared -> Prop} {s : Shared} {it d : Addr} {i ep : Nat} {es : Array DictEntry}
abbrev pairObj (k v : Value) : Obj := { cls := .type "tuple", data := .seq #[k, v] }
abbrev goerObj (own : Value) (out : Bool) (d : Addr) (i n ep : Nat) (k v : Value) : Obj := { cls := .type "dict_itemiterator", data := .fields #[own, .bool out, .ref d, .int i 0, .int n 0, .int ep 0, k, v] }
def Lies (h : Heap) (d : Addr) (es : Array DictEntry) (ep : Nat) : Prop := ∃ o, h.get? d = some o /\ o.ExactDict /\ o.data = .dict es ep
def Goer (h : Heap) (it d : Addr) (i n ep : Nat) : Prop := ∃ own out k v, h.get? it = some (goerObj own out d i n ep k v) /\ (own = .none ∨ ∃ a : Nat, own = rawInt a /\ a ≠ it /\ ∃ o, h.get? a = some o)
theorem Goer.keep {h h' : Heap} {n : Nat} (g : Goer h it d i n ep) (k : ∀ o, h.get? it = some o -> h'.get? it = some o) (l : ∀ b o, h.get? b = some o -> ∃ o', h'.get? b = some o') : Goer h' it d i n ep := by
 obtain ⟨own, out, x, v, e, c⟩ := g
 refine ⟨own, out, x, v, k _ e, c.imp id ?_⟩
 rintro ⟨a, ea, na, o, eo⟩
 exact ⟨a, ea, na, l a o eo⟩
theorem pair_made {own : Value} {out : Bool} {n : Nat} {k0 v0 k v : Value} {Q : Value -> Shared -> Prop} (e : s.heap.get? it = some (goerObj own out d i n ep k0 v0)) (c : own = .none ∨ ∃ a : Nat, own = rawInt a /\ a ≠ it /\ ∃ o, s.heap.get? a = some o)
  (q : ∀ h', Goer h' it d i n ep -> h'.get? s.heap.objs.size = some (pairObj k v) -> (∀ b o, b ≠ it -> s.heap.get? b = some o -> h'.get? b = some o) -> Q (.ref s.heap.objs.size) { s with heap := h' }) :
  wpAny (model P w) A (Builtin.Dict_items.pairFromOwner (.ref it) 6 k v) Q E s := by
 have lt : it < s.heap.objs.size := Heap.lt_size e
 unfold Builtin.Dict_items.pairFromOwner
 refine wpAny_bind (wpAny_newTuple ?_)
 have e1 := Heap.get?_push_of_some (pairObj k v) e
 have ep1 : (s.heap.push (pairObj k v)).get? s.heap.objs.size = some (pairObj k v) := Heap.get?_push_size _ rfl
 have kp : ∀ b o, s.heap.get? b = some o -> (s.heap.push (pairObj k v)).get? b = some o := fun b o z => Heap.get?_push_of_some _ z
 have ne : s.heap.objs.size ≠ it := Nat.ne_of_gt lt
 rcases c with rfl | ⟨a, rfl, na, o, ea⟩
 ·have free : ∀ {R : Bool -> Shared -> Prop} {s1 : Shared}, s1.heap.get? it = some (goerObj .none out d i n ep k0 v0) -> R true s1 -> wpAny (model P w) A (Builtin.Dict_items.ownedTupleIsFree (.ref it)) R E s1 := fun e r => by
   unfold Builtin.Dict_items.ownedTupleIsFree
   exact wpAny_bind (wpAny_field e rfl (x := .none) rfl (wpAny_pure r))
  refine wpAny_bind (free e1 ?_)
  rw [if_pos rfl]
  refine wpAny_bind (wpAny_field e1 rfl (x := k0) rfl (wpAny_bind (wpAny_field e1 rfl (x := v0) rfl ?_)))
  refine wpAny_bind (wpAny_setField_rec e1 (by simp) fun h2 e2 s2 => wpAny_bind (wpAny_setField_rec e2 (by simp) fun h3 e3 s3 => ?_))
  refine wpAny_bind (wpAny_setField_rec e3 (by simp) fun h4 e4 s4 => wpAny_bind (wpAny_setField_rec e4 (by simp) fun h5 e5 s5 => wpAny_bind (wpAny_letGo (wpAny_pure ?_))))
  have sb := ((s2.trans s3).trans s4).trans s5
  have ep5 := sb.extBut _ _ ne ep1
  exact q h5 ⟨_, _, _, _, e5, .inr ⟨_, rfl, ne, _, ep5⟩⟩ ep5 fun b o nb z => sb.extBut _ _ nb (kp b o z)
 ·have a1 := kp a o ea
  refine wpAny_bind (m := Builtin.Dict_items.ownedTupleIsFree _) ?_
  unfold Builtin.Dict_items.ownedTupleIsFree
  refine wpAny_bind (wpAny_field e1 rfl (x := rawInt a) rfl ?_)
  have alive : ∀ {R : Option Obj -> Shared -> Prop}, R (some o) { s with heap := s.heap.push (pairObj k v) } -> wpAny (model P w) A (loadIfAlive ((a : Int).toNat)) R E { s with heap := s.heap.push (pairObj k v) } := fun {R} r => by
   rw [Int.toNat_natCast]
   exact fun _ _ _ => show R ((s.heap.push (pairObj k v)).get? a) _ by rw [a1]; exact r
  refine show wpAny _ _ (loadIfAlive ((a : Int).toNat) >>= _) _ _ _ from wpAny_bind (alive ?_)
  refine wpAny_bind (m := field _ _) (wpAny_field e1 rfl (x := .bool out) rfl ?_)
  cases out with
  | true => exact wpAny_pure (wpAny_pure (q _ ⟨_, _, _, _, e1, .inr ⟨a, rfl, na, o, a1⟩⟩ ep1 fun b o _ z => kp b o z))
  | false =>
   refine wpAny_bind (m := setField _ _ _) (wpAny_setField_rec e1 (by simp) fun h2 e2 s2 => wpAny_pure (wpAny_pure ?_))
   exact q h2 ⟨_, _, _, _, e2, .inr ⟨a, rfl, na, o, s2.extBut _ _ na a1⟩⟩ (s2.extBut _ _ ne ep1) fun b o nb z => s2.extBut _ _ nb (kp b o z)
end
section
variable {P : Program} {w : World} {A : Around} {E : Value -> Shared -> Prop} {s : Shared} {it d : Addr} {i ep : Nat} {es : Array DictEntry}
theorem goer_item {en : DictEntry} {Q : Option Value -> Shared -> Prop} (G : Goer s.heap it d i es.size ep) (L : Lies s.heap d es ep) (hx : es[i]? = some en)
  (q : ∀ h', Goer h' it d (i + 1) es.size ep -> h'.get? s.heap.objs.size = some (pairObj en.key en.val) -> (∀ b o, b ≠ it -> s.heap.get? b = some o -> h'.get? b = some o) -> Q (some (.ref s.heap.objs.size)) { s with heap := h' }) :
  wpAny (model P w) A (pyNext (.ref it)) Q E s := by
 obtain ⟨own, out, k0, v0, e, c⟩ := G
 obtain ⟨o, ho, _, hd⟩ := L
 have ty : s.TypeIs (.ref it) "dict_itemiterator" := ⟨_, e, rfl⟩
 have lt : i < es.size := (Array.getElem?_eq_some_iff.mp hx).1
 unfold pyNext
 refine wpAny_bind (wpAny_attempt (wpAny_callSpecial?_slot (name := Str.ofString "__next__") ty F.slot_dict_itemiterator_next (wpAny_call_entry F.slot_dict_itemiterator_next ty F.entry_dict_itemiterator_next ?_ (F.args_dict_itemiterator_next_1 _))))
 refine wpAny_bind (wpAny_pure (wpAny_bind (wpAny_bind ?_)))
 refine wpAny_bind (wpAny_typeNameOfWhole_itemiter ty (wpAny_pure (wpAny_bind (wpAny_fieldsOf e rfl ?_))))
 have own2 : Builtin.Dict_items.ownsTuple "dict_itemiterator" = true := by decide
 simp only [own2, if_true]
 refine show wpAny _ _ (if (Value.ref d == Value.none) = true then _ else _) _ _ s from (if_neg (show ¬ ((Value.ref d == Value.none) = true) from Bool.false_ne_true)) ▸ wpAny_bind (wpAny_pure (wpAny_bind (wpAny_dictEntries ho hd ?_)))
 rw [if_neg (by simp)]
 refine wpAny_bind (wpAny_pure (wpAny_bind (wpAny_dictEpoch ho hd ?_)))
 rw [if_neg (by simp)]
 refine wpAny_pure ?_
 have at0 : (if ((i : Nat) : Int) < 0 then none else es[((i : Nat) : Int).toNat]?) = some en := by
  rw [if_neg (by lia), Int.toNat_natCast]
  exact hx
 show wpAny _ _ (match (if ((i : Nat) : Int) < 0 then none else es[((i : Nat) : Int).toNat]?) with | some e => _ | none => _) _ _ s
 rw [at0]
 refine wpAny_bind (wpAny_bind (wpAny_typeNameOfWhole_itemiter ty (wpAny_pure (wpAny_bind (wpAny_isOneOf_itemiter ty ?_)))))
 refine show wpAny _ _ (setField (.ref it) 3 (rawInt ((i : Int) + 1)) >>= _) _ _ s from wpAny_bind (wpAny_setField_rec e (by simp) fun h1 e1 s1 => wpAny_bind (wpAny_holding ?_))
 have e1' : h1.get? it = some (goerObj own out d (i + 1) es.size ep k0 v0) := by
  have z : ((i + 1 : Nat) : Int) = (i : Int) + 1 := by lia
  unfold goerObj
  rw [z]
  simpa [rawInt] using e1
 have ty1 : Shared.TypeIs { s with heap := h1 } (.ref it) "dict_itemiterator" := ⟨_, e1', rfl⟩
 refine wpAny_bind (wpAny_isOneOf_itemiter ty1 (wpAny_bind (wpAny_isOneOf_itemiter ty1 ?_)))
 have sz : h1.objs.size = s.heap.objs.size := s1.1
 refine show wpAny _ _ (Builtin.Dict_items.pairFromOwner (.ref it) 6 en.key en.val) _ _ { s with heap := h1 } from pair_made (s := { s with heap := h1 }) e1' (c.imp id ?_) fun h2 G2 p2 k2 => ?_
 ·rintro ⟨a, ea, na, oa, z⟩
  exact ⟨a, ea, na, oa, s1.extBut _ _ na z⟩
 ·have p2' : h2.get? s.heap.objs.size = some (pairObj en.key en.val) := by rw [<- sz]; exact p2
  show wpAny _ _ (ret (.ref h1.objs.size)) _ _ _
  rw [sz]
  exact wpAny_pure ⟨_, rfl, wpAny_pure (q h2 G2 p2' fun b o nb z => k2 b o nb (s1.extBut _ _ nb z))⟩
theorem goer_end {Q : Option Value -> Shared -> Prop} (hh : A.handled = none) (G : Goer s.heap it d i es.size ep) (L : Lies s.heap d es ep) (hx : es[i]? = none)
  (q : ∀ h', Heap.ExtBut it s.heap h' -> Q none { s with heap := h' }) : wpAny (model P w) A (pyNext (.ref it)) Q E s := by
 obtain ⟨own, out, k0, v0, e, c⟩ := G
 obtain ⟨o, ho, _, hd⟩ := L
 have ty : s.TypeIs (.ref it) "dict_itemiterator" := ⟨_, e, rfl⟩
 unfold pyNext
 refine wpAny_bind (wpAny_attempt (wpAny_callSpecial?_slot (name := Str.ofString "__next__") ty F.slot_dict_itemiterator_next (wpAny_call_entry F.slot_dict_itemiterator_next ty F.entry_dict_itemiterator_next ?_ (F.args_dict_itemiterator_next_1 _))))
 refine wpAny_bind (wpAny_pure (wpAny_bind (wpAny_bind ?_)))
 refine wpAny_bind (wpAny_typeNameOfWhole_itemiter ty (wpAny_pure (wpAny_bind (wpAny_fieldsOf e rfl ?_))))
 have own2 : Builtin.Dict_items.ownsTuple "dict_itemiterator" = true := by decide
 simp only [own2, if_true]
 refine show wpAny _ _ (if (Value.ref d == Value.none) = true then _ else _) _ _ s from (if_neg (show ¬ ((Value.ref d == Value.none) = true) from Bool.false_ne_true)) ▸ wpAny_bind (wpAny_pure (wpAny_bind (wpAny_dictEntries ho hd ?_)))
 rw [if_neg (by simp)]
 refine wpAny_bind (wpAny_pure (wpAny_bind (wpAny_dictEpoch ho hd ?_)))
 rw [if_neg (by simp)]
 refine wpAny_pure ?_
 have at0 : (if ((i : Nat) : Int) < 0 then none else es[((i : Nat) : Int).toNat]?) = none := by
  rw [if_neg (by lia), Int.toNat_natCast]
  exact hx
 show wpAny _ _ (match (if ((i : Nat) : Int) < 0 then none else es[((i : Nat) : Int).toNat]?) with | some e => _ | none => _) _ _ s
 rw [at0]
 refine wpAny_bind (wpAny_bind (wpAny_typeNameOfWhole_itemiter ty (wpAny_pure ?_)))
 refine show wpAny _ _ (setField (.ref it) 2 .none >>= _) _ _ s from wpAny_bind (wpAny_setField_rec e (by simp) fun h1 e1 sb => ?_)
 refine wpAny_bind (m := newExc _ _) ?_
 simp only [newExc, newTuple]
 refine wpAny_bind (wpAny_newObj_type ?_ (by size_fits))
 refine wpAny_bind (m := firstArgMember _ _) (wpAny_of_eq (a := Value.none) (by first | rfl | (unfold firstArgMember; rfl)) (wpAny_newObj_type ?_ (by size_fits)))
 refine wpAny_raiseNew_none (by simpa using hh) (wpAny_bind (wpAny_isInstance (T := "StopIteration") (b := true) ⟨_, Heap.get?_push_size _ rfl, rfl⟩ isSubtype_stop (wpAny_pure ?_)))
 exact q _ fun b o nb z => Heap.get?_push_of_some _ (Heap.get?_push_of_some _ (sb.extBut b o nb z))
end
structure PMade (es : Array DictEntry) (lo : Addr) (h : Heap) (as : List Addr) : Prop where
 far : ∀ a ∈ as, lo < a
 up : as.Pairwise (· < ·)
 is : ∀ (j : Nat) (a : Addr), as[j]? = some a -> ∃ en : DictEntry, es[j]? = some en /\ h.get? a = some (pairObj en.key en.val)
theorem PMade.nil {es : Array DictEntry} {lo : Addr} {h : Heap} : PMade es lo h [] := ⟨fun _ z => (nomatch z), .nil, fun _ _ z => by simp at z⟩
theorem PMade.here {es : Array DictEntry} {lo : Addr} {h : Heap} {as : List Addr} (m : PMade es lo h as) : ∀ a ∈ as, a < h.objs.size := fun a ha => by
 obtain ⟨j, e⟩ := List.mem_iff_getElem?.mp ha
 obtain ⟨_, _, g⟩ := m.is j a e
 exact Heap.lt_size g
theorem PMade.keep {es : Array DictEntry} {lo : Addr} {h h' : Heap} {as : List Addr} (m : PMade es lo h as) (k : ∀ b o, lo < b -> h.get? b = some o -> h'.get? b = some o) : PMade es lo h' as :=
 ⟨m.far, m.up, fun j a e => by
  obtain ⟨en, x, g⟩ := m.is j a e
  exact ⟨en, x, k a _ (m.far a (List.mem_of_getElem? e)) g⟩⟩
theorem PMade.more {es : Array DictEntry} {lo a : Addr} {h : Heap} {as : List Addr} {en : DictEntry} (m : PMade es lo h as) (la : lo < a) (new : ∀ b ∈ as, b < a) (x : es[as.length]? = some en) (g : h.get? a = some (pairObj en.key en.val)) : PMade es lo h (as ++ [a]) :=
  ⟨fun b hb => by
    rcases List.mem_append.mp hb with z | z
    · exact m.far b z
    · rw [List.mem_singleton.mp z]; exact la,
   List.pairwise_append.mpr ⟨m.up, List.pairwise_singleton _ _, fun b hb c hc => by rw [List.mem_singleton.mp hc]; exact new b hb⟩,
   fun j b e => by
    by_cases hj : j < as.length
    · rw [List.getElem?_append_left hj] at e
      exact m.is j b e
    · rw [List.getElem?_append_right (Nat.le_of_not_lt hj)] at e
      obtain ⟨z, e'⟩ := List.getElem?_eq_some_iff.mp e
      have j0 : j - as.length = 0 := by simp at z; lia
      have jj : j = as.length := by lia
      subst jj
      simp at e'
      subst e'
      exact ⟨en, x, g⟩⟩
section
variable {P : Program} {w : World} {A : Around} {R : Result -> Shared -> Prop} {S I d : Addr} {ep : Nat} {es : Array DictEntry} {res : Value}
abbrev lstAt (h : Heap) (S : Addr) (vs : Array Value) (c : Nat) : Prop := h.get? S = some { cls := .type "list", data := .seq vs c }
theorem fill (hh : A.handled = none) (SI : S < I) (dS : d ≠ S) (dI : d ≠ I) (fit : es.size <= sizeLine) : ∀ (r i : Nat) (s : Shared) (as : List Addr) (c : Nat), i + r = es.size -> as.length = i -> Goer s.heap I d i es.size ep -> Lies s.heap d es ep ->
      lstAt s.heap S (as.map Value.ref).toArray c -> PMade es I s.heap as ->
      (∀ h' bs c', bs.length = es.size -> PMade es I h' bs -> lstAt h' S (bs.map Value.ref).toArray c' -> (∀ b o, b ≠ S -> b ≠ I -> s.heap.get? b = some o -> h'.get? b = some o) -> R (.ok (.ret res)) { s with heap := h' }) ->
      codeAny (model P w) A (.builtin "list.extend.loop" ⟨[.ref S, .ref I, res], []⟩) R s := by
  have nSI : S ≠ I := Nat.ne_of_lt SI
  intro r
  induction r with
  | zero =>
    intro i s as c hi hl G L lS M q
    refine codeAny_builtin F.entry_extend_loop ?_
    rw [Around.under_plainId F.plain_extend_loop _]
    refine show wpAny _ A.in1 (pyNext (.ref I) >>= _) _ _ s from wpAny_bind (goer_end (by simpa using hh) G L (Array.getElem?_eq_none (by lia)) fun h' x => wpAny_pure ?_)
    exact q h' as c (by lia) (M.keep fun b o lb e => x b o (Nat.ne_of_gt lb) e) (x S _ nSI lS) fun b o _ nb e => x b o nb e
  | succ r ih =>
    intro i s as c hi hl G L lS M q
    obtain ⟨en, hx⟩ : ∃ en, es[i]? = some en := ⟨es[i]'(by lia), Array.getElem?_eq_getElem (by lia)⟩
    have szI : I < s.heap.objs.size := by
      obtain ⟨_, _, _, _, e, _⟩ := G
      exact Heap.lt_size e
    have szS : S < s.heap.objs.size := Heap.lt_size lS
    refine codeAny_builtin F.entry_extend_loop ?_
    rw [Around.under_plainId F.plain_extend_loop _]
    refine show wpAny _ A.in1 (pyNext (.ref I) >>= _) _ _ s from wpAny_bind (goer_item G L hx fun h1 G1 p1 k1 => ?_)
    have lS1 := k1 S _ nSI lS
    refine show wpAny _ A.in1 (updateSeq S (·.push (Value.ref s.heap.objs.size)) >>= _) _ _ { s with heap := h1 } from wpAny_bind (wpAny_updateSeq lS1 rfl (wpAny_pure ⟨plainId_quiet F.plain_extend_loop _, ?_⟩) ?_ ?_)
    · have off : ∀ b o, b ≠ S -> h1.get? b = some o -> (h1.update S (Obj.mapSeq (·.push (Value.ref s.heap.objs.size)))).get? b = some o := fun b o nb e => (Heap.get?_update_other _ _ (Ne.symm nb)).trans e
      have lS2 := Heap.get?_update_self (Obj.mapSeq (·.push (Value.ref s.heap.objs.size))) lS1 rfl
      obtain ⟨od, h0, x0, y0⟩ := L
      have M1 : PMade es I h1 as := M.keep fun b o lb e => k1 b o (Nat.ne_of_gt lb) e
      refine ih (i + 1) { s with heap := h1.update S (Obj.mapSeq (·.push (Value.ref s.heap.objs.size))) } (as ++ [s.heap.objs.size]) _ (by lia) (by simp [hl]) (G1.keep (fun o e => off I o (Ne.symm nSI) e) fun b o e => ?_)
        ⟨od, off d od dS (k1 d od dI h0), x0, y0⟩ (by simpa [Obj.mapSeq, List.map_append] using lS2) ?_ fun h' bs c' l' M' lS' k' => q h' bs c' l' M' lS' fun b o n1 n2 e => k' b o n1 n2 (off b o n1 (k1 b o n2 e))
      · by_cases hb : b = S
        · subst hb
          exact ⟨_, lS2⟩
        · exact ⟨o, off b o hb e⟩
      · exact (M1.keep fun b o lb e => off b o (Nat.ne_of_gt (Nat.lt_trans SI lb)) e).more szI M.here (hl ▸ hx) (off _ _ (Nat.ne_of_gt szS) p1)
    · simp; lia
    · simp; lia
end
section
variable {P : Program} {w : World} {A : Around} {E : Value -> Shared -> Prop} {s : Shared} {v d : Addr} {ep : Nat} {es : Array DictEntry}
abbrev viewObj (d : Addr) : Obj := { cls := .type "dict_items", data := .fields #[.ref d] }
theorem Lies.typeIs {s : Shared} (L : Lies s.heap d es ep) : s.TypeIs (.ref d) "dict" := let ⟨o, h, x, _⟩ := L; ⟨o, h, x.1⟩
theorem view_made {Q : Value -> Shared -> Prop} (nd : (d == sysModules) = false) (L : Lies s.heap d es ep) (q : Q (.ref s.heap.objs.size) { s with heap := s.heap.push (viewObj d) }) : wpAny (model P w) A (call (.builtin "dict.items") [.ref d]) Q E s := by
 refine call_meetsIn (S := fun _ R s => Lies s.heap d es ep /\ R (.ok (.ret (.ref s.heap.objs.size))) { s with heap := s.heap.push (viewObj d) }) F.slot_dict_items L.typeIs F.entry_dict_items (F.args_dict_items_1 _) (.of_wp fun A R s ⟨L, r⟩ => ?_) ⟨L, q⟩
 unfold Builtin.«dict.items» Builtin.Dict.noArgs
 refine wpAny_bind (wpAny_bind (wpAny_notOrdered_dict L.typeIs ?_))
 refine show wpAny _ _ (pure d) _ _ s from wpAny_pure (show wpAny _ _ (Builtin.Dict.showsAll d >>= _) _ _ s from ?_)
 have all : Builtin.Dict.showsAll d = pure () := by
  unfold Builtin.Dict.showsAll
  rw [nd]
  rfl
 rw [all]
 exact wpAny_bind (wpAny_pure (wpAny_bind (wpAny_newObj_type (wpAny_pure ⟨_, rfl, r⟩))))
theorem view_iter {Q : Value -> Shared -> Prop} (ev : s.heap.get? v = some (viewObj d)) (L : Lies s.heap d es ep) (q : Q (.ref s.heap.objs.size) { s with heap := s.heap.push (goerObj .none false d 0 es.size ep .none .none) }) : wpAny (model P w) A (pyIter (.ref v)) Q E s := by
 have ty : s.TypeIs (.ref v) "dict_items" := ⟨_, ev, rfl⟩
 obtain ⟨o, ho, _, hd⟩ := L
 refine wpAny_pyIter_slot ty F.slot_dict_items_iter (wpAny_call_entry F.slot_dict_items_iter ty F.entry_dict_items_iter ?_ (F.args_dict_items_iter_1 _))
 unfold Builtin.«dict_items.__iter__» Builtin.Dict_items.dictOf Builtin.Dict_items.newIterator
 refine wpAny_bind (wpAny_pure (wpAny_bind (wpAny_bind (wpAny_field ev rfl (x := .ref d) rfl (wpAny_pure (wpAny_bind (wpAny_bind (wpAny_dictEntries ho hd (wpAny_bind (wpAny_dictEpoch ho hd ?_))))))))))
 refine show wpAny _ _ (newFields "dict_itemiterator" [.none, .bool false, .ref d, rawInt 0, rawInt (es.size : Nat), rawInt (ep : Nat), .none, .none]) _ _ s from wpAny_newObj_type (wpAny_pure ⟨_, rfl, "dict_itemiterator", _, ⟨_, Heap.get?_push_size _ rfl, rfl⟩, F.slot_dict_itemiterator_next.lookup, q⟩) (by size_fits)
theorem view_hint {Q : Bool -> Shared -> Prop} (ty : s.TypeIs (.ref v) "dict_items") (q : Q false s) : wpAny (model P w) A (Builtin.List.listLengthHint (.ref v)) Q E s := PySem.W.kdx_hint ty q
theorem items_listed {Q : Value -> Shared -> Prop} (hh : A.handled = none) (ev : s.heap.get? v = some (viewObj d)) (L : Lies s.heap d es ep) (fit : es.size <= sizeLine)
  (q : ∀ h' as c tk, as.length = es.size -> PMade es s.heap.objs.size h' as -> lstAt h' s.heap.objs.size (as.map Value.ref).toArray c -> (∀ b o, s.heap.get? b = some o -> h'.get? b = some o) -> Q (.ref s.heap.objs.size) { s with heap := h', toks := tk }) :
  wpAny (model P w) A (call (.type "list") [.ref v]) Q E s := by
 let S := s.heap.objs.size
 obtain ⟨o, ho, x, hd⟩ := id L
 have ld : d < S := Heap.lt_size ho
 have lv : v < S := Heap.lt_size ev
 refine callType_codes (Q₁ := fun obj s₁ => obj = .ref S /\ s₁ = { s with heap := s.heap.push { cls := .type "list", data := .seq #[] } }) F.called_list (F.typeCall_list_1 _) F.entry_list_init (code_list_new _ ⟨rfl, rfl⟩) fun obj s1 z => ?_
 obtain ⟨rfl, rfl⟩ := z
 have lS : lstAt (s.heap.push { cls := .type "list", data := .seq #[] }) S #[] 0 := Heap.get?_push_size _ rfl
 refine ⟨⟨_, lS, rfl⟩, F.args_list_init_2 _ _, ?_⟩
 unfold Builtin.«list.__init__» Builtin.List.listItems
 refine wpAny_bind (wpAny_bind (wpAny_seqItems lS rfl (wpAny_pure ?_)))
 refine wpAny_bind (m := updateSeq S _) (wpAny_updateSeq lS rfl (wpAny_bind (wpAny_letGo ?_)))
 have lS1 := Heap.get?_update_self (Obj.mapSeq (fun _ => (#[] : Array Value))) lS rfl
 let h1 := (s.heap.push { cls := .type "list", data := .seq #[] }).update S (Obj.mapSeq (fun _ => (#[] : Array Value)))
 have k1 : ∀ b o, s.heap.get? b = some o -> h1.get? b = some o := fun b o e => (Heap.get?_update_other _ _ (Nat.ne_of_gt (Heap.lt_size e))).trans (Heap.get?_push_of_some _ e)
 have sz1 : h1.objs.size = S + 1 := by
  show (Heap.update _ _ _).objs.size = _
  simp [Heap.update, Heap.push, S]
 have go : ∀ (h2 : Heap) (c tk : Nat), lstAt h2 S #[] c -> (∀ b o, b ≠ S -> (h1.push (goerObj .none false d 0 es.size ep .none .none)).get? b = some o -> h2.get? b = some o) ->
   codeAny (model P w) A.in1 (.builtin "list.extend.loop" ⟨[.ref S, .ref h1.objs.size, .none], []⟩) (wants (fun r s₂ => r = Value.none /\ Q (Value.ref S) s₂) E) { s with heap := h2, toks := tk } := fun h2 c tk l2 k2 => by
  have SI : S < h1.objs.size := by rw [sz1]; exact Nat.lt_succ_self _
  have k12 : ∀ b o, s.heap.get? b = some o -> h2.get? b = some o := fun b o e => k2 b o (Nat.ne_of_lt (Heap.lt_size e)) (Heap.get?_push_of_some _ (k1 b o e))
  refine fill (by simpa using hh) SI (Nat.ne_of_lt ld) (Nat.ne_of_lt (Nat.lt_trans ld SI)) fit es.size 0 { s with heap := h2, toks := tk } [] c (by lia) rfl ⟨_, _, _, _, k2 _ _ (Nat.ne_of_gt SI) (Heap.get?_push_size _ rfl), .inl rfl⟩ ⟨o, k12 d o ho, x, hd⟩ l2 .nil fun h' as c' l' M' lS' k' => ?_
  refine ⟨rfl, q h' as c' tk l' ⟨fun a ha => Nat.lt_trans SI (M'.far a ha), M'.up, M'.is⟩ lS' fun b o e => ?_⟩
  have lb : b < S := Heap.lt_size e
  exact k' b o (Nat.ne_of_lt lb) (Nat.ne_of_lt (Nat.lt_trans lb SI)) (k12 b o e)
 refine show wpAny _ _ (Builtin.List.listExtendWith (.ref S) (.ref v) .none) _ _ _ from ?_
 unfold Builtin.List.listExtendWith
 have ev1 := k1 v _ ev
 refine wpAny_bind (wpAny_typeOf (T := "dict_items") ⟨_, ev1, rfl⟩ ?_)
 have no : (Builtin.List.listSameRef (.ref S) (.ref v) || Value.type "dict_items" == Value.type "list" || Value.type "dict_items" == Value.type "tuple") = false := by
  have z : Builtin.List.listSameRef (.ref S) (.ref v) = false := by simp [Builtin.List.listSameRef, Nat.ne_of_gt lv]
  rw [z]
  decide
 rw [no, if_neg (by decide)]
 refine wpAny_bind (view_iter ev1 ⟨o, k1 d o ho, x, hd⟩ (wpAny_bind (wpAny_holding (view_hint ⟨_, Heap.get?_push_of_some _ ev1, rfl⟩ ?_))))
 have lS2 := Heap.get?_push_of_some (goerObj .none false d 0 es.size ep .none .none) lS1
 refine wpAny_ite_split (fun _ => ?_) fun _ => wpAny_pure ⟨plainId_quiet F.plain_extend_loop _, go _ _ _ lS2 fun _ _ _ e => e⟩
 unfold Builtin.List.listTouch Builtin.List.listUpdate
 refine wpAny_bind (wpAny_rule (wpAny_bind (wpAny_bind (m := updateSeq S _) (wpAny_updateSeq lS2 rfl ?_))))
 have lS3 := Heap.get?_update_self (Obj.mapSeq (·.push Value.none)) lS2 rfl
 refine show wpAny _ _ (updateSeq S (·.pop)) _ _ _ from wpAny_updateSeq (hz := by seq_fits) lS3 rfl (wpAny_pure ⟨plainId_quiet F.plain_extend_loop _, go _ _ _ (Heap.get?_update_self (Obj.mapSeq (·.pop)) lS3 rfl) fun b o nb e => ?_⟩)
 rw [Heap.get?_update_other _ _ (Ne.symm nb), Heap.get?_update_other _ _ (Ne.symm nb)]
 exact e
end
def lay (H : Hp) : List (Addr × HO) -> Hp
 | [] => H
 | p :: l => lay (upd H p.1 p.2) l
theorem lay_out : ∀ {l : List (Addr × HO)} {H : Hp} {b : Addr}, (∀ p ∈ l, b ≠ p.1) -> lay H l b = H b
 | [], _, _, _ => rfl
 | p :: l, H, b, n => by
  show lay (upd H p.1 p.2) l b = _
  rw [lay_out fun q hq => n q (List.mem_cons_of_mem _ hq), upd_ne (n p (List.mem_cons_self ..))]
theorem lay_in : ∀ {l : List (Addr × HO)} {H : Hp} {p : Addr × HO}, (l.map (·.1)).Nodup -> p ∈ l -> lay H l p.1 = some p.2
 | q :: l, H, p, nd, hp => by
  obtain ⟨h1, h2⟩ := List.nodup_cons.mp nd
  rcases List.mem_cons.mp hp with rfl | hp
  ·show lay (upd H p.1 p.2) l p.1 = _
   rw [lay_out fun r hr z => h1 (List.mem_map.mpr ⟨r, hr, z.symm⟩), upd_same]
  ·exact lay_in (l := l) h2 hp
theorem paired_at {α β : Type} {F : α -> β -> Prop} {l : List α} {m : List β} {j : Nat} {a : α} (r : Paired F l m) (e : l[j]? = some a) : ∃ b, m[j]? = some b /\ F a b := by
 induction r generalizing j with
 | nil => simp at e
 | cons h _ ih =>
  cases j with
  | zero =>
   have z := Option.some.inj e
   subst z
   exact ⟨_, rfl, h⟩
  | succ j => exact ih (by simpa using e)
section
variable {X : Cx}
theorem Inv.tracks {pins : List (Addr × Obj)} {σ : St} {H0 : Hp} {s s1 : Shared} (I : Inv X pins σ H0 s) : ∀ (l : List (Addr × HO)) (H : Hp), Inv X pins σ H s1 -> (∀ p ∈ l, s.heap.objs.size <= p.1 /\ H p.1 = none /\ ∀ H2, ObjOk X.prog X.w H2 s1.heap p.1 p.2) -> (l.map (·.1)).Nodup ->
  Inv X pins σ (lay H l) s1
 | [], _, I1, _, _ => I1
 | p :: l, H, I1, ok, nd => by
  obtain ⟨h1, h2⟩ := List.nodup_cons.mp nd
  obtain ⟨le, n, o⟩ := ok p (List.mem_cons_self ..)
  obtain ⟨f0, f1, f2, f3, f4, f5⟩ := I.fpOk (b := p.1) (H' := H) le n
  refine Inv.tracks I l _ (I1.track n (o _) (Nat.le_trans I.sz le) f1 f4 f5) (fun q hq => ?_) h2
  obtain ⟨x, y, z⟩ := ok q (List.mem_cons_of_mem _ hq)
  exact ⟨x, by rw [upd_ne fun e => h1 (List.mem_map.mpr ⟨q, hq, e⟩)]; exact y, z⟩
structure Listed (H H' : Hp) (kvs : List (List Key × V)) (l : Addr) (as : List Addr) : Prop where
 new : H l = none
 news : ∀ a ∈ as, H a = none
 out : l ∉ as
 nd : as.Nodup
 len : as.length = kvs.length
 lst : H' l = some (.lst (as.map .ref))
 is : ∀ (j : Nat) (a : Addr), as[j]? = some a -> ∃ k v b, kvs[j]? = some (k, v) /\ H b = some (.tup (k.map kV)) /\ H' a = some (.tup [.ref b, v])
 rest : ∀ b, b ≠ l -> b ∉ as -> H' b = H b
def ViewO (v d : Addr) : HO := .ext fun h => h.get? v = some (viewObj d)
def rItems : V -> List V -> Hp -> VK -> Prop := fun x xs H Q => xs = [] /\ ∃ a kvs, x = .ref a /\ H a = some (.dT kvs) /\ ∀ v, H v = none -> Q (.ref v) (upd H v (ViewO v a))
theorem mt_items : MtR X "dict.items" rItems := by
 intro pins s σ H x xs u us Q I r1 r2 h
 obtain ⟨rfl, a, kvs, rfl, ha, q⟩ := h
 cases r1
 cases r2
 obtain ⟨z, na, ys, rel, o, es, ep, e1, e2, e3, _⟩ := I.hok a _ ha
 refine view_made na ⟨o, e1, e2, e3⟩ ⟨.ref s.heap.objs.size, _, I.laid (a := s.heap.objs.size) (o := ViewO s.heap.objs.size a) (t' := s.toks) (fun _ _ q => Heap.get?_push_of_some _ q) (Nat.le_refl _) ?_, rfl, q _ I.fresh⟩
 have e : (s.heap.push (viewObj a)).get? s.heap.objs.size = some (viewObj a) := Heap.get?_push_size _ rfl
 exact ⟨e, ⟨_, e⟩, fun h1 h2 y k => k _ y⟩
def rListItems : List V -> Hp -> VK -> Prop := fun xs H Q => ∃ v a kvs, xs = [.ref v] /\ H v = some (ViewO v a) /\ H a = some (.dT kvs) /\ ∀ l as H', Listed H H' kvs l as -> Q (.ref l) H'
theorem call_list_items (hc : X.calm = true) : CallR X (.type "list") rListItems := by
 intro pins s σ H xs us Q I r h
 obtain ⟨v, a, kvs, rfl, hv, ha, q⟩ := h
 obtain ⟨u, rfl, ru⟩ := vals1 r
 cases ru
 obtain ⟨ev, _, _⟩ := I.hok v _ hv
 obtain ⟨z, na, ys, rel, o, es, ep, e1, e2, e3, e4, _⟩ := I.hok a _ ha
 have el : es.size = kvs.length := by rw [size_of_entries e4, <- Paired.length rel]
 refine items_listed (I.ok.hd hc) ev ⟨o, e1, e2, e3⟩ (by lia) fun h' as c tk ln M lS k => ?_
 have I1 : Inv X pins σ H { s with heap := h', toks := tk } := I.kept k
 have big : ∀ b, s.heap.objs.size <= b -> H b = none := fun b hb => I.hok.fresh hb
 have nd : as.Nodup := M.up.imp fun z => Nat.ne_of_lt z
 have out : s.heap.objs.size ∉ as := fun m => Nat.lt_irrefl _ (M.far _ m)
 have each : ∀ (j : Nat) (b : Addr), as[j]? = some b -> ∃ k x y, kvs[j]? = some (k, x) /\ H y = some (.tup (k.map kV)) /\ ∃ u, RelV x u /\ h'.get? b = some (pairObj (.ref y) u) := fun j b ej => by
  obtain ⟨en, ee, g⟩ := M.is j b ej
  obtain ⟨jl, _⟩ := List.getElem?_eq_some_iff.mp ej
  obtain ⟨⟨k, x⟩, ek⟩ : ∃ p, kvs[j]? = some p := ⟨_, List.getElem?_eq_getElem (by lia)⟩
  obtain ⟨⟨k', y, u⟩, ey, p1, p2, p3⟩ := paired_at rel ek
  rw [entry_at e4, ey] at ee
  cases ee
  exact ⟨k, x, y, ek, p2, u, p3, g⟩
 have some1 : ∀ b, ∃ o : HO, ∀ j : Nat, as[j]? = some b -> ∃ k x y, kvs[j]? = some (k, x) /\ H y = some (.tup (k.map kV)) /\ o = .tup [.ref y, x] /\ ∃ u, RelV x u /\ h'.get? b = some (pairObj (.ref y) u) := fun b => by
  by_cases hb : b ∈ as
  ·obtain ⟨j, ej⟩ := List.mem_iff_getElem?.mp hb
   obtain ⟨k, x, y, h1, h2, u, h3, h4⟩ := each j b ej
   refine ⟨.tup [.ref y, x], fun i ei => ?_⟩
   have ij : j = i := List.getElem?_inj (List.getElem?_eq_some_iff.mp ej).1 nd |>.mp (ej.trans ei.symm)
   subst ij
   exact ⟨k, x, y, h1, h2, rfl, u, h3, h4⟩
  ·exact ⟨.tup [], fun j ej => absurd (List.mem_of_getElem? ej) hb⟩
 let pr : Addr -> HO := fun b => Classical.choose (some1 b)
 have prIs : ∀ (j : Nat) (b : Addr), as[j]? = some b -> ∃ k x y, kvs[j]? = some (k, x) /\ H y = some (.tup (k.map kV)) /\ pr b = .tup [.ref y, x] /\ ∃ u, RelV x u /\ h'.get? b = some (pairObj (.ref y) u) := fun j b ej => Classical.choose_spec (some1 b) j ej
 have dom : (as.map fun b => (b, pr b)).map (·.1) = as := by simp [List.map_map, Function.comp_def]
 have okT : ∀ b ∈ as, ∀ H2, ObjOk X.prog X.w H2 h' b (pr b) := fun b hb H2 => by
  obtain ⟨j, ej⟩ := List.mem_iff_getElem?.mp hb
  obtain ⟨k, x, y, h1, h2, h3, u, h4, h5⟩ := prIs j b ej
  rw [h3]
  exact ⟨by show 2 <= sizeLine; decide, [.ref y, u], .cons rfl (.cons h4 .nil), _, h5, rfl, 0, rfl⟩
 have vs : ∀ l : List Addr, Vals (l.map V.ref) (l.map Value.ref) := fun l => by
  induction l with
  | nil => exact .nil
  | cons x l ih => exact .cons rfl ih
 have I2 := Inv.tracks (s1 := { s with heap := h', toks := tk }) I ((s.heap.objs.size, .lst (as.map .ref)) :: as.map fun b => (b, pr b)) H I1 (fun p hp => by
   rcases List.mem_cons.mp hp with rfl | hp
   ·exact ⟨Nat.le_refl _, big _ (Nat.le_refl _), fun H2 => ⟨by rw [List.length_map]; lia, _, c, vs as, lS⟩⟩
   ·obtain ⟨b, hb, rfl⟩ := List.mem_map.mp hp
    exact ⟨Nat.le_of_lt (M.far b hb), big _ (Nat.le_of_lt (M.far b hb)), okT b hb⟩) (by
   rw [List.map_cons, dom]
   exact List.nodup_cons.mpr ⟨out, nd⟩)
 refine ⟨.ref s.heap.objs.size, _, I2, rfl, q _ as _ ⟨big _ (Nat.le_refl _), fun b hb => big _ (Nat.le_of_lt (M.far b hb)), out, nd, by lia, ?_, fun j b ej => ?_, fun b h1 h2 => ?_⟩⟩
 ·exact lay_in (p := (s.heap.objs.size, .lst (as.map .ref))) (by rw [List.map_cons, dom]; exact List.nodup_cons.mpr ⟨out, nd⟩) (List.mem_cons_self ..)
 ·obtain ⟨k, x, y, g1, g2, g3, _⟩ := prIs j b ej
  refine ⟨k, x, y, g1, g2, ?_⟩
  rw [<- g3]
  exact lay_in (p := (b, pr b)) (by rw [List.map_cons, dom]; exact List.nodup_cons.mpr ⟨out, nd⟩) (List.mem_cons_of_mem _ (List.mem_map.mpr ⟨b, List.mem_of_getElem? ej, rfl⟩))
 ·refine lay_out fun p hp => ?_
  rcases List.mem_cons.mp hp with rfl | hp
  ·exact h1
  ·obtain ⟨y, hy, rfl⟩ := List.mem_map.mp hp
   exact fun e => h2 (e ▸ hy)
end
def kvsOf (ws : TW) (as : List Addr) : List (List Key × V) := List.zipWith (fun p a => (nk p.1, V.ref a)) ws as
theorem kvs_snoc {ws : TW} {as : List Addr} {p : List Nat × List Nat} {a : Addr} (h : as.length = ws.length) : kvsOf (ws ++ [p]) (as ++ [a]) = kvsOf ws as ++ [(nk p.1, .ref a)] := by
 unfold kvsOf
 rw [List.zipWith_append h.symm]
 rfl
theorem kvs_len {ws : TW} {as : List Addr} (h : as.length = ws.length) : (kvsOf ws as).length = ws.length := by
 unfold kvsOf
 rw [List.length_zipWith]
 lia
theorem kvs_at {ws : TW} {as : List Addr} {j : Nat} {p : List Nat × List Nat} {a : Addr} (hp : ws[j]? = some p) (ha : as[j]? = some a) : (kvsOf ws as)[j]? = some (nk p.1, .ref a) := by
 unfold kvsOf
 rw [List.getElem?_zipWith, hp, ha]
theorem val_no : ∀ {ws : TW} {as : List Addr} {x : List Nat}, x ∉ ws.map (·.1) -> valV (kvsOf ws as) (nk x) = none
 | [], _, _, _ => rfl
 | _ :: _, [], _, _ => rfl
 | p :: ws, a :: as, x, h => by
  have h1 : ¬ (nk p.1 : List Key) = nk x := fun z => h (List.mem_map.mpr ⟨p, List.mem_cons_self .., nk_inj z⟩)
  exact (valV_neg (p := (nk p.1, V.ref a)) (r := kvsOf ws as) h1).trans (val_no fun z => h (List.mem_cons_of_mem _ z))
theorem val_at : ∀ {ws : TW} {as : List Addr} {j : Nat} {p : List Nat × List Nat} {a : Addr}, (ws.map (·.1)).Nodup -> ws[j]? = some p -> as[j]? = some a -> valV (kvsOf ws as) (nk p.1) = some (.ref a)
 | q :: ws, b :: as, 0, p, a, _, hp, ha => by
  cases hp
  cases ha
  exact valV_pos (p := (nk q.1, V.ref b)) (r := kvsOf ws as) rfl
 | q :: ws, b :: as, j + 1, p, a, nd, hp, ha => by
  obtain ⟨h1, h2⟩ := List.nodup_cons.mp nd
  have hp' : ws[j]? = some p := by simpa using hp
  have n : ¬ (nk q.1 : List Key) = nk p.1 := fun z => h1 (List.mem_map.mpr ⟨p, List.mem_of_getElem? hp', (nk_inj z).symm⟩)
  exact (valV_neg (p := (nk q.1, V.ref b)) (r := kvsOf ws as) n).trans (val_at h2 hp' (by simpa using ha))
 | [], _, _, _, _, _, hp, _ => by simp at hp
 | _ :: _, [], _, _, _, _, _, ha => by simp at ha
structure WordsAt (H : Hp) (D : Addr) (ws : TW) (as : List Addr) : Prop where
 len : as.length = ws.length
 dict : H D = some (.dT (kvsOf ws as))
 list : ∀ (j : Nat) (a : Addr) (p : List Nat × List Nat), as[j]? = some a -> ws[j]? = some p -> H a = some (.lst (p.2.map nv))
theorem WordsAt.same {H H' : Hp} {D : Addr} {ws : TW} {as : List Addr} (W : WordsAt H D ws as) (g : Same H H') : WordsAt H' D ws as := ⟨W.len, g _ _ W.dict, fun j a p h1 h2 => g _ _ (W.list j a p h1 h2)⟩
theorem WordsAt.word {H : Hp} {D : Addr} {ws : TW} {as : List Addr} {p : List Nat × List Nat} (W : WordsAt H D ws as) (nd : (ws.map (·.1)).Nodup) (hp : p ∈ ws) : ∃ a, valV (kvsOf ws as) (nk p.1) = some (.ref a) /\ H a = some (.lst (p.2.map nv)) := by
 obtain ⟨j, e⟩ := List.mem_iff_getElem?.mp hp
 obtain ⟨hj, _⟩ := List.getElem?_eq_some_iff.mp e
 obtain ⟨a, ea⟩ : ∃ a, as[j]? = some a := ⟨_, List.getElem?_eq_getElem (by rw [W.len]; exact hj)⟩
 exact ⟨a, val_at nd e ea, W.list j a p ea e⟩
theorem WordsAt.put {H : Hp} {D l : Addr} {ws : TW} {as : List Addr} {p : List Nat × List Nat} (W : WordsAt H D ws as) (hl : H l = some (.lst (p.2.map nv))) : WordsAt (upd H D (.dT (kvsOf ws as ++ [(nk p.1, .ref l)]))) D (ws ++ [p]) (as ++ [l]) := by
 have nD : ∀ {a : Addr} {xs : List V}, H a = some (.lst xs) -> a ≠ D := fun h => ne_of h W.dict (fun z => nomatch z)
 refine ⟨by simp [W.len], by rw [upd_same, kvs_snoc W.len], fun j a q h1 h2 => ?_⟩
 by_cases hj : j < ws.length
 ·rw [List.getElem?_append_left (by rw [W.len]; exact hj)] at h1
  rw [List.getElem?_append_left hj] at h2
  have z := W.list j a q h1 h2
  rw [upd_ne (nD z)]
  exact z
 ·rw [List.getElem?_append_right (by rw [W.len]; lia)] at h1
  rw [List.getElem?_append_right (by lia)] at h2
  have z : j - ws.length = 0 := by
   have := (List.getElem?_eq_some_iff.mp h2).1
   simp at this
   lia
  rw [W.len, z] at h1
  rw [z] at h2
  cases h1
  cases h2
  rw [upd_ne (nD hl)]
  exact hl
def noT (H : Hp) : Hp := fun a => match H a with
 | some (.tbl _) => none
 | o => o
theorem noT_at {H : Hp} {a : Addr} {o : HO} (h : H a = some o) (n : ∀ ps, o ≠ .tbl ps) : noT H a = some o := by
 unfold noT
 rw [h]
 cases o <;> first | rfl | exact absurd rfl (n _)
theorem of_noT {H : Hp} {a : Addr} {o : HO} (h : noT H a = some o) : H a = some o /\ ∀ ps, o ≠ .tbl ps := by
 unfold noT at h
 split at h
 ·cases h
 ·rename_i n
  exact ⟨h, fun ps z => n ps (by rw [h, z])⟩
theorem noT_none {H : Hp} {a : Addr} (h : H a = none) : noT H a = none := by
 unfold noT
 rw [h]
def Keeps (H H' : Hp) : Prop := Same (noT H) H'
theorem Same.keeps {H H' : Hp} (g : Same H H') : Keeps H H' := fun a o h => g a o (of_noT h).1
theorem Keeps.refl (H : Hp) : Keeps H H := (Same.refl H).keeps
theorem Keeps.trans {H H1 H2 : Hp} (a : Keeps H H1) (b : Keeps H1 H2) : Keeps H H2 := fun c o h => b c o (noT_at (a c o h) (of_noT h).2)
def TabOk (qual : Str) (pos : Pos) (H : Hp) (T : Addr) : Prop := H T = some (.tbl #[]) ∨ ∃ cc, H T = some (.tbl (triple pos cc)) /\ H cc = some (CodeO cc qual)
theorem TabOk.same {qual : Str} {pos : Pos} {H H' : Hp} {T : Addr} (t : TabOk qual pos H T) (g : Same H H') : TabOk qual pos H' T := by
 rcases t with t | ⟨cc, t1, t2⟩
 ·exact .inl (g _ _ t)
 ·exact .inr ⟨cc, g _ _ t1, g _ _ t2⟩
def DefAt (K : W.Frag) (x : Str) (st : Stmt) (f : Addr) (fd : FuncData) (dv cv : Value) : Prop :=
 PySem.W.codeIn K cv x = true /\ (∃ kV doc pm an ct, fd = PySem.W.fnOf x x (defArgs st) (defBody st) (defScope st) dv kV doc pm an cv ct) /\ ∃ c d sl, K.lookup f = some ⟨c, d, .func fd, sl⟩
section
variable {P : Program} {w : World} {K : W.Frag} {mg : Str -> Option Value} {base : Heap} {x : Str} {st : Stmt} {f : Addr} {fd : FuncData} {dv cv : Value} {N ps : List Str} {k : Nat} {sp : Sp}
def BodyOk (P : Program) (w : World) (K : W.Frag) (mg : Str -> Option Value) (base : Heap) (x : Str) (st : Stmt) (f : Addr) (cv : Value) (N : List Str) (k : Nat) (sp : Sp) : Prop :=
 ∀ A outer s H vs Q E, sp vs H Q E -> Room k (A.deeper (envOfC x (defScope st) s.heap.objs.size f cv)) -> ∃ t : TS, t ⟨fun _ H' => Q .non H', Q, fun _ _ => False, fun _ _ => False⟩ (start N vs) H /\ PSs (cxOf CX0 P w K mg base N x (defScope st) f cv A outer s H E).nox (defBody st) t
theorem DefAt.fnOk (d : DefAt K x st f fd dv cv) (sc : FnScope N ps (defScope st)) (len : ∀ vs H Q E, sp vs H Q E -> vs.length = ps.length) (b : BodyOk P w K mg base x st f cv N k sp) : FnOk P w K mg base CX0 (k + 1) f fd ps sp := by
 obtain ⟨hcode, ⟨kV, doc, pm, an, ct, rfl⟩, _, _, _, lk⟩ := d
 refine fn_of lk hcode sc len fun A outer s H vs Q E hr hsp => ?_
 obtain ⟨t, q, h⟩ := b A outer s H vs Q E hsp hr
 exact ⟨t, h.nox, q⟩
def CalleeD (P : Program) (w : World) (K : W.Frag) (mg : Str -> Option Value) (base : Heap) (x : Str) (k : Nat) (ps : List Str) (sp : Sp) (dvs : List V) : Prop :=
 ∃ f fd ds, FnOk P w K mg base CX0 k f fd ps sp /\ mg x = some (.ref f) /\ PySem.W.keepIn K (.ref f) = true /\ Binds K fd ps ds /\ Vals dvs ds
theorem pe_callCD {X : Cx} {x y : Str} {k j : Nat} {ps : List Str} {sp : Sp} {c : Addr} {dvs : List V} {e : Expr} {es : List Expr} {t : TA} {p pos : Pos} (cl : CalleeD X.prog X.w X.K X.mg X.base x k ps sp dvs) (hr : Room k X.A) (hg : Gl X x) (hN : X.N[j]? = some y) (hc : X.env.cells.lookup y = some c)
  (hkd : X.env.scope.names.lookup y = some .cell) (hfn : X.fn y = true) (ha : PA X (e :: es) t) (hdb : (x == ("__debug__" : Str)) = false := by decide) (he : starEach (e :: es) X.env = (false, eval e X.env) :: starEach es X.env := by rfl)
  (hpl : (backTo pos (starEach es X.env)).any (·.1) = false := by rfl) : PE X (.Call (.Name x p) (e :: es) [] pos) (tCallC sp dvs j c t) := by
 obtain ⟨f, fd, ds, F, hm, hk, hb, hd⟩ := cl
 exact pe_callC F hr hg hm hk hb hd hN hc hkd hfn ha hdb he hpl
end
section
variable {X : Cx}
def tDisp1 (tk tv : TE) : TE := fun σ H Q => ∀ p, H p = none -> tk σ (upd H p (.dT [])) fun x H1 => tv σ H1 fun y H2 => H2 p = some (.dT []) /\ ∃ b k, x = .ref b /\ H2 b = some (.tup (k.map kV)) /\ Q (.ref p) (upd H2 p (.dT [(k, y)]))
theorem pe_disp1 {k v : Expr} {tk tv : TE} {pos : Pos} (hu : X.A.units + 1 < cLine) (hk : PE X k tk) (hv : PE X v tv) : PE X (.Dict [some k] [v] pos) (tDisp1 tk tv) := by
 intro pins s σ H Q I q
 have hn := I.hok.fresh (Nat.le_refl s.heap.objs.size)
 have I1 := I.laid (a := s.heap.objs.size) (o := .dT []) (h' := s.heap.push { cls := .type "dict", data := .dict #[] }) (t' := s.toks) (fun _ _ q => Heap.get?_push_of_some _ q) (Nat.le_refl _) (dt_empty s.heap I.big)
 have pairs := pps_cons (X := X) (pos := pos) hk hv pps_nil
 have q1 := q s.heap.objs.size hn
 rw [arm_eval_Dict]
 refine wpAny_bind (wpAny_standAt ?_)
 have shape : (evalEachOpt [some k] X.env).zip ((evalEach [v] X.env).map fun v => do let x <- v; standAt pos; pure x) = (pairTrees [some k] [v] X.env pos).map fun p => (some p.1, p.2) := rfl
 rw [shape, dictDisplay_pairs _ (by intro z; cases z) (by show 1 < 17; decide)]
 refine wpAny_bind ?_
 unfold subDict
 refine wpAny_bind (wpAny_alloc (wpAny_bind (wpAny_holding ?_)))
 rw [if_pos (by show 1 <= 15; decide)]
 let G : List (V × V) -> Hp -> Prop := fun ps H2 => match ps with | [(x, y)] => H2 s.heap.objs.size = some (.dT []) /\ ∃ b k, x = .ref b /\ H2 b = some (.tup (k.map kV)) /\ Q (.ref s.heap.objs.size) (upd H2 s.heap.objs.size (.dT [(k, y)])) | _ => False
 refine wpAny_bind (thn (pairs pins _ σ _ G I1 q1) fun ws s2 ⟨ps, H2, I2, rel, g⟩ => ?_)
 obtain ⟨x, y, rfl⟩ : ∃ x y, ps = [(x, y)] := by
  cases ps with
  | nil => exact False.elim g
  | cons p ps =>
   cases ps with
   | nil => exact ⟨p.1, p.2, rfl⟩
   | cons _ _ => exact False.elim g
 obtain ⟨e, b, key, rfl, eb, q2⟩ := g
 obtain ⟨u, r, rfl, ru, rr⟩ : ∃ u r, ws = [(u, r)] /\ RelV (.ref b) u /\ RelV y r := by
  cases rel with
  | @cons _ q _ qs h t =>
   cases t
   exact ⟨q.1, q.2, rfl, h.1, h.2⟩
 cases ru
 obtain ⟨z, hd, xs, kt, dd⟩ := dt_of I2.hok e
 cases kt
 refine wpAny_holding ?_
 simp only [List.forIn_cons, List.forIn_nil]
 refine wpAny_bind (wpAny_bind (wpAny_bind (wpAny_dictSet_heap (show X.A.units < cLine by lia) (key_of I2.hok eb) dd (fun h' dd' hs => ?_) (by show 0 <= _; exact Nat.zero_le _))))
 refine wpAny_pure (wpAny_pure (wpAny_pure (wpAny_pure ?_)))
 obtain ⟨o, es, ep, hq, h2, h3, h4, _, h5⟩ := dd'
 have key' : upd H2 s.heap.objs.size (.dT [(key, y)]) b = some (.tup (key.map kV)) := by
  rw [upd_ne (ne_of eb e (fun z => nomatch z))]
  exact eb
 have ok : ObjOk X.prog X.w (upd H2 s.heap.objs.size (.dT [(key, y)])) h' s.heap.objs.size (.dT [(key, y)]) := ⟨by show 1 <= sizeLine; decide, hd, _, .cons ⟨rfl, key', rr⟩ .nil, o, es, ep, hq, h2, h3, h4, h5⟩
 exact wpAny_pure ⟨.ref s.heap.objs.size, _, d_write I2 (by rw [e]; exact True.intro) hs ⟨o, hq⟩ ok, rfl, q2⟩
end
def spRefuse : Sp := fun vs H Q _ => ∃ d : Addr, vs = [.ref d, .non] /\ Q .non H
def spStep (G : Hp -> Prop) (U : List (List Nat)) (L : Nat) (g : List Nat -> Nat -> List Nat) : Sp := fun vs H Q _ => ∃ (t : Addr) (x : List Nat) (l : Nat), vs = [.ref t, nv l] /\ G H /\ H t = some (.tup (x.map nv)) /\ x ∈ U /\ l < L /\ NewT H ((g x l).map nv) Q
def ThAt (H : Hp) (l : Addr) (ps : TW) : Prop := ∃ ts : List Addr, H l = some (.lst (ts.map .ref)) /\ ts.length = ps.length /\ ∀ (j : Nat) (t : Addr) (p : List Nat × List Nat), ts[j]? = some t -> ps[j]? = some p -> H t = some (.tup (p.1.map nv))
theorem ThAt.same {H H' : Hp} {l : Addr} {ps : TW} (h : ThAt H l ps) (g : Same H H') : ThAt H' l ps := by
 obtain ⟨ts, h1, h2, h3⟩ := h
 exact ⟨ts, g _ _ h1, h2, fun j t p e1 e2 => g _ _ (h3 j t p e1 e2)⟩
theorem ThAt.more {H : Hp} {l t : Addr} {ps : TW} {ts : List Addr} {p : List Nat × List Nat} (h1 : H l = some (.lst (ts.map .ref))) (h2 : ts.length = ps.length) (h3 : ∀ (j : Nat) (t : Addr) (p : List Nat × List Nat), ts[j]? = some t -> ps[j]? = some p -> H t = some (.tup (p.1.map nv))) (ht : H t = some (.tup (p.1.map nv))) :
  ThAt (upd H l (.lst (ts.map .ref ++ [.ref t]))) l (ps ++ [p]) := by
 have nl : ∀ {a : Addr} {xs : List V}, H a = some (.tup xs) -> a ≠ l := fun h => ne_of h h1 fun e => nomatch e
 refine ⟨ts ++ [t], by rw [upd_same, List.map_append]; rfl, by simp [h2], fun j a q e1 e2 => ?_⟩
 by_cases hj : j < ps.length
 ·rw [List.getElem?_append_left (by lia)] at e1
  rw [List.getElem?_append_left hj] at e2
  have z := h3 j a q e1 e2
  rw [upd_ne (nl z)]
  exact z
 ·rw [List.getElem?_append_right (by lia)] at e1
  rw [List.getElem?_append_right (by lia)] at e2
  have z : j - ps.length = 0 := by
   have := (List.getElem?_eq_some_iff.mp e2).1
   simp at this
   lia
  rw [h2, z] at e1
  rw [z] at e2
  cases e1
  cases e2
  rw [upd_ne (nl ht)]
  exact ht
structure Srch (H0 H : Hp) (D wa fa : Addr) (ts : List Addr) (ws wv fo : TW) (as : List Addr) : Prop where
 g : Same H0 H
 nD : H0 D = none
 nF : H0 fa = none
 W : WordsAt H D ws as
 wl : H wa = some (.lst (ts.map .ref))
 wt : ∀ (j : Nat) (t : Addr) (p : List Nat × List Nat), ts[j]? = some t -> wv[j]? = some p -> H t = some (.tup (p.1.map nv))
 foll : ThAt H fa fo
 wf : wa ≠ fa
 fas : fa ∉ as
 new : ∀ b ∈ as, H0 b = none
theorem Srch.same {H0 H H' : Hp} {D wa fa : Addr} {ts : List Addr} {ws wv fo : TW} {as : List Addr} (S : Srch H0 H D wa fa ts ws wv fo as) (k : Same H H') : Srch H0 H' D wa fa ts ws wv fo as :=
 ⟨S.g.trans k, S.nD, S.nF, S.W.same k, k _ _ S.wl, fun j t p h1 h2 => k _ _ (S.wt j t p h1 h2), S.foll.same k, S.wf, S.fas, S.new⟩
theorem Srch.more {H0 H : Hp} {D wa fa l t : Addr} {tw : List Addr} {ws wv fo : TW} {as ts : List Addr} {p : List Nat × List Nat} (S : Srch H0 H D wa fa tw ws wv fo as) (hl : H l = some (.lst (p.2.map nv))) (lf : l ≠ fa) (l0 : H0 l = none) (ht : H t = some (.tup (p.1.map nv)))
  (e1 : H fa = some (.lst (ts.map .ref))) (e2 : ts.length = fo.length) (e3 : ∀ (j : Nat) (t : Addr) (p : List Nat × List Nat), ts[j]? = some t -> fo[j]? = some p -> H t = some (.tup (p.1.map nv))) :
  Srch H0 (upd (upd H D (.dT (kvsOf ws as ++ [(nk p.1, .ref l)]))) fa (.lst (ts.map .ref ++ [.ref t]))) D wa fa tw (ws ++ [p]) wv (fo ++ [p]) (as ++ [l]) := by
 have fD : fa ≠ D := ne_of e1 S.W.dict fun e => nomatch e
 have tD : ∀ {a : Addr} {xs : List V}, H a = some (.tup xs) -> a ≠ D := fun h => ne_of h S.W.dict fun e => nomatch e
 have wD : wa ≠ D := ne_of S.wl S.W.dict fun e => nomatch e
 have tF : ∀ {a : Addr} {xs : List V}, H a = some (.tup xs) -> a ≠ fa := fun h => ne_of h e1 fun e => nomatch e
 have W1 := S.W.put (l := l) (p := p) hl
 have f1 : (upd H D (.dT (kvsOf ws as ++ [(nk p.1, .ref l)]))) fa = some (.lst (ts.map .ref)) := by rw [upd_ne fD]; exact e1
 refine ⟨same_upd (same_upd S.g S.nD) S.nF, S.nD, S.nF, ⟨W1.len, ?_, fun j a q h1 h2 => ?_⟩, ?_, fun j a q h1 h2 => ?_, ?_, S.wf, ?_, fun b hb => (List.mem_append.mp hb).elim (S.new b) fun m => by rw [List.mem_singleton.mp m]; exact l0⟩
 ·rw [upd_ne (Ne.symm fD)]
  exact W1.dict
 ·have na : a ≠ fa := fun z => by
   subst z
   rcases List.mem_append.mp (List.mem_of_getElem? h1) with m | m
   ·exact S.fas m
   ·exact lf (List.mem_singleton.mp m).symm
  rw [upd_ne na]
  exact W1.list j a q h1 h2
 ·rw [upd_ne S.wf, upd_ne wD]
  exact S.wl
 ·have z := S.wt j a q h1 h2
  rw [upd_ne (tF z), upd_ne (tD z)]
  exact z
 ·refine ThAt.more f1 e2 (fun j a q h1 h2 => ?_) ?_
  ·have z := e3 j a q h1 h2
   rw [upd_ne (tD z)]
   exact z
  ·rw [upd_ne (tD ht)]
   exact ht
 ·intro m
  rcases List.mem_append.mp m with m | m
  ·exact S.fas m
  ·exact lf (List.mem_singleton.mp m).symm
section
variable {X : Cx} {H0 : Hp} {a st D wa fa : Addr} {sd : FuncData} {ps : List Str} {x0 : List Nat} {L : Nat} {U : List (List Nat)} {g : List Nat -> Nat -> List Nat}
abbrev tStep (X : Cx) : TS := tSeq (tAsg (tCallV X 2 (tCons (tVar 7) (tCons (tVar 8) tNil))) (gName 9)) (tIfS (tB (tDNotIn (tVar 9) (tVar 4)))
 (tSeq (sDPut (tVar 4) (tVar 9) (tOp (rCatS X.K) (tDGet (tVar 4) (tVar 7)) (tLst (tCons (tVar 8) tNil)))) (tSeq (tDrop (tCall spRefuse [] E0 (tCons (tVar 4) (tCons (tVar 3) tNil)))) (tDrop (tBM X.K "list" rAppend (tVar 6) (tCons (tVar 9) tNil))))) tNext)
theorem step_read {d i j : Nat} {ws wv fo : TW} {as ts : List Addr} {th : Addr} {t : List Nat × List Nat} {H : Hp} {En : Ends} {o9 : Option V} (hr : Room 5 X.A) (hst : H0 st = some (LamO st sd)) (h0 : x0 ∈ U) (hU : ∀ x ∈ U, ∀ l, l < L -> g x l ∈ U) (few : U.length <= 4000)
  (hF : FnOk X.prog X.w X.K X.mg X.base CX0 5 st sd ps (spStep (Same H0) U L g)) (hB : Binds X.K sd ps []) (B : Bfs g L x0 d ws wv fo i j) (ht : wv[i]? = some t) (hj : j < L) (hd : d + 1 <= ws.length) (S : Srch H0 H D wa fa ts ws wv fo as) (hth : H th = some (.tup (t.1.map nv)))
  (next : ∀ ws' fo' as' H' v, Bfs g L x0 d ws' wv fo' i (j + 1) -> Srch H0 H' D wa fa ts ws' wv fo' as' -> ws'.length + fo.length = ws.length + fo'.length -> H' th = some (.tup (t.1.map nv)) -> En.nx [some (.ref a), some (nv L), some (.ref st), some .non, some (.ref D), some (.ref wa), some (.ref fa), some (.ref th), some (nv j), some v] H') :
  tStep X En [some (.ref a), some (nv L), some (.ref st), some .non, some (.ref D), some (.ref wa), some (.ref fa), some (.ref th), some (nv j), o9] H := by
 have tw := (B.wave t (List.mem_of_getElem? ht)).1
 have tU : t.1 ∈ U := by
  obtain ⟨r1, r2⟩ := B.run t tw
  rw [<- r2]
  exact goes_in h0 hU t.2 r1
 have fewW : ws.length <= 4000 := by
  have z : (ws.map (·.1)).length <= U.length := few_of B.keys fun x hx => by
   obtain ⟨p, hp, rfl⟩ := List.mem_map.mp hx
   obtain ⟨r1, r2⟩ := B.run p hp
   rw [<- r2]
   exact goes_in h0 hU p.2 r1
  rw [List.length_map] at z
  lia
 refine ⟨_, rfl, st, sd, rfl, S.g _ _ hst, _, rfl, _, rfl, S.g _ _ hst, 5, ps, _, hF, hr, hB, th, t.1, j, rfl, S.g, hth, tU, hj, fun fn H1 g1 e1 => ?_⟩
 have S1 := S.same g1
 have hth1 := g1 _ _ hth
 refine ⟨_, rfl, _, rfl, D, _, rfl, DGet.t S1.W.dict (by rw [nk_kV]; exact e1), _, rfl, ?_⟩
 by_cases hm : g t.1 j ∈ ws.map (·.1)
 ·obtain ⟨p, hp, e⟩ := List.mem_map.mp hm
  obtain ⟨c, v1, _⟩ := S1.W.word B.keys hp
  rw [<- e, v1]
  rw [if_neg (by simp)]
  exact next ws fo as H1 _ (B.old ht hm) S1 rfl hth1
 ·rw [val_no hm]
  refine iteT ?_
  obtain ⟨tw, tl⟩ := B.wave t (List.mem_of_getElem? ht)
  obtain ⟨c, v1, v2⟩ := S1.W.word B.keys tw
  have dg : DGet H1 D (.ref th) (some (.ref c)) := v1 ▸ DGet.t S1.W.dict (by rw [nk_kV]; exact hth1)
  refine ⟨_, rfl, _, rfl, D, _, rfl, dg, _, rfl, by show 1 <= sizeLine; decide, fun p hp => ?_⟩
  have k2 := same_new hp (.lst [nv j])
  refine ⟨c, p, _, _, rfl, rfl, SqL.of (k2 _ _ v2), SqL.of upd_same, by rw [List.length_map, tl, sizeLine_eq]; show d + 1 <= _; lia, fun l hl => ?_⟩
  have k3 := k2.trans (same_new hl (.lst (t.2.map nv ++ [nv j])))
  have S3 := S1.same k3
  have e3 := k3 _ _ e1
  have hl3 : upd (upd H1 p (.lst [nv j])) l (.lst (t.2.map nv ++ [nv j])) l = some (.lst ((t.2 ++ [j]).map nv)) := by rw [upd_same, List.map_append]; rfl
  have hth3 := k3 _ _ hth1
  obtain ⟨tf, f1, f2, f3⟩ := S3.foll
  have lf : l ≠ fa := fun z => by
   obtain ⟨_, q1, _⟩ := S1.foll
   have q2 := k2 _ _ q1
   rw [<- z, hl] at q2
   cases q2
  generalize upd (upd H1 p (.lst [nv j])) l (.lst (t.2.map nv ++ [nv j])) = H3 at S3 e3 hl3 hth3 f1 f3 ⊢
  refine ⟨_, rfl, _, rfl, D, _, rfl, DPut.t S3.W.dict (by rw [nk_kV]; exact e3) (by rw [kvs_len S3.W.len, sizeLine_eq]; lia), ?_⟩
  rw [putK_new _ (val_no hm)]
  have fD : fa ≠ D := ne_of f1 S3.W.dict fun e => nomatch e
  have thD : th ≠ D := ne_of hth3 S3.W.dict fun e => nomatch e
  have thF : th ≠ fa := ne_of hth3 f1 fun e => nomatch e
  have ffD : (upd H3 D (.dT (kvsOf ws as ++ [(nk (g t.1 j), .ref l)]))) fa = some (.lst (tf.map .ref)) := by rw [upd_ne fD]; exact f1
  have fl : tf.length <= 4000 := by
   have z : (fo.map (·.1)).length <= ws.length := by
    rw [<- List.length_map (f := (·.1)) (as := ws)]
    refine few_of ?_ fun x hx => ?_
    ·refine (List.pairwise_map.mpr (B.fup.imp_of_mem fun {p q} hp hq h z => ?_))
     have r1 := (B.run p (B.foll p hp).1).2
     have r2 := (B.run q (B.foll q hq).1).2
     obtain ⟨i1, e1⟩ := List.mem_iff_getElem?.mp (B.foll p hp).1
     obtain ⟨i2, e2⟩ := List.mem_iff_getElem?.mp (B.foll q hq).1
     have ii : i1 = i2 := (List.getElem?_inj (by rw [List.length_map]; exact (List.getElem?_eq_some_iff.mp e1).1) B.keys).mp (by rw [List.getElem?_map, List.getElem?_map, e1, e2]; exact congrArg some z)
     subst ii
     rw [e1] at e2
     cases e2
     exact sl_irr h
    ·obtain ⟨p, hp, rfl⟩ := List.mem_map.mp hx
     exact List.mem_map.mpr ⟨p, (B.foll p hp).1, rfl⟩
   rw [List.length_map] at z
   lia
  refine ⟨_, rfl, _, rfl, D, rfl, _, rfl, .inl ⟨rfl, _, SqL.of ffD⟩, _, rfl, fa, _, _, rfl, rfl, ffD, by rw [List.length_map, sizeLine_eq]; lia, ?_⟩
  exact next (ws ++ [(g t.1 j, t.2 ++ [j])]) (fo ++ [(g t.1 j, t.2 ++ [j])]) (as ++ [l]) _ _ (B.new ht hj hm) (S3.more (p := (g t.1 j, t.2 ++ [j])) hl3 lf ((S1.g.trans k2).free hl) e3 f1 f2 f3) (by simp; lia) (by rw [upd_ne thF, upd_ne thD]; exact hth3)
abbrev tWave (X : Cx) : TS := tFor (iList X.K (tVar 5)) (gName 7) (tFor (iRng1 (tCons (tVar 1) tNil)) (gName 8) (tStep X))
theorem wave_read {d : Nat} {ws0 wv : TW} {as0 ts : List Addr} {H : Hp} {En : Ends} {o7 o8 o9 : Option V} (hr : Room 5 X.A) (hst : H0 st = some (LamO st sd)) (h0 : x0 ∈ U) (hU : ∀ x ∈ U, ∀ l, l < L -> g x l ∈ U) (few : U.length <= 4000) (fewL : L <= 4000)
  (hF : FnOk X.prog X.w X.K X.mg X.base CX0 5 st sd ps (spStep (Same H0) U L g)) (hB : Binds X.K sd ps []) (B : Bfs g L x0 d ws0 wv [] 0 0) (hd : d + 1 <= ws0.length) (S : Srch H0 H D wa fa ts ws0 wv [] as0) (lt : ts.length = wv.length)
  (next : ∀ ws fo as H' o7 o8 o9, Bfs g L x0 d ws wv fo wv.length 0 -> Srch H0 H' D wa fa ts ws wv fo as -> ws.length = ws0.length + fo.length -> En.nx [some (.ref a), some (nv L), some (.ref st), some .non, some (.ref D), some (.ref wa), some (.ref fa), o7, o8, o9] H') :
  tWave X En [some (.ref a), some (nv L), some (.ref st), some .non, some (.ref D), some (.ref wa), some (.ref fa), o7, o8, o9] H := by
 let Pv : Nat -> L2.St -> Hp -> Prop := fun i σ H' => ∃ ws fo as o7 o8 o9, Bfs g L x0 d ws wv fo i 0 /\ Srch H0 H' D wa fa ts ws wv fo as /\ ws.length = ws0.length + fo.length /\
  σ = [some (.ref a), some (nv L), some (.ref st), some .non, some (.ref D), some (.ref wa), some (.ref fa), o7, o8, o9]
 refine ⟨_, rfl, wa, rfl, ⟨_, SqL.of S.wl⟩, for_list (xs := ts.map .ref) Pv ⟨ws0, [], as0, o7, o8, o9, B, S, by simp, rfl⟩ (fun i σ H' _ p => ?_) (fun i x σ H' hx p => ?_) (fun σ H' p => ?_)⟩
 ·obtain ⟨_, _, _, _, _, _, _, S1, _⟩ := p
  exact SqL.of S1.wl
 ·obtain ⟨ws, fo, as, p7, p8, p9, B1, S1, l1, rfl⟩ := p
  rw [List.getElem?_map] at hx
  obtain ⟨th, eth, rfl⟩ := Option.map_eq_some_iff.mp hx
  obtain ⟨hi, _⟩ := List.getElem?_eq_some_iff.mp eth
  obtain ⟨t, ht⟩ : ∃ t, wv[i]? = some t := ⟨_, List.getElem?_eq_getElem (by lia)⟩
  let Pj : Nat -> L2.St -> Hp -> Prop := fun j σ H2 => ∃ ws fo as o8 o9, Bfs g L x0 d ws wv fo i j /\ Srch H0 H2 D wa fa ts ws wv fo as /\ ws.length = ws0.length + fo.length /\
   σ = [some (.ref a), some (nv L), some (.ref st), some .non, some (.ref D), some (.ref wa), some (.ref fa), some (.ref th), o8, o9]
  refine ⟨_, rfl, (L : Int), rfl, by lia, by lia, for_range Pj ⟨ws, fo, as, p8, p9, B1, S1, l1, rfl⟩ (fun j σ H2 hj p => ?_) (fun σ H2 p => ?_)⟩
  ·obtain ⟨ws', fo', as', q8, q9, B2, S2, l2, rfl⟩ := p
   have z : (0 : Int) + ((j : Nat) : Int) = ((j : Nat) : Int) := by lia
   rw [z]
   refine step_read (t := t) hr hst h0 hU few hF hB B2 ht (by simpa using hj) (by lia) S2 (S2.wt i th t eth ht) fun w3 f3 a3 H3 v B3 S3 l3 _ => ⟨w3, f3, a3, _, _, B3, S3, by lia, rfl⟩
  ·obtain ⟨ws', fo', as', q8, q9, B2, S2, l2, rfl⟩ := p
   exact ⟨ws', fo', as', _, _, _, Bfs.next (by simpa using B2) ht, S2, l2, rfl⟩
 ·obtain ⟨ws, fo, as, p7, p8, p9, B1, S1, l1, rfl⟩ := p
  rw [List.length_map, lt] at B1
  exact next ws fo as H' p7 p8 p9 B1 S1 l1
abbrev tReach (X : Cx) : TS := tSeq (tAsg (tDisp1 (tVar 0) (tLst tNil)) (gName 4)) (tSeq (tDrop (tCall spRefuse [] E0 (tCons (tVar 4) (tCons (tVar 3) tNil)))) (tSeq (tAsg (tLst (tCons (tVar 0) tNil)) (gName 5))
 (tSeq (tWhile (fun σ H_1 Q => tVar 5 σ H_1 fun x H' => ∃ k, TruV X.K x H' k /\ Q k H') (tSeq (tAsg (tLst tNil) (gName 6)) (tSeq (tWave X) (tAsg (tVar 6) (gName 5))))) (tRet (tVar 4)))))
theorem few_ws {d i j : Nat} {ws wv fo : TW} (h0 : x0 ∈ U) (hU : ∀ x ∈ U, ∀ l, l < L -> g x l ∈ U) (B : Bfs g L x0 d ws wv fo i j) : ws.length <= U.length := by
 rw [<- List.length_map (f := (·.1)) (as := ws)]
 exact few_of B.keys fun x hx => by
  obtain ⟨p, hp, rfl⟩ := List.mem_map.mp hx
  obtain ⟨r1, r2⟩ := B.run p hp
  rw [<- r2]
  exact goes_in h0 hU p.2 r1
theorem reach_read {En : Ends} (hr : Room 5 X.A) (ha : H0 a = some (.tup (x0.map nv))) (hst : H0 st = some (LamO st sd)) (h0 : x0 ∈ U) (hU : ∀ x ∈ U, ∀ l, l < L -> g x l ∈ U) (few : U.length <= 4000) (fewL : L <= 4000)
  (hF : FnOk X.prog X.w X.K X.mg X.base CX0 5 st sd ps (spStep (Same H0) U L g)) (hB : Binds X.K sd ps []) (q : ∀ D ws as H', Same H0 H' -> WordsAt H' D ws as -> (∀ b ∈ D :: as, H0 b = none) -> Told g L x0 ws -> En.rt (.ref D) H') :
  tReach X En [some (.ref a), some (nv L), some (.ref st), some .non, none, none, none, none, none, none] H0 := by
 intro D hD
 have kD := same_new hD (.dT [])
 refine ⟨_, rfl, by show 0 <= sizeLine; decide, fun l hl => ?_⟩
 have kl := same_new hl (.lst [])
 refine ⟨kl _ _ upd_same, a, nk x0, rfl, by rw [nk_kV]; exact (kD.trans kl) _ _ ha, ?_⟩
 have lD : l ≠ D := fun z => by
  subst z
  rw [upd_same] at hl
  cases hl
 have W0 : WordsAt (upd (upd (upd H0 D (.dT [])) l (.lst [])) D (.dT [(nk x0, .ref l)])) D [(x0, [])] [l] := ⟨rfl, upd_same, fun j b p h1 h2 => by
  cases j with
  | zero =>
   cases h1
   cases h2
   rw [upd_ne lD, upd_same]
   rfl
  | succ j => simp at h1⟩
 have g0 : Same H0 (upd (upd (upd H0 D (.dT [])) l (.lst [])) D (.dT [(nk x0, .ref l)])) := same_upd (kD.trans kl) hD
 generalize upd (upd (upd H0 D (.dT [])) l (.lst [])) D (.dT [(nk x0, .ref l)]) = H1 at W0 g0 ⊢
 refine ⟨_, rfl, _, rfl, D, rfl, _, rfl, by show 1 <= sizeLine; decide, fun wa hw => ?_⟩
 have kw := same_new hw (.lst [.ref a])
 let Wv : Nat -> L2.St -> Hp -> Prop := fun m σ H => ∃ (d : Nat) (ws wv : TW) (as : List Addr) (wa : Addr) (ts : List Addr) (o6 o7 o8 o9 : Option V), Bfs g L x0 d ws wv [] 0 0 /\ WordsAt H D ws as /\ H wa = some (.lst (ts.map .ref)) /\ (∀ (j : Nat) (t : Addr) (p : List Nat × List Nat), ts[j]? = some t -> wv[j]? = some p -> H t = some (.tup (p.1.map nv))) /\ ts.length = wv.length /\ Same H0 H /\ (∀ b ∈ as, H0 b = none) /\
   (wv ≠ [] -> d + 1 <= ws.length) /\ m = 2 * (U.length - ws.length) + (if wv = [] then 0 else 1) /\ σ = [some (.ref a), some (nv L), some (.ref st), some .non, some (.ref D), some (.ref wa), o6, o7, o8, o9]
 refine ⟨Wv, ⟨_, 0, [(x0, [])], [(x0, [])], [l], wa, [a], none, none, none, none, Bfs.start, W0.same kw, upd_same, ?_, rfl, g0.trans kw, fun b hb => (by rw [List.mem_singleton.mp hb]; exact kD.free hl), fun _ => Nat.le_refl _, rfl, rfl⟩, fun m σ H P => ?_⟩
 ·intro j t p h1 h2
  cases j with
  | zero =>
   cases h1
   cases h2
   exact (g0.trans kw) _ _ ha
  | succ j => simp at h1
 ·obtain ⟨d, ws, wv, as, wa, ts, o6, o7, o8, o9, B, W, wl, wt, lt, gg, nw, deep, hm, rfl⟩ := P
  refine ⟨_, rfl, !(ts.map V.ref).isEmpty, .inl ⟨_, SqL.of wl, rfl⟩, ?_⟩
  by_cases hwv : wv = []
  ·subst hwv
   have e : ts = [] := List.length_eq_zero_iff.mp lt
   subst e
   rw [if_neg (by simp)]
   exact ⟨_, rfl, q D ws as H gg W (fun b hb => (List.mem_cons.mp hb).elim (fun e => e ▸ hD) (nw b)) B.told⟩
  ·have ne : ts ≠ [] := fun z => hwv (List.length_eq_zero_iff.mp (by rw [<- lt, z]; rfl))
   have c1 : (!(ts.map V.ref).isEmpty) = true := by
    cases ts with
    | nil => exact absurd rfl ne
    | cons => rfl
   rw [c1]
   refine iteT ?_
   refine ⟨fun σ' H' => ∃ m', m' < m /\ Wv m' σ' H', fun σ' H' h => h, by show 0 <= sizeLine; decide, fun fa hfa => ?_⟩
   have kf := same_new hfa (.lst [])
   have fas : fa ∉ as := fun m => by
    obtain ⟨j, e⟩ := List.mem_iff_getElem?.mp m
    obtain ⟨hj, _⟩ := List.getElem?_eq_some_iff.mp e
    have z := W.list j fa _ e (List.getElem?_eq_getElem (by rw [<- W.len]; exact hj))
    rw [hfa] at z
    cases z
   have S : Srch H0 (upd H fa (.lst [])) D wa fa ts ws wv [] as := ⟨gg.trans kf, hD, gg.free hfa, W.same kf, kf _ _ wl, fun j t p h1 h2 => kf _ _ (wt j t p h1 h2), ⟨[], upd_same, rfl, fun j t p h1 _ => by simp at h1⟩, ne_of_none wl hfa, fas, nw⟩
   refine wave_read (En := { En with nx := _, ct := _, bk := _ }) hr hst h0 hU few fewL hF hB B (deep hwv) S lt fun ws' fo as' H' p7 p8 p9 B' S' l' => ?_
   obtain ⟨tf, f1, f2, f3⟩ := S'.foll
   have z1 := few_ws h0 hU B'
   have z2 := deep hwv
   refine ⟨_, rfl, 2 * (U.length - ws'.length) + (if fo = [] then 0 else 1), ?_, d + 1, ws', fo, as', fa, tf, _, _, _, _, B'.wave', S'.W, f1, f3, f2, S'.g, S'.new, fun nf => ?_, rfl, rfl⟩
   ·rw [hm, if_neg hwv]
    by_cases hf : fo = []
    ·subst hf
     rw [if_pos rfl]
     simp at l'
     lia
    ·have := List.length_pos_iff.mpr hf
     rw [if_neg hf]
     lia
   ·have := List.length_pos_iff.mpr nf
    lia
end
theorem val_mem {ws : TW} {as : List Addr} {k : List Key} {a : Addr} (h : valV (kvsOf ws as) k = some (.ref a)) : a ∈ as := by
 unfold valV at h
 obtain ⟨kv, h1, h2⟩ := Option.map_eq_some_iff.mp h
 obtain ⟨i, hi⟩ := List.mem_iff_getElem?.mp (List.mem_of_find?_eq_some h1)
 unfold kvsOf at hi
 rw [List.getElem?_zipWith] at hi
 cases e1 : ws[i]? with
 | none => rw [e1] at hi; cases hi
 | some p =>
  cases e2 : as[i]? with
  | none => rw [e1, e2] at hi; cases hi
  | some b =>
   rw [e1, e2] at hi
   cases hi
   cases h2
   exact List.mem_of_getElem? e2
section
variable {X : Cx}
def rInD (K : W.Frag) (neg : Bool) : R2 := fun x y H Q => ∃ (l : Addr) (n : Nat) (d : Dt) (ds : List Dt) (xs : List V), y = .ref l /\ SqL K H l xs /\ xs.length = ds.length /\ Rep K H n d x /\ (∀ (i : Nat) d' v, ds[i]? = some d' -> xs[i]? = some v -> Rep K H n d' v) /\ n <= 30 /\ ∀ b, (b = true ↔ d ∈ ds) -> Q (.bl (if neg then !b else b)) H
theorem relV_inj {K : W.Frag} {H : Hp} {n : Nat} {d d' : Dt} {y z : V} {u : Value} (hy : Rep K H n d y) (hz : Rep K H n d' z) (r1 : RelV y u) (r2 : RelV z u) : y = z := by
 have ry : ∀ {y : V} {d : Dt}, Rep K H n d y -> RelV y u -> (y = .non /\ u = .none) ∨ (∃ i t, y = .int i /\ u = .int i t) ∨ (∃ x t, y = .str x /\ u = .str x t) ∨ ∃ a, y = .ref a /\ u = .ref a := fun h r => by
  cases h with
  | non => exact .inl ⟨rfl, r⟩
  | int _ i =>
   obtain ⟨t, e⟩ := r
   exact .inr (.inl ⟨i, t, rfl, e⟩)
  | str _ x =>
   obtain ⟨t, e⟩ := r
   exact .inr (.inr (.inl ⟨x, t, rfl, e⟩))
  | lst => exact .inr (.inr (.inr ⟨_, rfl, r⟩))
  | tup => exact .inr (.inr (.inr ⟨_, rfl, r⟩))
 rcases ry hy r1 with ⟨rfl, e⟩ | ⟨i, t, rfl, e⟩ | ⟨x, t, rfl, e⟩ | ⟨a, rfl, e⟩ <;> rcases ry hz r2 with ⟨rfl, e'⟩ | ⟨i', t', rfl, e'⟩ | ⟨x', t', rfl, e'⟩ | ⟨a', rfl, e'⟩ <;> rw [e] at e' <;> cases e' <;> rfl
theorem inD_eq {pins : List (Addr × Obj)} {σ : St} {H : Hp} {s : Shared} {x : V} {v : Value} {n : Nat} {d : Dt} {ds : List Dt} {xs : List V} {its : List Value} (hu : X.A.units + 64 < cLine) (I : Inv X pins σ H s) (rx : RelV x v) (r : Vals xs its) (hl : xs.length = ds.length) (hd : Rep X.K H n d x)
  (hi : ∀ (i : Nat) d' v, ds[i]? = some d' -> xs[i]? = some v -> Rep X.K H n d' v) (hn : n <= 30) : ∃ e : Value -> Bool, (∀ u ∈ its, SeqAt.EqAt X.A.in1 s u v (e u)) /\ (its.any e = true ↔ d ∈ ds) := by
 have one : ∀ (i : Nat) u, its[i]? = some u -> ∃ b d', ds[i]? = some d' /\ SeqAt.EqAt X.A.in1 s u v b /\ (b = true ↔ d' = d) := fun i u hu' => by
  obtain ⟨h1, _⟩ := List.getElem?_eq_some_iff.mp hu'
  have h2 := r.length
  obtain ⟨y, ey⟩ : ∃ y, xs[i]? = some y := ⟨_, List.getElem?_eq_getElem (by lia)⟩
  obtain ⟨d', ed⟩ : ∃ d', ds[i]? = some d' := ⟨_, List.getElem?_eq_getElem (by lia)⟩
  obtain ⟨u', eu, ru⟩ := Vals.get r ey
  rw [hu'] at eu
  cases eu
  obtain ⟨b, h3, h4⟩ := eq_rep I n (A := X.A.in1) (by show X.A.units + 1 + n < cLine; lia) (hi i d' y ed ey) hd ru rx
  exact ⟨b, d', ed, h3, h4⟩
 have each : ∀ u, ∃ b, (∃ i : Nat, its[i]? = some u) -> SeqAt.EqAt X.A.in1 s u v b /\ ∃ (i : Nat) (d' : Dt), its[i]? = some u /\ ds[i]? = some d' /\ (b = true ↔ d' = d) := fun u => by
  by_cases h : ∃ i : Nat, its[i]? = some u
  ·obtain ⟨i, hi'⟩ := h
   obtain ⟨b, d', h1, h2, h3⟩ := one i u hi'
   exact ⟨b, fun _ => ⟨h2, i, d', hi', h1, h3⟩⟩
  ·exact ⟨true, fun z => absurd z h⟩
 refine ⟨fun u => Classical.choose (each u), fun u hu' => (Classical.choose_spec (each u) (List.mem_iff_getElem?.mp hu')).1, ?_⟩
 rw [List.any_eq_true]
 constructor
 ·rintro ⟨u, hu', hb⟩
  obtain ⟨_, i, d', h1, h2, h3⟩ := Classical.choose_spec (each u) (List.mem_iff_getElem?.mp hu')
  rw [<- h3.mp hb]
  exact List.mem_of_getElem? h2
 ·intro hm
  obtain ⟨i, ed⟩ := List.mem_iff_getElem?.mp hm
  obtain ⟨h1, _⟩ := List.getElem?_eq_some_iff.mp ed
  have h2 := r.length
  obtain ⟨u, eu⟩ : ∃ u, its[i]? = some u := ⟨_, List.getElem?_eq_getElem (by lia)⟩
  refine ⟨u, List.mem_of_getElem? eu, ?_⟩
  obtain ⟨_, j, d', g1, g2, g3⟩ := Classical.choose_spec (each u) ⟨i, eu⟩
  refine g3.mpr ?_
  obtain ⟨y, ey⟩ : ∃ y, xs[i]? = some y := ⟨_, List.getElem?_eq_getElem (by lia)⟩
  obtain ⟨h4, _⟩ := List.getElem?_eq_some_iff.mp g2
  obtain ⟨z, ez⟩ : ∃ z, xs[j]? = some z := ⟨_, List.getElem?_eq_getElem (by lia)⟩
  obtain ⟨u1, e1, r1⟩ := Vals.get r ey
  obtain ⟨u2, e2, r2⟩ := Vals.get r ez
  rw [eu] at e1
  rw [g1] at e2
  cases e1
  cases e2
  have yz : y = z := relV_inj (hi i d y ed ey) (hi j d' z g2 ez) r1 r2
  subst yz
  exact rep_inj I n (hi j d' y g2 ez) (hi i d y ed ey)
theorem op_notInD (hu : X.A.units + 64 < cLine) : OpR X (compareOp .NotIn) (rInD X.K true) := by
 intro pins s σ H x y v u Q I rx ry h
 obtain ⟨l, n, d, ds, xs, rfl, hq, hl, hd, hi, hn, q⟩ := h
 cases ry
 obtain ⟨its, r, pl, hz⟩ := I.list hq
 obtain ⟨e, h1, h2⟩ := inD_eq hu I rx r hl hd hi hn
 refine SeqAt.notIn_listAt e pl.isList (fun w hw => h1 w (by simpa using hw)) ⟨.bl _, H, I, rfl, ?_⟩
 rw [show its.toArray.any e = its.any e by simp]
 exact q _ h2
theorem pg_own2 {x y : Str} {p q tp : Pos} {k : Nat} {sc : Scope} (S : CompScope X [x, y] sc) (hc : X.calm = true) (hx : sc.names.lookup x = some .local) (hy : sc.names.lookup y = some .local) :
  ∀ C s H fp, PG (cxC X [x, y] sc C s H fp) (.Tuple [.Name x p, .Name y q] k tp) (gTup X.K 2 (gCons (gName 0) (gCons (gName 1) gNil))) := fun C s H fp =>
 pg_tup hc (pgs_cons (pg_name S.nd rfl (.inl (lookup_relabel_local hx)) (.inr (lookup_relabel_local hx))) (pgs_cons (pg_name S.nd rfl (.inl (lookup_relabel_local hy)) (.inr (lookup_relabel_local hy))) pgs_nil))
end
section
variable {X : Cx}
def rIndexD (K : W.Frag) : V -> List V -> Hp -> VK -> Prop := fun x vs H Q => ∃ (l : Addr) (y : V) (n : Nat) (d : Dt) (ds : List Dt) (xs : List V) (j : Nat), x = .ref l /\ vs = [y] /\ SqL K H l xs /\ xs.length = ds.length /\ Rep K H n d y /\ (∀ (i : Nat) d' v, ds[i]? = some d' -> xs[i]? = some v -> Rep K H n d' v) /\ n <= 30 /\ ds[j]? = some d /\ (∀ i : Nat, i < j -> ds[i]? ≠ some d) /\ Q (.int (j : Nat)) H
theorem inD_at {pins : List (Addr × Obj)} {σ : St} {H : Hp} {s : Shared} {x : V} {v : Value} {n : Nat} {d : Dt} {ds : List Dt} {xs : List V} {its : List Value} (hu : X.A.units + 64 < cLine) (I : Inv X pins σ H s) (rx : RelV x v) (r : Vals xs its) (hl : xs.length = ds.length) (hd : Rep X.K H n d x)
  (hi : ∀ (i : Nat) d' v, ds[i]? = some d' -> xs[i]? = some v -> Rep X.K H n d' v) (hn : n <= 30) : ∃ e : Value -> Bool, (∀ u ∈ its, SeqAt.EqAt X.A.in1 s u v (e u)) /\ ∀ (i : Nat) u d', its[i]? = some u -> ds[i]? = some d' -> (e u = true ↔ d' = d) := by
 have h2 := r.length
 have one : ∀ (i : Nat) u, its[i]? = some u -> ∃ b d', ds[i]? = some d' /\ SeqAt.EqAt X.A.in1 s u v b /\ (b = true ↔ d' = d) := fun i u hu' => by
  obtain ⟨h1, _⟩ := List.getElem?_eq_some_iff.mp hu'
  obtain ⟨y, ey⟩ : ∃ y, xs[i]? = some y := ⟨_, List.getElem?_eq_getElem (by lia)⟩
  obtain ⟨d', ed⟩ : ∃ d', ds[i]? = some d' := ⟨_, List.getElem?_eq_getElem (by lia)⟩
  obtain ⟨u', eu, ru⟩ := Vals.get r ey
  rw [hu'] at eu
  cases eu
  obtain ⟨b, h3, h4⟩ := eq_rep I n (A := X.A.in1) (by show X.A.units + 1 + n < cLine; lia) (hi i d' y ed ey) hd ru rx
  exact ⟨b, d', ed, h3, h4⟩
 have each : ∀ u, ∃ b, (∃ i : Nat, its[i]? = some u) -> SeqAt.EqAt X.A.in1 s u v b /\ ∃ (i : Nat) (d' : Dt), its[i]? = some u /\ ds[i]? = some d' /\ (b = true ↔ d' = d) := fun u => by
  by_cases h : ∃ i : Nat, its[i]? = some u
  ·obtain ⟨i, hi'⟩ := h
   obtain ⟨b, d', h1, h2, h3⟩ := one i u hi'
   exact ⟨b, fun _ => ⟨h2, i, d', hi', h1, h3⟩⟩
  ·exact ⟨true, fun z => absurd z h⟩
 refine ⟨fun u => Classical.choose (each u), fun u hu' => (Classical.choose_spec (each u) (List.mem_iff_getElem?.mp hu')).1, fun i u d0 eu ed => ?_⟩
 obtain ⟨_, j, d', g1, g2, g3⟩ := Classical.choose_spec (each u) ⟨i, eu⟩
 rw [g3]
 obtain ⟨h1, _⟩ := List.getElem?_eq_some_iff.mp ed
 obtain ⟨y, ey⟩ : ∃ y, xs[i]? = some y := ⟨_, List.getElem?_eq_getElem (by lia)⟩
 obtain ⟨h4, _⟩ := List.getElem?_eq_some_iff.mp g2
 obtain ⟨z, ez⟩ : ∃ z, xs[j]? = some z := ⟨_, List.getElem?_eq_getElem (by lia)⟩
 obtain ⟨u1, e1, r1⟩ := Vals.get r ey
 obtain ⟨u2, e2, r2⟩ := Vals.get r ez
 rw [eu] at e1
 rw [g1] at e2
 cases e1
 cases e2
 have yz : y = z := relV_inj (hi i d0 y ed ey) (hi j d' z g2 ez) r1 r2
 subst yz
 have dd : d' = d0 := rep_inj I n (hi j d' y g2 ez) (hi i d0 y ed ey)
 rw [dd]
theorem mt_indexD (hu : X.A.units + 64 < cLine) : MtR X "list.index" (rIndexD X.K) := by
 intro pins s σ H x vs v us Q I rx rv h
 obtain ⟨l, y, m, d, ds, xs, j, rfl, rfl, hl, ll, hd, hi, hn, ej, no, q⟩ := h
 cases rx
 obtain ⟨u, rfl, ru⟩ := rv.one
 obtain ⟨its, r, ⟨⟨c1, d1, k1, s1⟩, n, e, ec, ed, ek⟩, hz⟩ := I.list hl
 simp only at ec ed ek
 subst ec ed ek
 obtain ⟨eq, h1, h2⟩ := inD_at hu I ru r ll hd hi hn
 have lr := r.length
 have lj := (List.getElem?_eq_some_iff.mp ej).1
 rw [sizeLine_eq] at hz
 refine call_meets F.slot_list_index ⟨_, e, rfl⟩ F.entry_list_index (F.args_list_index_2 _ _) (SeqAt.list_indexAt l its.toArray n none s1 u eq j (by simp only [List.size_toArray]; lia) (by lia) ?_ ?_)
  ⟨e, fun y hy => h1 y (by simpa using hy), ⟨.int (j : Nat), H, I.tok _, ⟨_, rfl⟩, q⟩⟩
 ·show eq its[j] = true
  exact (h2 j _ d (List.getElem?_eq_getElem (by lia)) ej).mpr rfl
 ·intro k hk1 hk2
  show eq its[k] = false
  have hk : k < ds.length := by lia
  cases z : eq its[k] with
  | false => rfl
  | true =>
   have z2 := (h2 k _ _ (List.getElem?_eq_getElem (by lia)) (List.getElem?_eq_getElem hk)).mp z
   exact absurd (by rw [List.getElem?_eq_getElem hk, z2]) (no k hk2)
theorem pe_bm_k {X : Cx} {K : W.Frag} {e : Expr} {T : String} {to : TE} {t : TA} (r : W.Frag -> V -> List V -> Hp -> VK -> Prop) (hK : X.K = K) (h : PE X e (tBM X.K T (r X.K) to t)) : PE X e (tBM K T (r K) to t) := hK ▸ h
end
section
variable {P : Program} {w : World} {A : Around} {E : Value -> Shared -> Prop} {s : Shared} {it d : Addr} {i ep : Nat} {es : Array DictEntry}
abbrev stepObj (d : Addr) (i n ep : Nat) : Obj := { cls := .type "dict_keyiterator", data := .fields #[.ref d, .int i 0, .int n 0, .int ep 0] }
theorem keys_item {en : DictEntry} {Q : Option Value -> Shared -> Prop} (G : s.heap.get? it = some (stepObj d i es.size ep)) (L : Lies s.heap d es ep) (hx : es[i]? = some en)
  (q : ∀ h', h'.get? it = some (stepObj d (i + 1) es.size ep) -> Heap.SameBut it s.heap h' -> Q (some en.key) { s with heap := h' }) : wpAny (model P w) A (pyNext (.ref it)) Q E s := by
 obtain ⟨o, ho, _, hd⟩ := L
 have ty : s.TypeIs (.ref it) "dict_keyiterator" := ⟨_, G, rfl⟩
 unfold pyNext
 refine wpAny_bind (wpAny_attempt (wpAny_callSpecial?_slot (name := Str.ofString "__next__") ty F.slot_dict_keyiterator_next (wpAny_call_entry F.slot_dict_keyiterator_next ty F.entry_dict_keyiterator_next ?_ (F.args_dict_keyiterator_next_1 _))))
 refine wpAny_bind (wpAny_pure (wpAny_bind (wpAny_bind ?_)))
 refine wpAny_bind (wpAny_typeNameOfWhole_keyiter ty (wpAny_pure (wpAny_bind (wpAny_fieldsOf G rfl ?_))))
 have own2 : Builtin.Dict_items.ownsTuple "dict_keyiterator" = false := by decide
 simp only [own2, Bool.false_eq_true, if_false]
 refine show wpAny _ _ (if (Value.ref d == Value.none) = true then _ else _) _ _ s from (if_neg (show ¬ ((Value.ref d == Value.none) = true) from Bool.false_ne_true)) ▸ wpAny_bind (wpAny_pure (wpAny_bind (wpAny_dictEntries ho hd ?_)))
 rw [if_neg (by simp)]
 refine wpAny_bind (wpAny_pure (wpAny_bind (wpAny_dictEpoch ho hd ?_)))
 rw [if_neg (by simp)]
 refine wpAny_pure ?_
 have at0 : (if ((i : Nat) : Int) < 0 then none else es[((i : Nat) : Int).toNat]?) = some en := by
  rw [if_neg (by lia), Int.toNat_natCast]
  exact hx
 show wpAny _ _ (match (if ((i : Nat) : Int) < 0 then none else es[((i : Nat) : Int).toNat]?) with | some e => _ | none => _) _ _ s
 rw [at0]
 refine wpAny_bind (wpAny_bind (wpAny_typeNameOfWhole_keyiter ty (wpAny_pure (wpAny_bind (wpAny_isOneOf_keyiter ty ?_)))))
 refine show wpAny _ _ (setField (.ref it) 1 (rawInt ((i : Int) + 1)) >>= _) _ _ s from wpAny_bind (wpAny_setField_rec G (by simp) fun h1 e1 s1 => wpAny_bind (wpAny_holding ?_))
 have e1' : h1.get? it = some (stepObj d (i + 1) es.size ep) := by
  have z : ((i + 1 : Nat) : Int) = (i : Int) + 1 := by lia
  unfold stepObj
  rw [z]
  simpa [rawInt] using e1
 have ty1 : Shared.TypeIs { s with heap := h1 } (.ref it) "dict_keyiterator" := ⟨_, e1', rfl⟩
 refine wpAny_bind (wpAny_isOneOf_keyiter ty1 ?_)
 exact show wpAny _ _ (pure en.key) _ _ { s with heap := h1 } from wpAny_pure (wpAny_pure ⟨_, rfl, wpAny_pure (q h1 e1' s1)⟩)
theorem keys_end {Q : Option Value -> Shared -> Prop} (hh : A.handled = none) (G : s.heap.get? it = some (stepObj d i es.size ep)) (L : Lies s.heap d es ep) (hx : es[i]? = none)
  (q : ∀ h', Heap.ExtBut it s.heap h' -> Q none { s with heap := h' }) : wpAny (model P w) A (pyNext (.ref it)) Q E s := by
 obtain ⟨o, ho, _, hd⟩ := L
 have ty : s.TypeIs (.ref it) "dict_keyiterator" := ⟨_, G, rfl⟩
 unfold pyNext
 refine wpAny_bind (wpAny_attempt (wpAny_callSpecial?_slot (name := Str.ofString "__next__") ty F.slot_dict_keyiterator_next (wpAny_call_entry F.slot_dict_keyiterator_next ty F.entry_dict_keyiterator_next ?_ (F.args_dict_keyiterator_next_1 _))))
 refine wpAny_bind (wpAny_pure (wpAny_bind (wpAny_bind ?_)))
 refine wpAny_bind (wpAny_typeNameOfWhole_keyiter ty (wpAny_pure (wpAny_bind (wpAny_fieldsOf G rfl ?_))))
 have own2 : Builtin.Dict_items.ownsTuple "dict_keyiterator" = false := by decide
 simp only [own2, Bool.false_eq_true, if_false]
 refine show wpAny _ _ (if (Value.ref d == Value.none) = true then _ else _) _ _ s from (if_neg (show ¬ ((Value.ref d == Value.none) = true) from Bool.false_ne_true)) ▸ wpAny_bind (wpAny_pure (wpAny_bind (wpAny_dictEntries ho hd ?_)))
 rw [if_neg (by simp)]
 refine wpAny_bind (wpAny_pure (wpAny_bind (wpAny_dictEpoch ho hd ?_)))
 rw [if_neg (by simp)]
 refine wpAny_pure ?_
 have at0 : (if ((i : Nat) : Int) < 0 then none else es[((i : Nat) : Int).toNat]?) = none := by
  rw [if_neg (by lia), Int.toNat_natCast]
  exact hx
 show wpAny _ _ (match (if ((i : Nat) : Int) < 0 then none else es[((i : Nat) : Int).toNat]?) with | some e => _ | none => _) _ _ s
 rw [at0]
 refine wpAny_bind (wpAny_bind (wpAny_typeNameOfWhole_keyiter ty (wpAny_pure ?_)))
 refine show wpAny _ _ (setField (.ref it) 0 .none >>= _) _ _ s from wpAny_bind (wpAny_setField_rec G (by simp) fun h1 e1 sb => ?_)
 refine wpAny_bind (m := newExc _ _) ?_
 simp only [newExc, newTuple]
 refine wpAny_bind (wpAny_newObj_type ?_ (by size_fits))
 refine wpAny_bind (m := firstArgMember _ _) (wpAny_of_eq (a := Value.none) (by first | rfl | (unfold firstArgMember; rfl)) (wpAny_newObj_type ?_ (by size_fits)))
 refine wpAny_raiseNew_none (by simpa using hh) (wpAny_bind (wpAny_isInstance (T := "StopIteration") (b := true) ⟨_, Heap.get?_push_size _ rfl, rfl⟩ isSubtype_stop (wpAny_pure ?_)))
 exact q _ fun b o nb z => Heap.get?_push_of_some _ (Heap.get?_push_of_some _ (sb.extBut b o nb z))
theorem keys_iter {Q : Value -> Shared -> Prop} (nd : (d == sysModules) = false) (L : Lies s.heap d es ep) (q : Q (.ref s.heap.objs.size) { s with heap := s.heap.push (stepObj d 0 es.size ep) }) : wpAny (model P w) A (pyIter (.ref d)) Q E s := by
 obtain ⟨o, ho, x, hd⟩ := L
 have ty : s.TypeIs (.ref d) "dict" := ⟨o, ho, x.1⟩
 refine wpAny_pyIter_slot ty F.slot_dict_iter (wpAny_call_entry F.slot_dict_iter ty F.entry_dict_iter ?_ (F.args_dict_iter_1 _))
 unfold Builtin.«dict.__iter__» Builtin.Dict.dictSlotNone
 refine wpAny_bind (wpAny_bind (wpAny_notOrdered_dict ty ?_))
 refine show wpAny _ _ (pure (Value.ref d)) _ _ s from wpAny_pure (show wpAny _ _ (Builtin.Dict.showsAll d >>= _) _ _ s from ?_)
 have all : Builtin.Dict.showsAll d = pure () := by
  unfold Builtin.Dict.showsAll
  rw [nd]
  rfl
 rw [all]
 refine wpAny_bind (wpAny_pure (wpAny_bind (wpAny_dictEntries ho hd (wpAny_bind (wpAny_dictEpoch ho hd ?_)))))
 exact wpAny_bind (wpAny_newObj_type (wpAny_pure ⟨_, rfl, "dict_keyiterator", _, ⟨_, Heap.get?_push_size _ rfl, rfl⟩, F.slot_dict_keyiterator_next.lookup, q⟩))
theorem walksK (hh : A.handled = none) (hne : d ≠ it) : Walks P w A it [it, d] [it] es.size (fun i v => ∃ en, es[i]? = some en /\ v = en.key) (fun i h => h.get? it = some (stepObj d i es.size ep) /\ Lies h d es ep) where
 sub := fun b hb => List.mem_cons.mpr (.inl (List.mem_singleton.mp hb))
 frame := fun i h h' st k => ⟨k it (List.mem_cons_self ..) _ st.1, let ⟨o, e, x⟩ := st.2; ⟨o, k d (List.mem_cons_of_mem _ (List.mem_singleton.mpr rfl)) _ e, x⟩⟩
 item := fun i s Q E hi st q => by
  obtain ⟨en, he⟩ : ∃ en, es[i]? = some en := ⟨_, Array.getElem?_eq_getElem hi⟩
  refine keys_item st.1 st.2 he fun h' e1 sb => q en.key h' s.toks ⟨en, he, rfl⟩ ⟨e1, let ⟨o, e, x⟩ := st.2; ⟨o, sb.extBut _ _ hne e, x⟩⟩ fun b o nb e => sb.extBut _ _ (fun z => nb (List.mem_singleton.mpr z)) e
 done := fun s Q E st q => keys_end hh st.1 st.2 (Array.getElem?_eq_none (Nat.le_refl _)) fun h' x => q h' s.toks fun b o nb e => x b o (fun z => nb (List.mem_singleton.mpr z)) e
 self := fun i s Q E st q => by
  have ty : s.TypeIs (.ref it) "dict_keyiterator" := ⟨_, st.1, rfl⟩
  refine wpAny_pyIter_slot ty F.slot_dict_keyiterator_iter (wpAny_call_entry F.slot_dict_keyiterator_iter ty F.entry_dict_keyiterator_iter ?_ (F.args_dict_keyiterator_iter_1 _))
  exact show wpAny _ _ (ret (.ref it)) _ _ s from wpAny_pure ⟨_, rfl, "dict_keyiterator", _, ty, F.slot_dict_keyiterator_next.lookup, q⟩
theorem srcK (nd : (d == sysModules) = false) : PySem.W.KdlSrc P w "dict" d d es.size (fun i v => ∃ en, es[i]? = some en /\ v = en.key) (fun h => Lies h d es ep) where
 type := fun _ e => e.typeIs
 there := fun _ ⟨_, e, _⟩ => ⟨Heap.lt_size e, Heap.lt_size e⟩
 keep := fun _ _ ⟨o, e, x⟩ k => ⟨o, k d (.inl rfl) _ e, x⟩
 notList := by decide
 notTuple := by decide
 hint := fun _ _ _ _ e q => PySem.W.kdl_hint_dict e.typeIs q
 iter := fun _ _ hh e => ⟨_, _, fun _ _ q => keys_iter nd e q, walksK hh (Nat.ne_of_lt (let ⟨_, z, _⟩ := e; Heap.lt_size z)), Heap.get?_push_size _ rfl, let ⟨o, z, x⟩ := e; ⟨o, Heap.get?_push_of_some _ z, x⟩⟩
end
open PySem PySem.W PyProof.Rows
section
variable (n : Nat) (k : Nat -> Int)
def KOk {α : Type} : KasT α -> (α -> Prop) -> Prop
 | .ret a, R => R a
 | .ask i j f, R => i < n /\ j < n /\ KOk (f (decide (k i < k j))) R
def Arr (p : Array Nat) : Prop := p.Perm (List.range n).toArray
def SUp (p : Array Nat) (m : Nat) : Prop := ∀ a b, a < b -> b < m -> k (p.getD a 0) < k (p.getD b 0)
def SDn (p : Array Nat) (m : Nat) : Prop := ∀ a b, a < b -> b < m -> k (p.getD b 0) < k (p.getD a 0)
variable {n k}
theorem KOk.bind {α β : Type} {f : α -> KasT β} {R : α -> Prop} {R' : β -> Prop} (h : ∀ a, R a -> KOk n k (f a) R') : ∀ t : KasT α, KOk n k t R -> KOk n k (t.bind f) R'
 | .ret a, q => h a q
 | .ask i j g, q => ⟨q.1, q.2.1, KOk.bind h (g _) q.2.2⟩
theorem Arr.size {p : Array Nat} (h : Arr n p) : p.size = n := by
 have z := (Array.perm_iff_toList_perm.mp h).length_eq
 simpa using z
theorem Arr.at {p : Array Nat} (h : Arr n p) {i : Nat} (hi : i < n) : p.getD i 0 < n /\ p[i]? = some (p.getD i 0) := by
 have hs := h.size
 have e : p[i]? = some (p.getD i 0) := by
  rw [Array.getD_eq_getD_getElem?, Array.getElem?_eq_getElem (by lia)]
  rfl
 refine ⟨?_, e⟩
 have m : p.getD i 0 ∈ p := Array.mem_of_getElem? e
 have m2 := (Array.Perm.mem_iff h).mp m
 simpa using m2
theorem Arr.inj {p : Array Nat} (h : Arr n p) {i j : Nat} (hi : i < n) (hj : j < n) (e : p.getD i 0 = p.getD j 0) : i = j := by
 have nd : p.toList.Nodup := (Array.perm_iff_toList_perm.mp h).nodup_iff.mpr (by simpa using List.nodup_range)
 have e1 := (h.at hi).2
 have e2 := (h.at hj).2
 rw [<- e] at e2
 rw [<- Array.getElem?_toList] at e1 e2
 exact (List.getElem?_inj (by rw [Array.length_toList, h.size]; exact hi) nd).mp (e1.trans e2.symm)
variable (inj : ∀ i j, i < n -> j < n -> k i = k j -> i = j)
include inj
end
end L2
namespace L2
open PySem PySem.Spec PySem.W PyProof.Rows
section
variable {P : Program} {w : World} {A : Around} {E : Value -> Shared -> Prop} {s : Shared} {a : Addr} {vs ks : List Value} {k : Nat -> Int}
def AskOk (P : Program) (w : World) (A : Around) (ks : List Value) (lt : Nat -> Nat -> Bool) (s : Shared) : Prop :=
 wpAny (model P w) A (keyKind' ks.toArray) (fun κ s' => s' = s /\ ∀ i j (C : Bool -> Shared -> Prop), i < ks.length -> j < ks.length -> C (lt i j) s -> kas_ask P w A κ ks i j C s) (fun _ _ => False) s
abbrev picked (vs : List Value) (p : Array Nat) : List Value := p.toList.map fun i => vs.getD i Value.none
theorem picked_range (vs : List Value) : picked vs (List.range vs.length).toArray = vs := by
 unfold picked
 refine List.ext_getElem? fun i => ?_
 rw [List.toList_toArray, List.getElem?_map]
 by_cases h : i < vs.length
 ·rw [List.getElem?_range h, List.getElem?_eq_getElem h]
  show some (vs.getD i Value.none) = _
  rw [List.getD_eq_getElem?_getD, List.getElem?_eq_getElem h]
  rfl
 ·rw [List.getElem?_eq_none (by simp; lia), List.getElem?_eq_none (by lia)]
  rfl
theorem zip_snd (hl : ks.length = vs.length) : (ks.toArray.zip vs.toArray).map (·.2) = vs.toArray := by
 apply Array.toList_inj.mp
 rw [Array.toList_map, ksk_zip]
 exact List.map_snd_zip (by simp [hl])
theorem few_in {hs : Heap} {b : Addr} {x : Obj} (e : hs.get? b = some x) (o1 o2 : Obj) : ((hs.push o1).push o2).get? b = some x := Heap.get?_push_of_some _ (Heap.get?_push_of_some _ e)
end
theorem count_less {α : Type} {p q : α -> Bool} : ∀ {xs : List α}, (∀ z ∈ xs, p z = true -> q z = true) -> (∃ z ∈ xs, p z = false /\ q z = true) -> xs.countP p < xs.countP q
 | [], _, h => by obtain ⟨z, hz, _⟩ := h; cases hz
 | x :: xs, mono, h => by
  have le : xs.countP p <= xs.countP q := List.countP_mono_left fun z hz => mono z (List.mem_cons_of_mem _ hz)
  rw [List.countP_cons, List.countP_cons]
  obtain ⟨z, hz, h1, h2⟩ := h
  rcases List.mem_cons.mp hz with e | hz
  ·subst e
   rw [h1, h2]
   simp
   lia
  ·have ih := count_less (xs := xs) (fun y hy => mono y (List.mem_cons_of_mem _ hy)) ⟨z, hz, h1, h2⟩
   have m := mono x (List.mem_cons_self ..)
   cases e1 : p x with
   | false => cases q x <;> simp <;> lia
   | true => rw [m e1]; simp; lia
structure Total {α : Type} (lt : α -> α -> Bool) (xs : List α) : Prop where
 irr : ∀ x, lt x x = false
 trans : ∀ x y z, lt x y = true -> lt y z = true -> lt x z = true
 tot : ∀ x ∈ xs, ∀ y ∈ xs, x ≠ y -> lt x y = true ∨ lt y x = true
def rankOf {α : Type} (lt : α -> α -> Bool) (xs : List α) (x : α) : Int := ((xs.countP fun y => lt y x) : Nat)
section
variable {α : Type} {lt : α -> α -> Bool} {xs : List α} (T : Total lt xs)
include T
theorem Total.up {x y : α} (hx : x ∈ xs) (h : lt x y = true) : rankOf lt xs x < rankOf lt xs y := by
 unfold rankOf
 have z := count_less (xs := xs) (p := fun z => lt z x) (q := fun z => lt z y) (fun z _ hz => T.trans _ _ _ hz h) ⟨x, hx, T.irr x, h⟩
 lia
theorem Total.asks {x y : α} (hx : x ∈ xs) (hy : y ∈ xs) : decide (rankOf lt xs x < rankOf lt xs y) = lt x y := by
 by_cases e : x = y
 ·subst e
  rw [T.irr]
  exact decide_eq_false (Int.lt_irrefl _)
 ·rcases T.tot x hx y hy e with h | h
  ·rw [h]
   exact decide_eq_true (T.up hx h)
  ·have := T.up hy h
   rw [decide_eq_false (by lia)]
   cases z : lt x y with
   | false => rfl
   | true =>
    have := T.up hx z
    lia
theorem Total.same {x y : α} (hx : x ∈ xs) (hy : y ∈ xs) (h : rankOf lt xs x = rankOf lt xs y) : x = y := by
 refine Classical.byContradiction fun e => ?_
 rcases T.tot x hx y hy e with z | z
 ·have := T.up hx z
  lia
 ·have := T.up hy z
  lia
end
theorem ltl_trich : ∀ (xs ys : List Nat), xs ≠ ys -> ltl xs ys = true ∨ ltl ys xs = true
 | [], [], h => absurd rfl h
 | [], y :: ys, _ => .inl (by unfold ltl; rw [show ltlO [] (y :: ys) = none from rfl]; simp)
 | x :: xs, [], _ => .inr (by unfold ltl; rw [show ltlO [] (x :: xs) = none from rfl]; simp)
 | x :: xs, y :: ys, h => by
  by_cases e : x = y
  ·subst e
   rcases ltl_trich xs ys (fun z => h (by rw [z])) with q | q
   ·exact .inl (by rw [ltl_cons]; exact q)
   ·exact .inr (by rw [ltl_cons]; exact q)
  ·rw [ltl_cons_ne e, ltl_cons_ne (Ne.symm e)]
   rcases Nat.lt_or_gt_of_ne e with q | q
   ·exact .inl (decide_eq_true q)
   ·exact .inr (decide_eq_true q)
theorem ltl_tr : ∀ (xs ys zs : List Nat), ltl xs ys = true -> ltl ys zs = true -> ltl xs zs = true
 | xs, ys, [], _, h2 => by
  have : ltl ys [] = false := by
   unfold ltl
   rw [show ltlO ys [] = none by cases ys <;> rfl]
   simp
  rw [this] at h2
  cases h2
 | [], ys, z :: zs, _, _ => by unfold ltl; rw [show ltlO [] (z :: zs) = none from rfl]; simp
 | x :: xs, [], z :: zs, h1, _ => by
  have : ltl (x :: xs) [] = false := by
   unfold ltl
   rw [show ltlO (x :: xs) [] = none from rfl]
   simp
  rw [this] at h1
  cases h1
 | x :: xs, y :: ys, z :: zs, h1, h2 => by
  by_cases e1 : x = y
  ·subst e1
   by_cases e2 : x = z
   ·subst e2
    rw [ltl_cons] at h1 h2 ⊢
    exact ltl_tr xs ys zs h1 h2
   ·rw [ltl_cons_ne e2] at h2 ⊢
    exact h2
  ·rw [ltl_cons_ne e1] at h1
   have l1 := of_decide_eq_true h1
   by_cases e2 : y = z
   ·subst e2
    rw [ltl_cons_ne e1]
    exact h1
   ·rw [ltl_cons_ne e2] at h2
    have l2 := of_decide_eq_true h2
    rw [ltl_cons_ne (by lia)]
    exact decide_eq_true (by lia)
theorem total_ltl (xs : List (List Nat)) : Total ltl xs := ⟨ltl_irr, ltl_tr, fun x _ y _ e => ltl_trich x y e⟩
section
variable {P : Program} {w : World} {A : Around} {E : Value -> Shared -> Prop} {s : Shared}
theorem one_lt {i j : Int} {t u : Tok} (f : Bool) {Q : Bool -> Shared -> Prop} (h : Q (decide (i < j)) s) : wpAny (model P w) A (oneLt' f (.int i t) (.int j u)) Q E s := by
 cases f with
 | true => exact oneLt_int h
 | false => exact kat_one _ _ (PyProof.Rows.lt_int h)
theorem lex_nats {fin : Bool} {Q : Bool -> Shared -> Prop} : ∀ {ns ms : List Nat} {xs ys : List Value} (i : Nat), Vals (ns.map nv) xs -> Vals (ms.map nv) ys -> Q ((ltlO ns ms).getD fin) s -> KatLex P w A true fin Q (xs.zip ys) i s
 | [], ms, _, _, i, .nil, _, q => by
  rw [show ltlO [] ms = none by cases ms <;> rfl] at q
  rw [List.zip_nil_left]
  exact kat_nil q
 | n :: ns, [], _, _, i, .cons _ _, .nil, q => by
  rw [List.zip_nil_right]
  exact kat_nil q
 | n :: ns, m :: ms, _, _, i, .cons ⟨t, e1⟩ r1, .cons ⟨u, e2⟩ r2, q => by
  subst e1 e2
  refine kat_cons ?_
  have z := eqAt_int (A := A) (s := s) (i := (n : Int)) (j := (m : Int)) (t := t) (u := u)
  by_cases e : n = m
  ·rw [decide_eq_true (by lia)] at z
   rw [ltlO, if_pos e] at q
   exact z P w _ _ (kat_yes (lex_nats (i + 1) r1 r2 q))
  ·rw [decide_eq_false (by lia)] at z
   rw [ltlO, if_neg e] at q
   refine z P w _ _ (kat_no (one_lt _ ?_))
   have e3 : decide ((n : Int) < (m : Int)) = decide (n < m) := by simp
   rw [e3]
   exact q
def TupN (h : Heap) (v : Value) (ns : List Nat) : Prop := ∃ a o its c, v = .ref a /\ h.get? a = some o /\ o.cls = .type "tuple" /\ o.data = .seq its c /\ Vals (ns.map nv) its.toList
theorem tups_first {h : Heap} : ∀ {vs : List Value} {ts : List (List Nat)}, vs.length = ts.length -> (∀ (i : Nat) v t, vs[i]? = some v -> ts[i]? = some t -> TupN h v t /\ t ≠ []) -> ∃ fs : List Value, KatTups h vs fs /\ fs.length = vs.length /\ ∀ f ∈ fs, ∃ i t, f = .int i t
 | [], [], _, _ => ⟨[], .nil, rfl, fun _ z => nomatch z⟩
 | [], _ :: _, l, _ => by simp at l
 | _ :: _, [], l, _ => by simp at l
 | v :: vs, t :: ts, l, hv => by
  obtain ⟨fs, k1, k2, k3⟩ := tups_first (h := h) (vs := vs) (ts := ts) (by simpa using l) fun i v t e1 e2 => hv (i + 1) v t (by simpa using e1) (by simpa using e2)
  obtain ⟨⟨a, o, its, c, rfl, h1, h2, h3, h4⟩, ne⟩ := hv 0 v t rfl rfl
  obtain ⟨n, ns, rfl⟩ : ∃ n ns, t = n :: ns := by
   cases t with
   | nil => exact absurd rfl ne
   | cons n ns => exact ⟨n, ns, rfl⟩
  obtain ⟨its'⟩ := its
  cases h4 with
  | cons r _ =>
   obtain ⟨t0, rfl⟩ := r
   exact ⟨_ :: fs, .cons h1 h2 h3 rfl k1, by simp [k2], fun f hf => by
    rcases List.mem_cons.mp hf with e | hf
    ·exact ⟨_, _, e⟩
    ·exact k3 f hf⟩
theorem ask_tups {vs : List Value} {ts : List (List Nat)} (l : vs.length = ts.length) (n1 : 1 <= vs.length) (hv : ∀ (i : Nat) v t, vs[i]? = some v -> ts[i]? = some t -> TupN s.heap v t /\ t ≠ []) : AskOk P w A vs (fun i j => ltl (ts.getD i []) (ts.getD j [])) s := by
 obtain ⟨fs, k1, k2, k3⟩ := tups_first l hv
 refine kat_kind (T := .type "int") k1 (by lia) (fun f hf => ?_) (by decide) ⟨rfl, fun i j C li lj hC => ?_⟩
 ·obtain ⟨i, t, rfl⟩ := k3 f hf
  exact .now
 ·have at0 : ∀ {i : Nat}, i < vs.length -> TupN s.heap (vs.getD i Value.none) (ts.getD i []) := fun {i} li => by
   have e1 : vs[i]? = some (vs.getD i Value.none) := by rw [List.getD_eq_getElem?_getD, List.getElem?_eq_getElem li]; rfl
   have e2 : ts[i]? = some (ts.getD i []) := by rw [List.getD_eq_getElem?_getD, List.getElem?_eq_getElem (by lia)]; rfl
   exact (hv i _ _ e1 e2).1
  obtain ⟨x, ox, xs, nx, ex, x1, x2, x3, x4⟩ := at0 li
  obtain ⟨y, oy, ys, ny, ey, y1, y2, y3, y4⟩ := at0 lj
  show wpAny (model P w) A (keyLt' _ (vs.getD i Value.none) (vs.getD j Value.none)) C _ s
  rw [ex, ey]
  refine kat_lt x1 x3 y1 y3 (lex_nats 0 x4 y4 ?_)
  have l1 : (ts.getD i []).length = xs.size := by have := x4.length; simpa using this
  have l2 : (ts.getD j []).length = ys.size := by have := y4.length; simpa using this
  rw [<- l1, <- l2]
  exact hC
end
theorem arr_perm {α : Type} {xs : List α} {p : Array Nat} {d : α} (ar : Arr xs.length p) : (p.toList.map fun i => xs.getD i d).Perm xs := by
 have z := (Array.perm_iff_toList_perm.mp ar).map fun i => xs.getD i d
 refine z.trans (.of_eq ?_)
 refine List.ext_getElem? fun i => ?_
 rw [List.toList_toArray, List.getElem?_map]
 by_cases h : i < xs.length
 ·rw [List.getElem?_range h, List.getElem?_eq_getElem h]
  show some (xs.getD i d) = _
  rw [List.getD_eq_getElem?_getD, List.getElem?_eq_getElem h]
  rfl
 ·rw [List.getElem?_eq_none (by simp; lia), List.getElem?_eq_none (by lia)]
  rfl
theorem arr_at {p : Array Nat} {n i : Nat} (ar : Arr n p) (hi : i < n) : p.toList[i]? = some (p.getD i 0) := by
 rw [Array.getElem?_toList]
 exact (ar.at hi).2
theorem sorted_pairs {α : Type} {lt : α -> α -> Bool} {ts : List α} {d : α} {p : Array Nat} (T : Total lt ts) (ar : Arr ts.length p) (up : SUp (fun i => rankOf lt ts (ts.getD i d)) p ts.length) : (p.toList.map fun i => ts.getD i d).Pairwise fun x y => lt x y = true := by
 rw [List.pairwise_iff_getElem]
 intro i j hi hj ij
 have li : i < ts.length := by rw [List.length_map, Array.length_toList, ar.size] at hi; exact hi
 have lj : j < ts.length := by rw [List.length_map, Array.length_toList, ar.size] at hj; exact hj
 have e1 : (p.toList.map fun i => ts.getD i d)[i]? = some (ts.getD (p.getD i 0) d) := by rw [List.getElem?_map, arr_at ar li]; rfl
 have e2 : (p.toList.map fun i => ts.getD i d)[j]? = some (ts.getD (p.getD j 0) d) := by rw [List.getElem?_map, arr_at ar lj]; rfl
 rw [List.getElem?_eq_getElem hi] at e1
 rw [List.getElem?_eq_getElem hj] at e2
 rw [Option.some.inj e1, Option.some.inj e2]
 have u := up i j ij lj
 have m : ∀ {i : Nat}, i < ts.length -> ts.getD (p.getD i 0) d ∈ ts := fun {i} h => by
  have := (ar.at h).1
  rw [List.getD_eq_getElem?_getD, List.getElem?_eq_getElem this]
  exact List.getElem_mem _
 rw [<- T.asks (m li) (m lj)]
 exact decide_eq_true u
structure TupsAt (H : Hp) (bs : List Addr) (us : List (List Nat)) : Prop where
 len : bs.length = us.length
 is : ∀ (i : Nat) (b : Addr) (u : List Nat), bs[i]? = some b -> us[i]? = some u -> H b = some (.tup (u.map nv))
theorem TupsAt.same {H H' : Hp} {bs : List Addr} {us : List (List Nat)} (h : TupsAt H bs us) (g : Same H H') : TupsAt H' bs us := ⟨h.len, fun i b u e1 e2 => g _ _ (h.is i b u e1 e2)⟩
theorem TupsAt.pick {H : Hp} {bs : List Addr} {us : List (List Nat)} (h : TupsAt H bs us) {p : Array Nat} (ar : Arr us.length p) : TupsAt H (p.toList.map fun i => bs.getD i 0) (p.toList.map fun i => us.getD i []) := by
 refine ⟨by simp, fun i b u e1 e2 => ?_⟩
 rw [List.getElem?_map] at e1 e2
 obtain ⟨j, ej, rfl⟩ := Option.map_eq_some_iff.mp e1
 rw [ej] at e2
 cases e2
 have lj : j < us.length := by
  have m := (Array.perm_iff_toList_perm.mp ar).mem_iff.mp (List.mem_of_getElem? ej)
  simpa using m
 have lb := h.len
 refine h.is j _ _ ?_ ?_
 ·rw [List.getD_eq_getElem?_getD, List.getElem?_eq_getElem (by lia)]
  rfl
 ·show us[j]? = some (us.getD j [])
  rw [List.getD_eq_getElem?_getD, List.getElem?_eq_getElem lj]
  rfl
section
variable {X : Cx}
theorem tup_n {P : Program} {w : World} {H : Hp} {h : Heap} {a : Addr} {t : List Nat} (ok : HOk P w H h) (e : H a = some (.tup (t.map nv))) : TupN h (.ref a) t := by
 obtain ⟨_, its, r, o, h1, h2, c, h3⟩ := (show ObjOk P w H h a (.tup (t.map nv)) from ok a _ e)
 exact ⟨a, o, its.toArray, c, rfl, h1, h2, h3, by simpa using r⟩
theorem getD_in {α : Type} {xs : List α} {d : α} {i : Nat} (h : i < xs.length) : xs[i]? = some (xs.getD i d) /\ xs.getD i d ∈ xs := by
 have e : xs[i]? = some (xs.getD i d) := by
  rw [List.getD_eq_getElem?_getD, List.getElem?_eq_getElem h]
  rfl
 exact ⟨e, List.mem_of_getElem? e⟩
theorem rank_inj {α : Type} {lt : α -> α -> Bool} {ts : List α} {d : α} (T : Total lt ts) (nd : ts.Nodup) : ∀ i j, i < ts.length -> j < ts.length -> rankOf lt ts (ts.getD i d) = rankOf lt ts (ts.getD j d) -> i = j := fun i j hi hj e => by
 have z := T.same (getD_in hi).2 (getD_in hj).2 e
 refine (List.getElem?_inj hi nd).mp ?_
 rw [(getD_in (d := d) hi).1, (getD_in (d := d) hj).1, z]
end
abbrev d0 : Keyed := (Value.none, Value.none)
structure Asks (M : Model) (A : Around) (s : Shared) (κ : SortKind) (r : Keyed -> Int) (a₀ : Array Keyed) : Prop where
 lt : ∀ (x y : Keyed) (C : Bool -> Shared -> Prop), x ∈ a₀ -> y ∈ a₀ -> C (decide (r x < r y)) s -> wpAny M A (keyLt' κ x.1 y.1) C (fun _ _ => False) s
 ne : ∀ i j, i < a₀.size -> j < a₀.size -> i ≠ j -> r (a₀.getD i d0) ≠ r (a₀.getD j d0)
structure StOk (κ : SortKind) (a₀ : Array Keyed) (st : SortSt) : Prop where
 kind : kindOf st = κ
 perm : (arrOf st).Perm a₀
 ok : failedOf st = none
section
variable {M : Model} {A : Around} {E : Value -> Shared -> Prop} {s : Shared} {κ : SortKind} {r : Keyed -> Int} {a₀ xs ys : Array Keyed}
abbrev kx (r : Keyed -> Int) (xs : Array Keyed) (i : Nat) : Int := r (xs.getD i d0)
theorem getD_at {i : Nat} (h : i < xs.size) : xs[i]? = some (xs.getD i d0) := by
 rw [Array.getD_eq_getD_getElem?, Array.getElem?_eq_getElem h]
 rfl
theorem getD_of {i : Nat} {x : Keyed} (h : xs[i]? = some x) : xs.getD i d0 = x := by
 rw [Array.getD_eq_getD_getElem?, h]
 rfl
theorem getD_cong {i j : Nat} (h : xs[i]? = ys[j]?) : xs.getD i d0 = ys.getD j d0 := by
 rw [Array.getD_eq_getD_getElem?, Array.getD_eq_getD_getElem?, h]
theorem perm_size (p : xs.Perm a₀) : xs.size = a₀.size := by
 have z := (Array.perm_iff_toList_perm.mp p).length_eq
 simpa using z
theorem perm_mem (p : xs.Perm a₀) {i : Nat} (h : i < a₀.size) : xs.getD i d0 ∈ a₀ := (Array.Perm.mem_iff p).mp (Array.mem_of_getElem? (getD_at (by rw [perm_size p]; exact h)))
theorem Asks.pairs (K : Asks M A s κ r a₀) : (a₀.toList.map r).Nodup := by
 refine List.pairwise_iff_getElem.mpr fun i j hi hj ij => ?_
 rw [List.getElem_map, List.getElem_map]
 rw [List.length_map, Array.length_toList] at hi hj
 have z := K.ne i j hi hj (by lia)
 rw [Array.getD_eq_getD_getElem?, Array.getD_eq_getD_getElem?, Array.getElem?_eq_getElem hi, Array.getElem?_eq_getElem hj] at z
 exact z
theorem Asks.apart (K : Asks M A s κ r a₀) (p : xs.Perm a₀) {i j : Nat} (hi : i < a₀.size) (hj : j < a₀.size) (ij : i ≠ j) : kx r xs i ≠ kx r xs j := by
 have nd : (xs.toList.map r).Nodup := ((Array.perm_iff_toList_perm.mp p).map r).nodup_iff.mpr K.pairs
 have sz := perm_size p
 intro z
 have e : ∀ k, k < a₀.size -> (xs.toList.map r)[k]? = some (kx r xs k) := fun k hk => by
  rw [List.getElem?_map, Array.getElem?_toList, getD_at (by lia)]
  rfl
 exact ij ((List.getElem?_inj (by rw [List.length_map, Array.length_toList]; lia) nd).mp (by rw [e i hi, e j hj, z]))
theorem wpS_lt {st : SortSt} {x y : Keyed} {Q : Option Bool -> SortSt -> Prop} (K : Asks M A s κ r a₀) (hk : kindOf st = κ) (hx : x ∈ a₀) (hy : y ∈ a₀) (h : Q (some (decide (r x < r y))) st) : wpS M A E s (lt' x y) Q st := by
 rw [lt'_eq]
 refine wpS_bind (wpS_get ?_)
 rw [hk]
 refine wpS_bind (wpS_lift (wpAny_attempt (wpAny_mono (K.lt x y (fun b s' => s' = s /\ b = decide (r x < r y)) hx hy ⟨rfl, rfl⟩) (fun b s' hb => ?_) fun _ _ z => z.elim)))
 obtain ⟨rfl, rfl⟩ := hb
 exact ⟨rfl, wpS_pure h⟩
theorem wpS_elem {σ0 : SortSt} {i : Nat} {Q : Keyed -> SortSt -> Prop} (hi : i < xs.size) (h : Q (xs.getD i d0) σ0) : wpS M A E s (elem' xs i) Q σ0 := by
 rw [elem'_eq, getD_at hi]
 exact wpS_pure h
theorem wpS_ltX {st : SortSt} {i j : Nat} {Q : Option Bool -> SortSt -> Prop} (K : Asks M A s κ r a₀) (B : StOk κ a₀ st) (hi : i < a₀.size) (hj : j < a₀.size) (h : Q (some (decide (kx r (arrOf st) i < kx r (arrOf st) j))) st) : wpS M A E s (ltAt' i j) Q st := by
 have sz := perm_size B.perm
 rw [ltAt'_eq]
 refine wpS_bind (wpS_get ?_)
 exact wpS_bind (wpS_elem (by lia) (wpS_bind (wpS_elem (by lia) (wpS_lt K B.kind (perm_mem B.perm hi) (perm_mem B.perm hj) h))))
def Ris (r : Keyed -> Int) (xs : Array Keyed) (lo hi : Nat) : Prop := ∀ a b, lo <= a -> a < b -> b < hi -> kx r xs a < kx r xs b
def Fal (r : Keyed -> Int) (xs : Array Keyed) (lo hi : Nat) : Prop := ∀ a b, lo <= a -> a < b -> b < hi -> kx r xs b < kx r xs a
def Out (xs ys : Array Keyed) (lo hi : Nat) : Prop := ∀ k, k < lo ∨ hi <= k -> ys[k]? = xs[k]?
theorem Out.refl (xs : Array Keyed) (lo hi : Nat) : Out xs xs lo hi := fun _ _ => rfl
theorem Out.trans {zs : Array Keyed} {lo hi : Nat} (h : Out xs ys lo hi) (h' : Out ys zs lo hi) : Out xs zs lo hi := fun k z => (h' k z).trans (h k z)
theorem Out.wide {lo hi lo' hi' : Nat} (h : Out xs ys lo hi) (h1 : lo' <= lo) (h2 : hi <= hi') : Out xs ys lo' hi' := fun k z => h k (by lia)
theorem Out.ris {lo hi a b : Nat} (h : Out xs ys lo hi) (h' : Ris r xs a b) (d : b <= lo ∨ hi <= a) : Ris r ys a b := fun i j h1 h2 h3 => by
 show r (ys.getD i d0) < r (ys.getD j d0)
 rw [getD_cong (h i (by lia)), getD_cong (h j (by lia))]
 exact h' i j h1 h2 h3
theorem Ris.one {lo : Nat} : Ris r xs lo (lo + 1) := fun a b h1 h2 h3 => by lia
theorem Ris.snoc {lo hi : Nat} (h : Ris r xs lo hi) (hl : lo < hi) (l : kx r xs (hi - 1) < kx r xs hi) : Ris r xs lo (hi + 1) := fun a b h1 h2 h3 => by
 by_cases e : b = hi
 ·subst e
  by_cases e2 : a = b - 1
  ·subst e2
   exact l
  ·have := h a (b - 1) h1 (by lia) (by lia)
   lia
 ·exact h a b h1 h2 (by lia)
theorem Fal.snoc {lo hi : Nat} (h : Fal r xs lo hi) (hl : lo < hi) (l : kx r xs hi < kx r xs (hi - 1)) : Fal r xs lo (hi + 1) := fun a b h1 h2 h3 => by
 by_cases e : b = hi
 ·subst e
  by_cases e2 : a = b - 1
  ·subst e2
   exact l
  ·have := h a (b - 1) h1 (by lia) (by lia)
   lia
 ·exact h a b h1 h2 (by lia)
theorem StOk.set {st : SortSt} (B : StOk κ a₀ st) (p : ys.Perm (arrOf st)) : StOk κ a₀ (setArr st ys) := ⟨B.kind, p.trans B.perm, B.ok⟩
theorem mirror_kx {i j : Nat} (hj : j <= xs.size) (k : Nat) : kx r (mirror xs i j ((j - i) / 2)) k = if i <= k /\ k < j then kx r xs (i + j - 1 - k) else kx r xs k := by
 have e := getElem?_mirror_all (i := i) hj k
 by_cases h1 : i <= k /\ k < j
 ·rw [if_pos h1] at e ⊢
  exact congrArg r (getD_cong e)
 ·rw [if_neg h1] at e ⊢
  exact congrArg r (getD_cong e)
theorem wpS_count {st : SortSt} {lo nrem : Nat} {Q : Option Nat -> SortSt -> Prop} (K : Asks M A s κ r a₀) (B : StOk κ a₀ st) (hn : lo + nrem <= a₀.size) (h1 : 1 <= nrem)
  (h : ∀ n st', StOk κ a₀ st' -> pendingOf st' = pendingOf st -> gallopOf st' = gallopOf st -> Out (arrOf st) (arrOf st') lo (lo + nrem) -> 1 <= n -> n <= nrem -> Ris r (arrOf st') lo (lo + n) -> Q (some n) st') : wpS M A E s (countRun' lo nrem) Q st := by
 rw [countRun'_eq]
 have asc : ∀ (m : Nat) (st' : SortSt) (Q' : Option (Option Nat) × Nat -> SortSt -> Prop), StOk κ a₀ st' -> 1 <= m -> m <= nrem -> Ris r (arrOf st') lo (lo + m) -> (∀ n, m <= n -> n <= nrem -> Ris r (arrOf st') lo (lo + n) -> (n < nrem -> kx r (arrOf st') (lo + n) < kx r (arrOf st') (lo + n - 1)) -> Q' (none, n) st') ->
   wpS M A E s (forIn [m:nrem] ((none, m) : Option (Option Nat) × Nat) fun _ __s => do
    let __x <- ltAt' (lo + __s.snd) (lo + __s.snd - 1)
    match __x with
    | some smaller => if smaller = true then pure (ForInStep.done (none, __s.snd)) else pure (ForInStep.yield (none, __s.snd + 1))
    | _ => pure (ForInStep.done (some none, __s.snd))) Q' st' := fun m st' Q' B' m1 mn up q => by
  refine wpS_forRange (I := fun i c st'' => st'' = st' /\ c = (none, i) /\ Ris r (arrOf st') lo (lo + i)) (fun i c st'' hi1 hi2 hI => ?_) (fun c st'' hI => ?_) ⟨rfl, rfl, up⟩
  ·obtain ⟨rfl, rfl, up'⟩ := hI
   refine wpS_bind (wpS_ltX K B' (by show lo + i < _; lia) (by show lo + i - 1 < _; lia) ?_)
   by_cases c : kx r (arrOf st'') (lo + i) < kx r (arrOf st'') (lo + i - 1)
   ·rw [decide_eq_true c]
    exact wpS_pure (q i hi1 (by lia) up' fun _ => c)
   ·rw [decide_eq_false c]
    have ne := K.apart B'.perm (i := lo + i) (j := lo + i - 1) (by lia) (by lia) (by lia)
    exact wpS_pure ⟨rfl, rfl, up'.snoc (by lia) (by lia)⟩
  ·obtain ⟨rfl, rfl, up'⟩ := hI
   rw [show max m nrem = nrem by lia] at up' ⊢
   exact q nrem mn (Nat.le_refl _) up' fun z => absurd z (Nat.lt_irrefl _)
 refine wpS_bind (asc 1 st _ B (Nat.le_refl _) h1 Ris.one fun n n1 n2 up stop => ?_)
 dsimp only
 by_cases e : n = nrem
 ·rw [if_pos (by simpa using e)]
  exact wpS_pure (h n st B rfl rfl (Out.refl _ _ _) n1 n2 up)
 rw [if_neg (by simpa using e)]
 have st1 := stop (by lia)
 by_cases e2 : n > 1
 ·rw [if_pos e2]
  refine wpS_bind (wpS_ltX K B (by lia) (by lia) ?_)
  rw [decide_eq_true (up lo (lo + n - 1) (Nat.le_refl _) (by lia) (by lia))]
  exact wpS_pure (h n st B rfl rfl (Out.refl _ _ _) n1 n2 up)
 rw [if_neg e2]
 have en : n = 1 := by lia
 subst en
 refine wpS_bind (wpS_lift (wpAny_rule ⟨rfl, ?_⟩))
 have fal0 : Fal r (arrOf st) lo (lo + 2) := fun a b h1 h2 h3 => by
  have ea : a = lo := by lia
  have eb : b = lo + 1 := by lia
  subst ea eb
  exact st1
 refine wpS_bind (wpS_mono (wpS_forRange (I := fun i c st'' => st'' = st /\ c = (none, i, 0) /\ Fal r (arrOf st) lo (lo + i)) (Q := fun c st'' => st'' = st /\ ∃ m, c = (none, m, 0) /\ 2 <= m /\ m <= nrem /\ Fal r (arrOf st) lo (lo + m)) (fun i c st'' hi1 hi2 hI => ?_) (fun c st'' hI => ?_) ⟨rfl, rfl, fal0⟩) ?_)
 ·obtain ⟨rfl, rfl, fa⟩ := hI
  refine wpS_bind (wpS_ltX K B (by show lo + i < _; lia) (by show lo + i - 1 < _; lia) ?_)
  by_cases c : kx r (arrOf st'') (lo + i) < kx r (arrOf st'') (lo + i - 1)
  ·rw [decide_eq_true c]
   exact wpS_pure ⟨rfl, rfl, fa.snoc (by lia) c⟩
  ·rw [decide_eq_false c]
   have ne := K.apart B.perm (i := lo + i) (j := lo + i - 1) (by lia) (by lia) (by lia)
   refine wpS_bind (wpS_ltX K B (by show lo + i - 1 < _; lia) (by show lo + i < _; lia) ?_)
   rw [decide_eq_true (by show kx r (arrOf st'') (lo + i - 1) < kx r (arrOf st'') (lo + i); lia)]
   exact wpS_pure ⟨rfl, i, rfl, by lia, by lia, fa⟩
 ·obtain ⟨rfl, rfl, fa⟩ := hI
  refine ⟨rfl, _, rfl, by lia, by lia, fa⟩
 ·rintro c st'' ⟨rfl, m, rfl, m2, mn, fa⟩
  dsimp only
  rw [if_neg (Nat.lt_irrefl 0)]
  rw [reverseSlice'_eq]
  have sz := perm_size B.perm
  have hle : lo + m <= (arrOf st'').size := by lia
  have B2 : StOk κ a₀ (setArr st'' (mirror (arrOf st'') lo (lo + m) ((lo + m - lo) / 2))) := B.set (mirror_perm _ _ _ _)
  have up2 : Ris r (mirror (arrOf st'') lo (lo + m) ((lo + m - lo) / 2)) lo (lo + m) := fun a b h1 h2 h3 => by
   rw [mirror_kx hle, mirror_kx hle, if_pos (by lia), if_pos (by lia)]
   exact fa _ _ (by lia) (by lia) (by lia)
  have out2 : Out (arrOf st'') (mirror (arrOf st'') lo (lo + m) ((lo + m - lo) / 2)) lo (lo + nrem) := fun k hk => by
   rw [getElem?_mirror_all hle, if_neg (by lia)]
  refine wpS_bind (wpS_modify (wpS_bind (asc m _ _ B2 (by lia) mn up2 fun n n1 n2 up stop => ?_)))
  exact wpS_pure (h n _ B2 rfl rfl out2 (by lia) n2 up)
end
section
variable {M : Model} {A : Around} {E : Value -> Shared -> Prop} {s : Shared} {κ : SortKind} {r : Keyed -> Int} {a₀ xs ys : Array Keyed}
theorem bubble_kx {src d : Nat} (hs : src < xs.size) (hd : d <= src) (k : Nat) : kx r (bubble xs src d) k = if k = src - d then kx r xs src else if src - d < k /\ k <= src then kx r xs (k - 1) else kx r xs k := by
 have e := getElem?_bubble hs d hd k
 by_cases h1 : k = src - d
 ·rw [if_pos h1] at e ⊢
  exact congrArg r (getD_cong e)
 ·rw [if_neg h1] at e ⊢
  by_cases h2 : src - d < k /\ k <= src
  ·rw [if_pos h2] at e ⊢
   exact congrArg r (getD_cong e)
  ·rw [if_neg h2] at e ⊢
   exact congrArg r (getD_cong e)
theorem wpS_binary {st : SortSt} {lo n ok : Nat} {Q : Bool -> SortSt -> Prop} (K : Asks M A s κ r a₀) (B : StOk κ a₀ st) (hn : lo + n <= a₀.size) (hok : ok <= n) (hs : Ris r (arrOf st) lo (lo + ok))
  (h : ∀ st', StOk κ a₀ st' -> pendingOf st' = pendingOf st -> gallopOf st' = gallopOf st -> Out (arrOf st) (arrOf st') lo (lo + n) -> Ris r (arrOf st') lo (lo + n) -> Q true st') : wpS M A E s (binarySort' lo n ok) Q st := by
 rw [binarySort'_eq]
 refine wpS_bind (wpS_mono (wpS_forRange (I := fun k c st' => c = (none, ()) /\ StOk κ a₀ st' /\ pendingOf st' = pendingOf st /\ gallopOf st' = gallopOf st /\ Out (arrOf st) (arrOf st') lo (lo + n) /\ Ris r (arrOf st') lo (lo + min k n))
  (Q := fun c st' => c = (none, ()) /\ StOk κ a₀ st' /\ pendingOf st' = pendingOf st /\ gallopOf st' = gallopOf st /\ Out (arrOf st) (arrOf st') lo (lo + n) /\ Ris r (arrOf st') lo (lo + n)) ?step ?fin ?init) ?post)
 case post =>
  rintro c st' ⟨rfl, B', pe, ga, o, u⟩
  exact wpS_pure (h st' B' pe ga o u)
 case init =>
  refine ⟨rfl, B, rfl, rfl, Out.refl _ _ _, fun i j h1 h2 h3 => ?_⟩
  exact hs i j h1 h2 (by lia)
 case fin =>
  rintro c st' ⟨hc, B', pe, ga, o, u⟩
  refine ⟨hc, B', pe, ga, o, ?_⟩
  rwa [show min (max (max ok 1) n) n = n by lia] at u
 case step =>
  rintro k c st' hak hkn ⟨rfl, B', pe, ga, o, hs'⟩
  rw [show min k n = k by lia] at hs'
  have sz := perm_size B'.perm
  refine wpS_bind (wpS_mono (wpS_forRange (I := fun x c st'' => st'' = st' /\ ∃ l q, c = (none, l, q) /\ l <= q /\ q <= k /\ q - l <= k - x /\
    (∀ i, i < l -> kx r (arrOf st') (lo + i) < kx r (arrOf st') (lo + k)) /\ (∀ i, q <= i -> i < k -> kx r (arrOf st') (lo + k) < kx r (arrOf st') (lo + i)))
   (Q := fun c st'' => st'' = st' /\ ∃ l q, c = (none, l, q) /\ l <= k /\
    (∀ i, i < l -> kx r (arrOf st') (lo + i) < kx r (arrOf st') (lo + k)) /\ (∀ i, l <= i -> i < k -> kx r (arrOf st') (lo + k) < kx r (arrOf st') (lo + i))) ?istep ?ifin ?iinit) ?ipost)
  case iinit => exact ⟨rfl, 0, k, rfl, by lia, by lia, by lia, fun i hi => by lia, fun i h1 h2 => by lia⟩
  case ifin =>
   rintro c st'' ⟨rfl, l, q, rfl, hlr, hrk, hm, hlo, hhi⟩
   have : l = q := by lia
   subst this
   exact ⟨rfl, l, l, rfl, hrk, hlo, hhi⟩
  case istep =>
   rintro x c st'' _ hxk ⟨rfl, l, q, rfl, hlr, hrk, hm, hlo, hhi⟩
   dsimp only
   by_cases hge : l ≥ q
   ·rw [if_pos hge]
    have : l = q := by lia
    subst this
    exact wpS_pure ⟨rfl, l, l, rfl, hrk, hlo, hhi⟩
   ·rw [if_neg hge]
    refine wpS_bind (wpS_ltX K B' (by lia) (by lia) ?_)
    by_cases hless : kx r (arrOf st'') (lo + k) < kx r (arrOf st'') (lo + (l + q) / 2)
    ·simp only [hless, decide_true, if_true]
     refine wpS_pure ⟨rfl, l, (l + q) / 2, rfl, by lia, by lia, by lia, hlo, fun i h1 h2 => ?_⟩
     by_cases z : i = (l + q) / 2
     ·subst z
      exact hless
     ·have := hs' (lo + (l + q) / 2) (lo + i) (by lia) (by lia) (by lia)
      lia
    ·simp only [hless, decide_false, Bool.false_eq_true, if_false]
     have ne := K.apart B'.perm (i := lo + k) (j := lo + (l + q) / 2) (by lia) (by lia) (by lia)
     refine wpS_pure ⟨rfl, (l + q) / 2 + 1, q, rfl, by lia, by lia, by lia, fun i h1 => ?_, hhi⟩
     by_cases z : i = (l + q) / 2
     ·subst z
      lia
     ·have := hs' (lo + i) (lo + (l + q) / 2) (by lia) (by lia) (by lia)
      lia
  case ipost =>
   rintro c st'' ⟨rfl, l, q, rfl, hlk, hlo, hhi⟩
   show wpS _ _ _ _ (do moveDown' (lo + k) (lo + l); pure (ForInStep.yield (none, ()))) _ _
   rw [moveDown'_eq]
   have hks : lo + k < (arrOf st'').size := by lia
   refine wpS_bind (wpS_modify (wpS_pure ⟨rfl, B'.set (bubble_perm _ _ _), pe, ga, o.trans fun j hj => ?_, ?_⟩))
   ·show (bubble (arrOf st'') (lo + k) (lo + k - (lo + l)))[j]? = _
    rw [getElem?_bubble hks _ (by lia), if_neg (by lia), if_neg (by lia)]
   ·rw [show min (k + 1) n = k + 1 by lia]
    intro i j h1 h2 h3
    show kx r (bubble (arrOf st'') (lo + k) (lo + k - (lo + l))) i < kx r (bubble (arrOf st'') (lo + k) (lo + k - (lo + l))) j
    rw [bubble_kx hks (by lia), bubble_kx hks (by lia), show lo + k - (lo + k - (lo + l)) = lo + l by lia]
    have lo' : ∀ i, lo <= i -> i < lo + l -> kx r (arrOf st'') i < kx r (arrOf st'') (lo + k) := fun i h1 h2 => by
     have := hlo (i - lo) (by lia)
     rwa [show lo + (i - lo) = i by lia] at this
    have hi' : ∀ i, lo + l <= i -> i < lo + k -> kx r (arrOf st'') (lo + k) < kx r (arrOf st'') i := fun i h1 h2 => by
     have := hhi (i - lo) (by lia) (by lia)
     rwa [show lo + (i - lo) = i by lia] at this
    repeat' split
    all_goals first
     | (exfalso; lia)
     | exact lo' _ (by lia) (by lia)
     | exact hi' _ (by lia) (by lia)
     | exact hs' _ _ (by lia) (by lia) (by lia)
def gallop' : Bool -> Keyed -> Array Keyed -> Nat -> Nat -> Nat -> StateT SortSt Sem (Option Nat) := sortPriv% PySem.Builtin.gallop
theorem gallop'_eq (left : Bool) (key : Keyed) (arr : Array Keyed) (base n hint : Nat) : gallop' left key arr base n hint = (do
 let beyond (i : Nat) : StateT SortSt Sem (Option Bool) := do
  let x <- elem' arr (base + i)
  if left then lt' x key else return (<- lt' key x).map (!·)
 let mut lastofs := 0
 let mut ofs := 1
 let mut lo := 0
 let mut hi := 0
 let some right <- beyond hint | return none
 if right then
  let maxofs := n - hint
  for _ in [0:n] do
   if ofs ≥ maxofs then break
   let some more <- beyond (hint + ofs) | return none
   if !more then break
   lastofs := ofs
   ofs := 2 * ofs + 1
  lo := hint + lastofs + 1
  hi := hint + min ofs maxofs
 else
  let maxofs := hint + 1
  for _ in [0:n] do
   if ofs ≥ maxofs then break
   let some found <- beyond (hint - ofs) | return none
   if found then break
   lastofs := ofs
   ofs := 2 * ofs + 1
  lo := hint + 1 - min ofs maxofs
  hi := hint - lastofs
 for _ in [0:n] do
  if lo ≥ hi then break
  let m := lo + (hi - lo) / 2
  let some more <- beyond m | return none
  if more then lo := m + 1 else hi := m
 return some hi) := rfl
end
section
variable {M : Model} {A : Around} {E : Value -> Shared -> Prop} {s : Shared} {κ : SortKind} {r : Keyed -> Int} {a₀ xs ys : Array Keyed}
theorem wpS_gallop {st : SortSt} {left : Bool} {key : Keyed} {arr : Array Keyed} {base n hint : Nat} {Q : Option Nat -> SortSt -> Prop} (K : Asks M A s κ r a₀) (hk : kindOf st = κ) (hz : base + n <= arr.size) (mem : ∀ i, i < n -> arr.getD (base + i) d0 ∈ a₀) (mk : key ∈ a₀) (ne : ∀ i, i < n -> kx r arr (base + i) ≠ r key)
  (up : Ris r arr base (base + n)) (hh : hint < n) (q : ∀ k, k <= n -> (∀ i, i < k -> kx r arr (base + i) < r key) -> (∀ i, k <= i -> i < n -> r key < kx r arr (base + i)) -> Q (some k) st) : wpS M A E s (gallop' left key arr base n hint) Q st := by
 rw [gallop'_eq]
 have bey : ∀ (i : Nat) (Q : Option Bool -> SortSt -> Prop), i < n -> Q (some (decide (kx r arr (base + i) < r key))) st -> wpS M A E s (do
   let x <- elem' arr (base + i)
   if left then lt' x key else return (<- lt' key x).map (!·)) Q st := fun i Q hi hQ => by
  refine wpS_bind (wpS_elem (by lia) ?_)
  cases left with
  | true => exact wpS_lt K hk (mem i hi) mk hQ
  | false =>
   refine wpS_bind (wpS_lt K hk mk (mem i hi) (wpS_pure ?_))
   have e : (!decide (r key < r (arr.getD (base + i) d0))) = decide (kx r arr (base + i) < r key) := by
    have := ne i hi
    by_cases z : kx r arr (base + i) < r key
    ·rw [decide_eq_true z, decide_eq_false (show ¬ r key < r (arr.getD (base + i) d0) from fun y => by have : r key < kx r arr (base + i) := y; lia)]
     rfl
    ·rw [decide_eq_false z, decide_eq_true (show r key < r (arr.getD (base + i) d0) from by show r key < kx r arr (base + i); lia)]
     rfl
   show Q (some (!decide (r key < r (arr.getD (base + i) d0)))) st
   rw [e]
   exact hQ
 have dn : ∀ i j, i <= j -> j < n -> kx r arr (base + j) < r key -> kx r arr (base + i) < r key := fun i j ij jn l => by
  by_cases z : i = j
  ·subst z
   exact l
  ·have := up (base + i) (base + j) (by lia) (by lia) (by lia)
   lia
 have upw : ∀ i j, i <= j -> j < n -> ¬ kx r arr (base + i) < r key -> r key < kx r arr (base + j) := fun i j ij jn l => by
  have n1 := ne i (by lia)
  by_cases z : i = j
  ·subst z
   lia
  ·have := up (base + i) (base + j) (by lia) (by lia) (by lia)
   lia
 have fin : ∀ (lo hi : Nat) (st' : SortSt) (f : Nat -> Option (Option Nat) × Nat × Nat -> StateT SortSt Sem (ForInStep (Option (Option Nat) × Nat × Nat))) (g : Option (Option Nat) × Nat × Nat -> StateT SortSt Sem (Option Nat)), st' = st -> lo <= hi -> hi <= n -> (∀ i, i < lo -> kx r arr (base + i) < r key) -> (∀ i, hi <= i -> i < n -> r key < kx r arr (base + i)) ->
   (∀ x l h (R : ForInStep (Option (Option Nat) × Nat × Nat) -> SortSt -> Prop), l ≥ h -> R (.done (none, l, h)) st -> wpS M A E s (f x (none, l, h)) R st) ->
   (∀ x l h (R : ForInStep (Option (Option Nat) × Nat × Nat) -> SortSt -> Prop), l < h -> h <= n -> R (.yield (if kx r arr (base + (l + (h - l) / 2)) < r key then (none, l + (h - l) / 2 + 1, h) else (none, l, l + (h - l) / 2))) st -> wpS M A E s (f x (none, l, h)) R st) ->
   (∀ h, Q (some h) st -> wpS M A E s (g (none, h, h)) Q st) -> wpS M A E s (forIn [0:n] (none, lo, hi) f >>= g) Q st' := fun lo hi st' f g e lh hn dl du f1 f2 f3 => by
  subst e
  refine wpS_bind (wpS_mono (wpS_forRange (I := fun x c st'' => st'' = st' /\ ∃ l h, c = (none, l, h) /\ l <= h /\ h <= n /\ h - l <= n - x /\ (∀ i, i < l -> kx r arr (base + i) < r key) /\ ∀ i, h <= i -> i < n -> r key < kx r arr (base + i))
   (Q := fun c st'' => st'' = st' /\ ∃ h, c = (none, h, h) /\ h <= n /\ (∀ i, i < h -> kx r arr (base + i) < r key) /\ ∀ i, h <= i -> i < n -> r key < kx r arr (base + i)) ?step ?stop ⟨rfl, lo, hi, rfl, lh, hn, by lia, dl, du⟩) ?post)
  case step =>
   rintro x c st'' _ hx ⟨rfl, l, h, rfl, l1, l2, l3, d1, d2⟩
   by_cases z : l ≥ h
   ·have : l = h := by lia
    subst this
    exact f1 x l l _ z ⟨rfl, l, rfl, l2, d1, d2⟩
   ·refine f2 x l h _ (by lia) l2 ?_
    by_cases c : kx r arr (base + (l + (h - l) / 2)) < r key
    ·rw [if_pos c]
     exact ⟨rfl, _, _, rfl, by lia, by lia, by lia, fun i hi => dn i _ (by lia) (by lia) c, d2⟩
    ·rw [if_neg c]
     exact ⟨rfl, _, _, rfl, by lia, by lia, by lia, d1, fun i h1 h2 => upw _ i h1 h2 c⟩
  case stop =>
   rintro c st'' ⟨rfl, l, h, rfl, l1, l2, l3, d1, d2⟩
   have : l = h := by lia
   subst this
   exact ⟨rfl, l, rfl, l2, d1, d2⟩
  case post =>
   rintro c st'' ⟨rfl, h, rfl, h2, d1, d2⟩
   exact f3 h (q h h2 d1 d2)
 refine wpS_bind (bey hint _ hh ?_)
 by_cases c0 : kx r arr (base + hint) < r key
 ·rw [decide_eq_true c0]
  dsimp only
  rw [if_pos rfl]
  refine wpS_bind (wpS_mono (wpS_forRange (I := fun x c st' => st' = st /\ ∃ l o, c = (none, l, o) /\ l < o /\ x + 1 <= o /\ l < n - hint /\ kx r arr (base + (hint + l)) < r key)
   (Q := fun c st' => st' = st /\ ∃ l o, c = (none, l, o) /\ l < o /\ l < n - hint /\ kx r arr (base + (hint + l)) < r key /\ (o < n - hint -> ¬ kx r arr (base + (hint + o)) < r key)) ?step ?stop ⟨rfl, 0, 1, rfl, by lia, by lia, by lia, c0⟩) ?post)
  case step =>
   rintro x c st' _ hx ⟨rfl, l, o, rfl, l1, l2, l3, l4⟩
   dsimp only
   by_cases z : o ≥ n - hint
   ·rw [if_pos z]
    exact wpS_pure ⟨rfl, l, o, rfl, l1, l3, l4, fun y => by lia⟩
   ·rw [if_neg z]
    refine wpS_bind (bey _ _ (by lia) ?_)
    by_cases c : kx r arr (base + (hint + o)) < r key
    ·rw [decide_eq_true c]
     exact wpS_pure ⟨rfl, o, _, rfl, by lia, by lia, by lia, c⟩
    ·rw [decide_eq_false c]
     exact wpS_pure ⟨rfl, l, o, rfl, l1, l3, l4, fun _ => c⟩
  case stop =>
   rintro c st' ⟨rfl, l, o, rfl, l1, l2, l3, l4⟩
   exact ⟨rfl, l, o, rfl, l1, l3, l4, fun y => by lia⟩
  case post =>
   rintro c st' ⟨rfl, l, o, rfl, l1, l3, l4, l5⟩
   dsimp only
   refine fin (hint + l + 1) (hint + min o (n - hint)) _ _ _ rfl (by lia) (by lia) (fun i hi => dn i (hint + l) (by lia) (by lia) l4) (fun i h1 h2 => by
    by_cases z : o < n - hint
    ·exact upw (hint + o) i (by lia) h2 (l5 z)
    ·lia) (fun x l h R z hR => ?_) (fun x l h R z hn hR => ?_) (fun h hq => wpS_pure hq)
   ·dsimp only
    rw [if_pos z]
    exact wpS_pure hR
   ·dsimp only
    rw [if_neg (by lia)]
    refine wpS_bind (bey _ _ (by lia) ?_)
    by_cases c : kx r arr (base + (l + (h - l) / 2)) < r key
    ·rw [if_pos c] at hR
     rw [decide_eq_true c]
     exact wpS_pure hR
    ·rw [if_neg c] at hR
     rw [decide_eq_false c]
     exact wpS_pure hR
 ·rw [decide_eq_false c0]
  dsimp only
  rw [if_neg (by decide)]
  refine wpS_bind (wpS_mono (wpS_forRange (I := fun x c st' => st' = st /\ ∃ l o, c = (none, l, o) /\ l < o /\ x + 1 <= o /\ l < hint + 1 /\ ¬ kx r arr (base + (hint - l)) < r key)
   (Q := fun c st' => st' = st /\ ∃ l o, c = (none, l, o) /\ l < o /\ l < hint + 1 /\ ¬ kx r arr (base + (hint - l)) < r key /\ (o < hint + 1 -> kx r arr (base + (hint - o)) < r key)) ?step ?stop ⟨rfl, 0, 1, rfl, by lia, by lia, by lia, c0⟩) ?post)
  case step =>
   rintro x c st' _ hx ⟨rfl, l, o, rfl, l1, l2, l3, l4⟩
   dsimp only
   by_cases z : o ≥ hint + 1
   ·rw [if_pos z]
    exact wpS_pure ⟨rfl, l, o, rfl, l1, l3, l4, fun y => by lia⟩
   ·rw [if_neg z]
    refine wpS_bind (bey _ _ (by lia) ?_)
    by_cases c : kx r arr (base + (hint - o)) < r key
    ·rw [decide_eq_true c]
     exact wpS_pure ⟨rfl, l, o, rfl, l1, l3, l4, fun _ => c⟩
    ·rw [decide_eq_false c]
     exact wpS_pure ⟨rfl, o, _, rfl, by lia, by lia, by lia, c⟩
  case stop =>
   rintro c st' ⟨rfl, l, o, rfl, l1, l2, l3, l4⟩
   exact ⟨rfl, l, o, rfl, l1, l3, l4, fun y => by lia⟩
  case post =>
   rintro c st' ⟨rfl, l, o, rfl, l1, l3, l4, l5⟩
   dsimp only
   refine fin (hint + 1 - min o (hint + 1)) (hint - l) _ _ _ rfl (by lia) (by lia) (fun i hi => by
    by_cases z : o < hint + 1
    ·exact dn i (hint - o) (by lia) (by lia) (l5 z)
    ·lia) (fun i h1 h2 => upw (hint - l) i h1 h2 l4) (fun x l h R z hR => ?_) (fun x l h R z hn hR => ?_) (fun h hq => wpS_pure hq)
   ·dsimp only
    rw [if_pos z]
    exact wpS_pure hR
   ·dsimp only
    rw [if_neg (by lia)]
    refine wpS_bind (bey _ _ (by lia) ?_)
    by_cases c : kx r arr (base + (l + (h - l) / 2)) < r key
    ·rw [if_pos c] at hR
     rw [decide_eq_true c]
     exact wpS_pure hR
    ·rw [if_neg c] at hR
     rw [decide_eq_false c]
     exact wpS_pure hR
end
abbrev T5 : Type := Option (Array Keyed) × Array Keyed × Nat × Nat × Nat
abbrev T6 : Type := Option (Array Keyed) × Array Keyed × Nat × Nat × Nat × Nat
abbrev T7 : Type := Option (Array Keyed) × Array Keyed × Nat × Nat × Nat × Nat × Nat
def mergeLo' : Array Keyed -> Array Keyed -> StateT SortSt Sem (Array Keyed) := sortPriv% PySem.Builtin.mergeLo
def mergeHi' : Array Keyed -> Array Keyed -> StateT SortSt Sem (Array Keyed) := sortPriv% PySem.Builtin.mergeHi
def setMinGallop' : Nat -> StateT SortSt Sem Unit := sortPriv% PySem.Builtin.setMinGallop
theorem setMinGallop'_eq (g : Nat) : setMinGallop' g = modify fun st => SortSt.mk' (kindOf st) (arrOf st) (pendingOf st) g (failedOf st) := rfl
section
variable (a b : Array Keyed)
abbrev doneLo (out : Array Keyed) (ia ib : Nat) : Array Keyed := out ++ a.extract ia a.size ++ b.extract ib b.size
abbrev lastLo (out : Array Keyed) (ia ib : Nat) : Array Keyed := out ++ b.extract ib b.size ++ a.extract ia a.size
def lo1 (mg : Nat) (c : T6) : StateT SortSt Sem (ForInStep T6) := do
 let some bWins <- lt' (<- elem' b c.2.2.2.1) (<- elem' a c.2.2.1) | pure (.done (some (doneLo a b c.2.1 c.2.2.1 c.2.2.2.1), c.2.1, c.2.2.1, c.2.2.2.1, c.2.2.2.2.1, c.2.2.2.2.2))
 if bWins then
  let x <- elem' b c.2.2.2.1
  if c.2.2.2.1 + 1 == b.size then pure (.done (some (doneLo a b (c.2.1.push x) c.2.2.1 (c.2.2.2.1 + 1)), c.2.1.push x, c.2.2.1, c.2.2.2.1 + 1, 0, c.2.2.2.2.2 + 1))
  else if c.2.2.2.2.2 + 1 ≥ mg then pure (.done (none, c.2.1.push x, c.2.2.1, c.2.2.2.1 + 1, 0, c.2.2.2.2.2 + 1))
  else pure (.yield (none, c.2.1.push x, c.2.2.1, c.2.2.2.1 + 1, 0, c.2.2.2.2.2 + 1))
 else
  let x <- elem' a c.2.2.1
  if c.2.2.1 + 1 + 1 == a.size then pure (.done (some (lastLo a b (c.2.1.push x) (c.2.2.1 + 1) c.2.2.2.1), c.2.1.push x, c.2.2.1 + 1, c.2.2.2.1, c.2.2.2.2.1 + 1, 0))
  else if c.2.2.2.2.1 + 1 ≥ mg then pure (.done (none, c.2.1.push x, c.2.2.1 + 1, c.2.2.2.1, c.2.2.2.2.1 + 1, 0))
  else pure (.yield (none, c.2.1.push x, c.2.2.1 + 1, c.2.2.2.1, c.2.2.2.2.1 + 1, 0))
def lo25 (out : Array Keyed) (ia ib mg k k1 : Nat) : StateT SortSt Sem (ForInStep T7) := do
 let x <- elem' a ia
 if ia + 1 + 1 == a.size then pure (.done (some (lastLo a b (out.push x) (ia + 1) ib), out.push x, ia + 1, ib, mg, k, k1))
 else if k < 7 && k1 < 7 then pure (.done (none, out.push x, ia + 1, ib, mg, k, k1))
 else pure (.yield (none, out.push x, ia + 1, ib, mg, k, k1))
def lo24 (out : Array Keyed) (ia ib mg k bc : Nat) : StateT SortSt Sem (ForInStep T7) := do
 let y <- elem' b ib
 if ib + 1 == b.size then pure (.done (some (doneLo a b (out.push y) ia (ib + 1)), out.push y, ia, ib + 1, mg, k, bc))
 else do
  let some k1 <- gallop' true (<- elem' a ia) b (ib + 1) (b.size - (ib + 1)) 0 | pure (.done (some (doneLo a b (out.push y) ia (ib + 1)), out.push y, ia, ib + 1, mg, k, bc))
  if k1 > 0 then
   if ib + 1 + k1 == b.size then pure (.done (some (doneLo a b (out.push y ++ b.extract (ib + 1) (ib + 1 + k1)) ia (ib + 1 + k1)), out.push y ++ b.extract (ib + 1) (ib + 1 + k1), ia, ib + 1 + k1, mg, k, k1))
   else lo25 a b (out.push y ++ b.extract (ib + 1) (ib + 1 + k1)) ia (ib + 1 + k1) mg k k1
  else lo25 a b (out.push y) ia (ib + 1) mg k k1
def lo22 (c : T7) (mg : Nat) : StateT SortSt Sem (ForInStep T7) := do
 setMinGallop' mg
 let some k <- gallop' false (<- elem' b c.2.2.2.1) a c.2.2.1 (a.size - c.2.2.1) 0 | pure (.done (some (doneLo a b c.2.1 c.2.2.1 c.2.2.2.1), c.2.1, c.2.2.1, c.2.2.2.1, mg, c.2.2.2.2.2.1, c.2.2.2.2.2.2))
 if k > 0 then
  if c.2.2.1 + k + 1 == a.size then pure (.done (some (lastLo a b (c.2.1 ++ a.extract c.2.2.1 (c.2.2.1 + k)) (c.2.2.1 + k) c.2.2.2.1), c.2.1 ++ a.extract c.2.2.1 (c.2.2.1 + k), c.2.2.1 + k, c.2.2.2.1, mg, k, c.2.2.2.2.2.2))
  else if c.2.2.1 + k == a.size then pure (.done (some (doneLo a b (c.2.1 ++ a.extract c.2.2.1 (c.2.2.1 + k)) (c.2.2.1 + k) c.2.2.2.1), c.2.1 ++ a.extract c.2.2.1 (c.2.2.1 + k), c.2.2.1 + k, c.2.2.2.1, mg, k, c.2.2.2.2.2.2))
  else lo24 a b (c.2.1 ++ a.extract c.2.2.1 (c.2.2.1 + k)) (c.2.2.1 + k) c.2.2.2.1 mg k c.2.2.2.2.2.2
 else lo24 a b c.2.1 c.2.2.1 c.2.2.2.1 mg k c.2.2.2.2.2.2
def lo2 (c : T7) : StateT SortSt Sem (ForInStep T7) := if c.2.2.2.2.1 > 1 then lo22 a b c (c.2.2.2.2.1 - 1) else lo22 a b c c.2.2.2.2.1
def loOut (c : T5) : StateT SortSt Sem (ForInStep T5) := do
 let c1 <- forIn [0:a.size + b.size] ((none, c.2.1, c.2.2.1, c.2.2.2.1, 0, 0) : T6) fun _ c1 => lo1 a b c.2.2.2.2 c1
 match c1.1 with
 | some r => pure (.done (some r, c1.2.1, c1.2.2.1, c1.2.2.2.1, c.2.2.2.2))
 | none => do
  rule "list.sort.gallop"
  let c2 <- forIn [0:a.size + b.size] ((none, c1.2.1, c1.2.2.1, c1.2.2.2.1, c.2.2.2.2 + 1, c1.2.2.2.2.1, c1.2.2.2.2.2) : T7) fun _ c2 => lo2 a b c2
  match c2.1 with
  | some r => pure (.done (some r, c2.2.1, c2.2.2.1, c2.2.2.2.1, c2.2.2.2.2.1))
  | none => do
   setMinGallop' (c2.2.2.2.2.1 + 1)
   pure (.yield (none, c2.2.1, c2.2.2.1, c2.2.2.2.1, c2.2.2.2.2.1 + 1))
def lo0 : StateT SortSt Sem (Array Keyed) := do
 rule "list.sort.merge-lo"
 let x <- elem' b 0
 if 1 == b.size then pure (doneLo a b #[x] 0 1)
 else if 0 + 1 == a.size then pure (lastLo a b #[x] 0 1)
 else do
  let st <- get
  let c <- forIn [0:a.size + b.size] ((none, #[x], 0, 1, gallopOf st) : T5) fun _ c => loOut a b c
  match c.1 with
  | some r => pure r
  | none => unsupported "internal:list.sort.merge-bound"
theorem mergeLo'_eq : mergeLo' a b = lo0 a b := by
 refine congrArg (bind _) (funext fun _ => ?_)
 refine congrArg (bind (elem' b 0)) (funext fun x => ?_)
 refine ite_congr rfl (fun _ => rfl) (fun _ => ?_)
 refine ite_congr rfl (fun _ => rfl) (fun _ => ?_)
 refine congrArg (bind get) (funext fun st => ?_)
 refine congr (congrArg bind (congrArg (forIn [0:a.size + b.size] _) (funext fun u => funext fun c => ?_))) (funext fun c => ?_)
 ·refine congr (congrArg bind (congrArg (forIn [0:a.size + b.size] _) (funext fun u => funext fun c1 => rfl))) (funext fun c1 => ?_)
  obtain ⟨r1, out1, ia1, ib1, ac1, bc1⟩ := c1
  cases r1 with
  | some r1 => rfl
  | none =>
   refine congrArg (bind _) (funext fun _ => ?_)
   refine congr (congrArg bind (congrArg (forIn [0:a.size + b.size] _) (funext fun u => funext fun c2 => ?_))) (funext fun c2 => ?_)
   ·refine ite_congr rfl (fun _ => ?_) (fun _ => ?_)
    ·rfl
    ·rfl
   ·obtain ⟨r2, _⟩ := c2
    cases r2 <;> rfl
 ·obtain ⟨r, _⟩ := c
  cases r <;> rfl
end
abbrev Up (r : Keyed -> Int) (l : List Keyed) : Prop := l.Pairwise fun x y => r x < r y
structure Mg (r : Keyed -> Int) (la lb out : List Keyed) (ia ib : Nat) : Prop where
 perm : (out ++ la.drop ia ++ lb.drop ib).Perm (la ++ lb)
 so : Up r out
 oa : ∀ x ∈ out, ∀ y ∈ la.drop ia, r x < r y
 ob : ∀ x ∈ out, ∀ y ∈ lb.drop ib, r x < r y
section
variable {r : Keyed -> Int} {la lb out : List Keyed} {ia ib : Nat}
theorem up_drop {l : List Keyed} (h : Up r l) (i : Nat) : Up r (l.drop i) := List.Pairwise.sublist (List.drop_sublist i l) h
theorem take_up {l : List Keyed} (h : Up r l) (i k : Nat) : Up r ((l.drop i).take k) /\ ∀ x ∈ (l.drop i).take k, ∀ y ∈ l.drop (i + k), r x < r y := by
 have z := up_drop h i
 rw [<- List.take_append_drop k (l.drop i)] at z
 obtain ⟨h1, _, h3⟩ := List.pairwise_append.mp z
 rw [List.drop_drop] at h3
 exact ⟨h1, h3⟩
theorem Mg.len (m : Mg r la lb out ia ib) (h1 : ia <= la.length) (h2 : ib <= lb.length) : out.length + (la.length - ia) + (lb.length - ib) = la.length + lb.length := by
 have z := m.perm.length_eq
 rw [List.length_append, List.length_append, List.length_append, List.length_drop, List.length_drop] at z
 exact z
theorem Mg.moveA (m : Mg r la lb out ia ib) (sa : Up r la) (k : Nat) (h : ∀ x ∈ (la.drop ia).take k, ∀ y ∈ lb.drop ib, r x < r y) : Mg r la lb (out ++ (la.drop ia).take k) (ia + k) ib := by
 obtain ⟨t1, t2⟩ := take_up sa ia k
 have e : (la.drop ia).take k ++ la.drop (ia + k) = la.drop ia := by rw [<- List.drop_drop]; exact List.take_append_drop k _
 have sub : ∀ y ∈ la.drop (ia + k), y ∈ la.drop ia := fun y hy => by rw [<- e]; exact List.mem_append.mpr (.inr hy)
 refine ⟨?_, List.pairwise_append.mpr ⟨m.so, t1, fun x hx y hy => m.oa x hx y (List.mem_of_mem_take hy)⟩, fun x hx y hy => ?_, fun x hx y hy => ?_⟩
 ·have z := m.perm
  rw [<- e, <- List.append_assoc] at z
  exact z
 ·rcases List.mem_append.mp hx with z | z
  ·exact m.oa x z y (sub y hy)
  ·exact t2 x z y hy
 ·rcases List.mem_append.mp hx with z | z
  ·exact m.ob x z y hy
  ·exact h x z y hy
theorem Mg.moveB (m : Mg r la lb out ia ib) (sb : Up r lb) (k : Nat) (h : ∀ x ∈ (lb.drop ib).take k, ∀ y ∈ la.drop ia, r x < r y) : Mg r la lb (out ++ (lb.drop ib).take k) ia (ib + k) := by
 obtain ⟨t1, t2⟩ := take_up sb ib k
 have e : (lb.drop ib).take k ++ lb.drop (ib + k) = lb.drop ib := by rw [<- List.drop_drop]; exact List.take_append_drop k _
 have sub : ∀ y ∈ lb.drop (ib + k), y ∈ lb.drop ib := fun y hy => by rw [<- e]; exact List.mem_append.mpr (.inr hy)
 refine ⟨?_, List.pairwise_append.mpr ⟨m.so, t1, fun x hx y hy => m.ob x hx y (List.mem_of_mem_take hy)⟩, fun x hx y hy => ?_, fun x hx y hy => ?_⟩
 ·have z := m.perm
  rw [<- e] at z
  refine List.Perm.trans ?_ z
  rw [List.append_assoc, List.append_assoc, List.append_assoc]
  refine List.Perm.append_left _ ?_
  rw [<- List.append_assoc, <- List.append_assoc]
  exact List.Perm.append_right _ List.perm_append_comm
 ·rcases List.mem_append.mp hx with z | z
  ·exact m.oa x z y hy
  ·exact h x z y hy
 ·rcases List.mem_append.mp hx with z | z
  ·exact m.ob x z y (sub y hy)
  ·exact t2 x z y hy
def Good (r : Keyed -> Int) (la lb out : List Keyed) : Prop := out.Perm (la ++ lb) /\ Up r out
theorem Mg.endB (m : Mg r la lb out ia ib) (sa : Up r la) (h : lb.length <= ib) : Good r la lb (out ++ la.drop ia ++ lb.drop ib) := by
 refine ⟨m.perm, ?_⟩
 rw [List.drop_of_length_le h, List.append_nil]
 exact List.pairwise_append.mpr ⟨m.so, up_drop sa ia, m.oa⟩
theorem Mg.endA (m : Mg r la lb out ia ib) (sb : Up r lb) (h : la.length <= ia) : Good r la lb (out ++ la.drop ia ++ lb.drop ib) := by
 refine ⟨m.perm, ?_⟩
 rw [List.drop_of_length_le h, List.append_nil]
 exact List.pairwise_append.mpr ⟨m.so, up_drop sb ib, m.ob⟩
theorem Mg.last (m : Mg r la lb out ia ib) (sb : Up r lb) (h : ia + 1 = la.length) (top : ∀ y ∈ lb, ∀ x ∈ la.drop ia, r y < r x) : Good r la lb (out ++ lb.drop ib ++ la.drop ia) := by
 refine ⟨List.Perm.trans ?_ m.perm, ?_⟩
 ·rw [List.append_assoc, List.append_assoc]
  exact List.Perm.append_left _ List.perm_append_comm
 ·obtain ⟨x, ex⟩ : ∃ x, la.drop ia = [x] := List.length_eq_one_iff.mp (by rw [List.length_drop]; lia)
  refine List.pairwise_append.mpr ⟨List.pairwise_append.mpr ⟨m.so, up_drop sb ib, m.ob⟩, by rw [ex]; exact List.pairwise_singleton _ _, fun y hy x hx => ?_⟩
  rcases List.mem_append.mp hy with z | z
  ·exact m.oa y z x hx
  ·exact top y (List.mem_of_mem_drop z) x hx
end
structure Eqv (st st' : SortSt) : Prop where
 kind : kindOf st' = kindOf st
 arr : arrOf st' = arrOf st
 pend : pendingOf st' = pendingOf st
 ok : failedOf st' = failedOf st
theorem Eqv.refl (st : SortSt) : Eqv st st := ⟨rfl, rfl, rfl, rfl⟩
theorem Eqv.trans {a b c : SortSt} (h : Eqv a b) (h' : Eqv b c) : Eqv a c := ⟨h'.kind.trans h.kind, h'.arr.trans h.arr, h'.pend.trans h.pend, h'.ok.trans h.ok⟩
section
variable {M : Model} {A : Around} {E : Value -> Shared -> Prop} {s : Shared} {κ : SortKind} {r : Keyed -> Int} {a₀ a b out : Array Keyed} {ia ib : Nat}
theorem wpS_setMin {g : Nat} {st : SortSt} {Q : Unit -> SortSt -> Prop} (h : ∀ st', Eqv st st' -> Q () st') : wpS M A E s (setMinGallop' g) Q st := by
 rw [setMinGallop'_eq]
 exact wpS_modify (h _ ⟨rfl, rfl, rfl, rfl⟩)
theorem ext_to (a : Array Keyed) (i : Nat) : (a.extract i a.size).toList = a.toList.drop i := by
 rw [Array.toList_extract, List.extract_eq_take_drop, List.take_of_length_le (by rw [List.length_drop, Array.length_toList]; exact Nat.le_refl _)]
theorem ext_k (a : Array Keyed) (i k : Nat) : (a.extract i (i + k)).toList = (a.toList.drop i).take k := by
 rw [Array.toList_extract, List.extract_eq_take_drop, Nat.add_sub_cancel_left]
theorem done_list : (doneLo a b out ia ib).toList = out.toList ++ a.toList.drop ia ++ b.toList.drop ib := by
 rw [Array.toList_append, Array.toList_append, ext_to, ext_to]
theorem last_list : (lastLo a b out ia ib).toList = out.toList ++ b.toList.drop ib ++ a.toList.drop ia := by
 rw [Array.toList_append, Array.toList_append, ext_to, ext_to]
theorem drop_at {i : Nat} (h : i < a.size) : a.toList.drop i = a.getD i d0 :: a.toList.drop (i + 1) := by
 have z := getD_at h
 rw [<- Array.getElem?_toList] at z
 obtain ⟨h1, h2⟩ := List.getElem?_eq_some_iff.mp z
 rw [List.drop_eq_getElem_cons h1, h2]
theorem mem_drop {i : Nat} {x : Keyed} (h : x ∈ a.toList.drop i) : ∃ j, i <= j /\ j < a.size /\ a.getD j d0 = x := by
 obtain ⟨j, hj⟩ := List.getElem?_of_mem h
 rw [List.getElem?_drop, Array.getElem?_toList] at hj
 exact ⟨i + j, by lia, (Array.getElem?_eq_some_iff.mp hj).1, getD_of hj⟩
theorem mem_take {i k : Nat} {x : Keyed} (h : x ∈ (a.toList.drop i).take k) : ∃ j, j < k /\ i + j < a.size /\ a.getD (i + j) d0 = x := by
 obtain ⟨j, hj⟩ := List.getElem?_of_mem h
 rw [List.getElem?_take] at hj
 split at hj
 ·next l =>
  rw [List.getElem?_drop, Array.getElem?_toList] at hj
  exact ⟨j, l, (Array.getElem?_eq_some_iff.mp hj).1, getD_of hj⟩
 ·cases hj
theorem up_ris {lo hi : Nat} (h : Up r a.toList) (hh : hi <= a.size) : Ris r a lo hi := fun i j _ h2 h3 => by
 have e : ∀ k, k < a.size -> a.toList[k]? = some (a.getD k d0) := fun k hk => by rw [Array.getElem?_toList]; exact getD_at hk
 obtain ⟨l1, e1⟩ := List.getElem?_eq_some_iff.mp (e i (by lia))
 obtain ⟨l2, e2⟩ := List.getElem?_eq_some_iff.mp (e j (by lia))
 have z := List.pairwise_iff_getElem.mp h i j l1 l2 h2
 rw [e1, e2] at z
 exact z
theorem mem_at {i : Nat} (h : i < a.size) : a.getD i d0 ∈ a.toList := by
 rw [Array.mem_toList_iff]
 exact Array.mem_of_getElem? (getD_at h)
structure Two (κ : SortKind) (r : Keyed -> Int) (a₀ a b : Array Keyed) : Prop where
 ma : ∀ x ∈ a.toList, x ∈ a₀
 mb : ∀ x ∈ b.toList, x ∈ a₀
 sa : Up r a.toList
 sb : Up r b.toList
 ap : ∀ x ∈ a.toList, ∀ y ∈ b.toList, r x ≠ r y
 a1 : 0 < a.size
 b1 : 0 < b.size
 lo : ∀ x ∈ a.toList, r (b.getD 0 d0) < r x
 top : ∀ y ∈ b.toList, r y < r (a.getD (a.size - 1) d0)
abbrev Gd (r : Keyed -> Int) (a b m : Array Keyed) : Prop := Good r a.toList b.toList m.toList
theorem Two.tops (t : Two κ r a₀ a b) {i : Nat} (h : i + 1 = a.size) : ∀ y ∈ b.toList, ∀ x ∈ a.toList.drop i, r y < r x := fun y hy x hx => by
 obtain ⟨j, h1, h2, rfl⟩ := mem_drop hx
 have e : j = a.size - 1 := by lia
 subst e
 exact t.top y hy
theorem push_list {x : Keyed} : (out.push x).toList = out.toList ++ [x] := Array.toList_push
theorem pushA (t : Two κ r a₀ a b) (m : Mg r a.toList b.toList out.toList ia ib) (ha : ia < a.size) (h : ∀ y ∈ b.toList.drop ib, r (a.getD ia d0) < r y) : Mg r a.toList b.toList (out.push (a.getD ia d0)).toList (ia + 1) ib := by
 have e : (a.toList.drop ia).take 1 = [a.getD ia d0] := by rw [drop_at ha]; rfl
 have z := m.moveA t.sa 1 (by rw [e]; intro x hx; rw [List.mem_singleton.mp hx]; exact h)
 rw [e] at z
 rw [push_list]
 exact z
theorem pushB (t : Two κ r a₀ a b) (m : Mg r a.toList b.toList out.toList ia ib) (hb : ib < b.size) (h : ∀ y ∈ a.toList.drop ia, r (b.getD ib d0) < r y) : Mg r a.toList b.toList (out.push (b.getD ib d0)).toList ia (ib + 1) := by
 have e : (b.toList.drop ib).take 1 = [b.getD ib d0] := by rw [drop_at hb]; rfl
 have z := m.moveB t.sb 1 (by rw [e]; intro x hx; rw [List.mem_singleton.mp hx]; exact h)
 rw [e] at z
 rw [push_list]
 exact z
theorem below {x : Int} {i : Nat} (sa : Up r a.toList) (ha : i < a.size) (h : x < r (a.getD i d0)) : ∀ y ∈ a.toList.drop i, x < r y := fun y hy => by
 obtain ⟨j, h1, h2, rfl⟩ := mem_drop hy
 by_cases e : j = i
 ·subst e
  exact h
 ·have := up_ris (lo := 0) sa (Nat.le_refl _) i j (Nat.zero_le _) (by lia) h2
  show x < kx r a j
  have : x < kx r a i := h
  lia
theorem wpS_lo1 {st0 : SortSt} {mg old t : Nat} {c : T6} {st : SortSt} {Q : ForInStep T6 -> SortSt -> Prop} (K : Asks M A s κ r a₀) (T : Two κ r a₀ a b) (e0 : Eqv st0 st) (hk : kindOf st0 = κ) (ec : c = (none, out, ia, ib, c.2.2.2.2.1, c.2.2.2.2.2)) (m : Mg r a.toList b.toList out.toList ia ib) (ha : ia + 1 < a.size) (hb : ib < b.size) (hz : old + t <= out.size)
  (q1 : ∀ w rest, Gd r a b w -> Q (.done (some w, rest)) st) (q2 : ∀ out ia ib x y, Mg r a.toList b.toList out.toList ia ib -> ia + 1 < a.size -> ib < b.size -> old + t + 1 <= out.size -> Q (.done (none, out, ia, ib, x, y)) st /\ Q (.yield (none, out, ia, ib, x, y)) st) : wpS M A E s (lo1 a b mg c) Q st := by
 have hk' := e0.kind.trans hk
 unfold lo1
 rw [ec]
 dsimp only
 have la := T.ma _ (mem_at (show ia < a.size by lia))
 have lb := T.mb _ (mem_at hb)
 refine wpS_bind (wpS_elem hb (wpS_bind (wpS_elem (by lia) (wpS_bind (wpS_lt K hk' lb la ?_)))))
 by_cases w : r (b.getD ib d0) < r (a.getD ia d0)
 ·rw [decide_eq_true w]
  refine wpS_bind (wpS_elem hb ?_)
  have m2 := pushB T m hb (below T.sa (by lia) w)
  by_cases z : ib + 1 = b.size
  ·rw [if_pos (by simpa using z)]
   refine wpS_pure (q1 _ _ ?_)
   show Good r _ _ (doneLo a b _ _ _).toList
   rw [done_list]
   exact m2.endB T.sa (by rw [Array.length_toList]; lia)
  ·rw [if_neg (by simpa using z)]
   obtain ⟨h1, h2⟩ := q2 _ _ _ 0 (c.2.2.2.2.2 + 1) m2 ha (by lia) (by rw [Array.size_push]; lia)
   by_cases g : c.2.2.2.2.2 + 1 ≥ mg
   ·rw [if_pos g]
    exact wpS_pure h1
   ·rw [if_neg g]
    exact wpS_pure h2
 ·rw [decide_eq_false w]
  refine wpS_bind (wpS_elem (by lia) ?_)
  have ne := T.ap _ (mem_at (show ia < a.size by lia)) _ (mem_at hb)
  have m2 := pushA T m (by lia) (below T.sb hb (by lia))
  by_cases z : ia + 1 + 1 = a.size
  ·rw [if_pos (by simpa using z)]
   refine wpS_pure (q1 _ _ ?_)
   show Good r _ _ (lastLo a b _ _ _).toList
   rw [last_list]
   exact m2.last T.sb (by rw [Array.length_toList]; lia) (T.tops (by lia))
  ·rw [if_neg (by simpa using z)]
   obtain ⟨h1, h2⟩ := q2 _ _ _ (c.2.2.2.2.1 + 1) 0 m2 (by lia) hb (by rw [Array.size_push]; lia)
   by_cases g : c.2.2.2.2.1 + 1 ≥ mg
   ·rw [if_pos g]
    exact wpS_pure h1
   ·rw [if_neg g]
    exact wpS_pure h2
end
section
variable {M : Model} {A : Around} {E : Value -> Shared -> Prop} {s : Shared} {κ : SortKind} {r : Keyed -> Int} {a₀ a b out : Array Keyed} {ia ib : Nat}
structure Rnd (r : Keyed -> Int) (a b : Array Keyed) (st0 : SortSt) (old : Nat) (Q : ForInStep T7 -> SortSt -> Prop) : Prop where
 q1 : ∀ st w rest, Eqv st0 st -> Gd r a b w -> Q (.done (some w, rest)) st
 q2 : ∀ st (out : Array Keyed) ia ib x y z, Eqv st0 st -> Mg r a.toList b.toList out.toList ia ib -> ia + 1 < a.size -> ib < b.size -> old <= out.size -> Q (.done (none, out, ia, ib, x, y, z)) st /\ Q (.yield (none, out, ia, ib, x, y, z)) st
theorem wpS_lo25 {st0 st : SortSt} {mg k k1 old : Nat} {Q : ForInStep T7 -> SortSt -> Prop} (T : Two κ r a₀ a b) (e0 : Eqv st0 st) (m : Mg r a.toList b.toList out.toList ia ib) (ha : ia + 1 < a.size) (hb : ib < b.size) (hz : old <= out.size) (lt : ∀ y ∈ b.toList.drop ib, r (a.getD ia d0) < r y) (q : Rnd r a b st0 old Q) : wpS M A E s (lo25 a b out ia ib mg k k1) Q st := by
 unfold lo25
 refine wpS_bind (wpS_elem (by lia) ?_)
 have m2 := pushA T m (by lia) lt
 by_cases z : ia + 1 + 1 = a.size
 ·rw [if_pos (by simpa using z)]
  refine wpS_pure (q.q1 _ _ _ e0 ?_)
  show Good r _ _ (lastLo a b _ _ _).toList
  rw [last_list]
  exact m2.last T.sb (by rw [Array.length_toList]; lia) (T.tops (by lia))
 ·rw [if_neg (by simpa using z)]
  obtain ⟨h1, h2⟩ := q.q2 st _ _ _ mg k k1 e0 m2 (by lia) hb (by rw [Array.size_push]; lia)
  by_cases g : (decide (k < 7) && decide (k1 < 7)) = true
  ·rw [if_pos g]
   exact wpS_pure h1
  ·rw [if_neg g]
   exact wpS_pure h2
theorem wpS_lo24 {st0 st : SortSt} {mg k bc old : Nat} {Q : ForInStep T7 -> SortSt -> Prop} (K : Asks M A s κ r a₀) (hk : kindOf st0 = κ) (T : Two κ r a₀ a b) (e0 : Eqv st0 st) (m : Mg r a.toList b.toList out.toList ia ib) (ha : ia + 1 < a.size) (hb : ib < b.size) (hz : old <= out.size) (lt : ∀ y ∈ a.toList.drop ia, r (b.getD ib d0) < r y) (q : Rnd r a b st0 old Q) : wpS M A E s (lo24 a b out ia ib mg k bc) Q st := by
 have hk' := e0.kind.trans hk
 unfold lo24
 refine wpS_bind (wpS_elem hb ?_)
 have m1 := pushB T m hb lt
 have hz1 : old <= (out.push (b.getD ib d0)).size := by rw [Array.size_push]; lia
 generalize out.push (b.getD ib d0) = out1 at m1 hz1
 by_cases z : ib + 1 = b.size
 ·rw [if_pos (by simpa using z)]
  refine wpS_pure (q.q1 _ _ _ e0 ?_)
  show Good r _ _ (doneLo a b _ _ _).toList
  rw [done_list]
  exact m1.endB T.sa (by rw [Array.length_toList]; lia)
 rw [if_neg (by simpa using z)]
 have la := mem_at (show ia < a.size by lia)
 refine wpS_bind (wpS_elem (by lia) (wpS_bind (wpS_gallop K hk' (by lia) (fun i hi => T.mb _ (mem_at (by lia))) (T.ma _ la) (fun i hi => (T.ap _ la _ (mem_at (show ib + 1 + i < b.size by lia))).symm) (up_ris T.sb (by lia)) (by lia) fun k1 kn k2 k3 => ?_)))
 dsimp only
 have ab : ∀ y ∈ b.toList.drop (ib + 1 + k1), r (a.getD ia d0) < r y := fun y hy => by
  obtain ⟨j, h1, h2, rfl⟩ := mem_drop hy
  have := k3 (j - (ib + 1)) (by lia) (by lia)
  rw [show ib + 1 + (j - (ib + 1)) = j by lia] at this
  exact this
 by_cases g : k1 > 0
 ·rw [if_pos g]
  have m2 := m1.moveB T.sb k1 (fun x hx y hy => by
   obtain ⟨j, h1, h2, rfl⟩ := mem_take hx
   exact below T.sa (by lia) (k2 j h1) y hy)
  rw [<- ext_k, <- Array.toList_append] at m2
  have hz2 : old <= (out1 ++ b.extract (ib + 1) (ib + 1 + k1)).size := by rw [Array.size_append]; lia
  by_cases z2 : ib + 1 + k1 = b.size
  ·rw [if_pos (by simpa using z2)]
   refine wpS_pure (q.q1 _ _ _ e0 ?_)
   show Good r _ _ (doneLo a b _ _ _).toList
   rw [done_list]
   exact m2.endB T.sa (by rw [Array.length_toList]; lia)
  ·rw [if_neg (by simpa using z2)]
   exact wpS_lo25 T e0 m2 ha (by lia) hz2 ab q
 ·rw [if_neg g]
  have e : k1 = 0 := by lia
  subst e
  exact wpS_lo25 T e0 m1 ha (by lia) hz1 ab q
theorem wpS_lo22 {st0 st : SortSt} {c : T7} {mg old : Nat} {Q : ForInStep T7 -> SortSt -> Prop} (K : Asks M A s κ r a₀) (hk : kindOf st0 = κ) (T : Two κ r a₀ a b) (e0 : Eqv st0 st) (ec : c.2.1 = out /\ c.2.2.1 = ia /\ c.2.2.2.1 = ib) (m : Mg r a.toList b.toList out.toList ia ib) (ha : ia + 1 < a.size) (hb : ib < b.size) (hz : old <= out.size) (q : Rnd r a b st0 old Q) : wpS M A E s (lo22 a b c mg) Q st := by
 obtain ⟨e1, e2, e3⟩ := ec
 unfold lo22
 rw [e1, e2, e3]
 refine wpS_bind (wpS_setMin fun st1 x1 => ?_)
 have e4 := e0.trans x1
 have hk' := e4.kind.trans hk
 have lb := mem_at hb
 refine wpS_bind (wpS_elem hb (wpS_bind (wpS_gallop K hk' (by lia) (fun i hi => T.ma _ (mem_at (by lia))) (T.mb _ lb) (fun i hi => T.ap _ (mem_at (show ia + i < a.size by lia)) _ lb) (up_ris T.sa (by lia)) (by lia) fun k kn k2 k3 => ?_)))
 dsimp only
 have ab : ∀ y ∈ a.toList.drop (ia + k), r (b.getD ib d0) < r y := fun y hy => by
  obtain ⟨j, h1, h2, rfl⟩ := mem_drop hy
  have := k3 (j - ia) (by lia) (by lia)
  rw [show ia + (j - ia) = j by lia] at this
  exact this
 by_cases g : k > 0
 ·rw [if_pos g]
  have m2 := m.moveA T.sa k (fun x hx y hy => by
   obtain ⟨j, h1, h2, rfl⟩ := mem_take hx
   exact below T.sb hb (k2 j h1) y hy)
  rw [<- ext_k, <- Array.toList_append] at m2
  have hz2 : old <= (out ++ a.extract ia (ia + k)).size := by rw [Array.size_append]; lia
  by_cases z1 : ia + k + 1 = a.size
  ·rw [if_pos (by simpa using z1)]
   refine wpS_pure (q.q1 _ _ _ e4 ?_)
   show Good r _ _ (lastLo a b _ _ _).toList
   rw [last_list]
   exact m2.last T.sb (by rw [Array.length_toList]; lia) (T.tops (by lia))
  rw [if_neg (by simpa using z1)]
  by_cases z2 : ia + k = a.size
  ·rw [if_pos (by simpa using z2)]
   refine wpS_pure (q.q1 _ _ _ e4 ?_)
   show Good r _ _ (doneLo a b _ _ _).toList
   rw [done_list]
   exact m2.endA T.sb (by rw [Array.length_toList]; lia)
  rw [if_neg (by simpa using z2)]
  exact wpS_lo24 K hk T e4 m2 (by lia) hb hz2 ab q
 ·rw [if_neg g]
  have e : k = 0 := by lia
  subst e
  exact wpS_lo24 K hk T e4 m ha hb hz ab q
theorem wpS_lo2 {st0 st : SortSt} {c : T7} {old : Nat} {Q : ForInStep T7 -> SortSt -> Prop} (K : Asks M A s κ r a₀) (hk : kindOf st0 = κ) (T : Two κ r a₀ a b) (e0 : Eqv st0 st) (ec : c.2.1 = out /\ c.2.2.1 = ia /\ c.2.2.2.1 = ib) (m : Mg r a.toList b.toList out.toList ia ib) (ha : ia + 1 < a.size) (hb : ib < b.size) (hz : old <= out.size) (q : Rnd r a b st0 old Q) : wpS M A E s (lo2 a b c) Q st := by
 unfold lo2
 split
 ·exact wpS_lo22 K hk T e0 ec m ha hb hz q
 ·exact wpS_lo22 K hk T e0 ec m ha hb hz q
theorem wpS_loOut {st0 st : SortSt} {c : T5} {Q : ForInStep T5 -> SortSt -> Prop} {mg : Nat} (K : Asks M A s κ r a₀) (hk : kindOf st0 = κ) (T : Two κ r a₀ a b) (e0 : Eqv st0 st) (ec : c = (none, out, ia, ib, mg)) (m : Mg r a.toList b.toList out.toList ia ib) (ha : ia + 1 < a.size) (hb : ib < b.size)
  (q1 : ∀ st w rest, Eqv st0 st -> Gd r a b w -> Q (.done (some w, rest)) st) (q2 : ∀ st (out' : Array Keyed) ia ib g, Eqv st0 st -> Mg r a.toList b.toList out'.toList ia ib -> ia + 1 < a.size -> ib < b.size -> out.size + 1 <= out'.size -> Q (.yield (none, out', ia, ib, g)) st) : wpS M A E s (loOut a b c) Q st := by
 subst ec
 unfold loOut
 dsimp only
 have tot : 0 < a.size + b.size := by lia
 refine wpS_bind (wpS_mono (wpS_forRange (I := fun x (c1 : T6) st' => Eqv st0 st' /\ ∃ (o : Array Keyed) (i j u v : Nat), c1 = (none, o, i, j, u, v) /\ Mg r a.toList b.toList o.toList i j /\ i + 1 < a.size /\ j < b.size /\ out.size + x <= o.size)
  (Q := fun c1 st' => Eqv st0 st' /\ ((∃ w rest, c1 = (some w, rest) /\ Gd r a b w) ∨ ∃ (o : Array Keyed) (i j u v : Nat), c1 = (none, o, i, j, u, v) /\ Mg r a.toList b.toList o.toList i j /\ i + 1 < a.size /\ j < b.size /\ out.size + 1 <= o.size)) ?step ?stop ⟨e0, out, ia, ib, 0, 0, rfl, m, ha, hb, Nat.le_refl _⟩) ?post)
 case step =>
  rintro x c1 st' _ hx ⟨e1, o, i, j, u, v, rfl, m1, h1, h2, h3⟩
  refine wpS_lo1 (old := out.size) (t := x) K T e1 hk rfl m1 h1 h2 h3 (fun w rest g => ⟨e1, .inl ⟨w, rest, rfl, g⟩⟩) fun o' i' j' u' v' m' h1' h2' h3' => ⟨⟨e1, .inr ⟨o', i', j', u', v', rfl, m', h1', h2', by lia⟩⟩, ⟨e1, o', i', j', u', v', rfl, m', h1', h2', by lia⟩⟩
 case stop =>
  rintro c1 st' ⟨e1, o, i, j, u, v, rfl, m1, h1, h2, h3⟩
  exact ⟨e1, .inr ⟨o, i, j, u, v, rfl, m1, h1, h2, by lia⟩⟩
 case post =>
  rintro c1 st' ⟨e1, h⟩
  rcases h with ⟨w, rest, rfl, g⟩ | ⟨o, i, j, u, v, rfl, m1, h1, h2, h3⟩
  ·exact wpS_pure (q1 _ _ _ e1 g)
  dsimp only
  refine wpS_bind (wpS_lift (wpAny_rule ⟨rfl, ?_⟩))
  refine wpS_bind (wpS_mono (wpS_forRange (I := fun x (c2 : T7) st' => Eqv st0 st' /\ ∃ (o : Array Keyed) (i j u v w : Nat), c2 = (none, o, i, j, u, v, w) /\ Mg r a.toList b.toList o.toList i j /\ i + 1 < a.size /\ j < b.size /\ out.size + 1 <= o.size)
   (Q := fun c2 st' => Eqv st0 st' /\ ((∃ w rest, c2 = (some w, rest) /\ Gd r a b w) ∨ ∃ (o : Array Keyed) (i j u v w : Nat), c2 = (none, o, i, j, u, v, w) /\ Mg r a.toList b.toList o.toList i j /\ i + 1 < a.size /\ j < b.size /\ out.size + 1 <= o.size)) ?step2 ?stop2 ⟨e1, o, i, j, mg + 1, u, v, rfl, m1, h1, h2, h3⟩) ?post2)
  case step2 =>
   rintro x c2 st2 _ hx ⟨e2, o, i, j, u, v, w, rfl, m2, g1, g2, g3⟩
   exact wpS_lo2 K hk T e2 ⟨rfl, rfl, rfl⟩ m2 g1 g2 g3 ⟨fun st w rest e g => ⟨e, .inl ⟨w, rest, rfl, g⟩⟩, fun st o' i' j' x' y' z' e m' h1' h2' h3' => ⟨⟨e, .inr ⟨o', i', j', x', y', z', rfl, m', h1', h2', h3'⟩⟩, ⟨e, o', i', j', x', y', z', rfl, m', h1', h2', h3'⟩⟩⟩
  case stop2 =>
   rintro c2 st2 ⟨e2, o, i, j, u, v, w, rfl, m2, g1, g2, g3⟩
   exact ⟨e2, .inr ⟨o, i, j, u, v, w, rfl, m2, g1, g2, g3⟩⟩
  case post2 =>
   rintro c2 st2 ⟨e2, h⟩
   rcases h with ⟨w, rest, rfl, g⟩ | ⟨o, i, j, u, v, w, rfl, m2, g1, g2, g3⟩
   ·exact wpS_pure (q1 _ _ _ e2 g)
   ·dsimp only
    exact wpS_bind (wpS_setMin fun st3 x3 => wpS_pure (q2 _ _ _ _ _ (e2.trans x3) m2 g1 g2 g3))
theorem wpS_mergeLo {st : SortSt} {Q : Array Keyed -> SortSt -> Prop} (K : Asks M A s κ r a₀) (hk : kindOf st = κ) (T : Two κ r a₀ a b) (q : ∀ m st', Eqv st st' -> Gd r a b m -> Q m st') : wpS M A E s (mergeLo' a b) Q st := by
 rw [mergeLo'_eq]
 unfold lo0
 refine wpS_bind (wpS_lift (wpAny_rule ⟨rfl, wpS_bind (wpS_elem T.b1 ?_)⟩))
 have m0 : Mg r a.toList b.toList (#[] : Array Keyed).toList 0 0 := ⟨by simp, List.Pairwise.nil, fun x hx => (nomatch hx), fun x hx => (nomatch hx)⟩
 have m1 : Mg r a.toList b.toList (#[b.getD 0 d0] : Array Keyed).toList 0 1 := pushB (out := #[]) T m0 T.b1 (fun y hy => T.lo y hy)
 have a1 := T.a1
 have b1 := T.b1
 by_cases z1 : 1 = b.size
 ·rw [if_pos (by simpa using z1)]
  refine wpS_pure (q _ _ (Eqv.refl _) ?_)
  show Good r _ _ (doneLo a b _ _ _).toList
  rw [done_list]
  exact m1.endB T.sa (by rw [Array.length_toList]; lia)
 rw [if_neg (by simpa using z1)]
 by_cases z2 : 0 + 1 = a.size
 ·rw [if_pos (by simpa using z2)]
  refine wpS_pure (q _ _ (Eqv.refl _) ?_)
  show Good r _ _ (lastLo a b _ _ _).toList
  rw [last_list]
  exact m1.last T.sb (by rw [Array.length_toList]; lia) (T.tops (by lia))
 rw [if_neg (by simpa using z2)]
 refine wpS_bind (wpS_get (wpS_bind (wpS_mono (wpS_forRange (I := fun x (c : T5) st' => Eqv st st' /\ ∃ (o : Array Keyed) (i j g : Nat), c = (none, o, i, j, g) /\ Mg r a.toList b.toList o.toList i j /\ i + 1 < a.size /\ j < b.size /\ x + 1 <= o.size)
  (Q := fun c st' => Eqv st st' /\ ∃ w rest, c = (some w, rest) /\ Gd r a b w) ?step ?stop ⟨Eqv.refl _, _, 0, 1, _, rfl, m1, by lia, by lia, Nat.le_refl _⟩) ?post)))
 case step =>
  rintro x c st' _ hx ⟨e1, o, i, j, g, rfl, m2, h1, h2, h3⟩
  exact wpS_loOut K hk T e1 rfl m2 h1 h2 (fun st w rest e g => ⟨e, w, rest, rfl, g⟩) fun st' o' i' j' g' e m' h1' h2' h3' => ⟨e, o', i', j', g', rfl, m', h1', h2', by lia⟩
 case stop =>
  rintro c st' ⟨e1, o, i, j, g, rfl, m2, h1, h2, h3⟩
  have z := m2.len (by rw [Array.length_toList]; lia) (by rw [Array.length_toList]; lia)
  rw [Array.length_toList, Array.length_toList, Array.length_toList] at z
  exfalso
  lia
 case post =>
  rintro c st' ⟨e1, w, rest, rfl, g⟩
  exact wpS_pure (q _ _ e1 g)
end
abbrev U5 : Type := Option (Array Keyed) × Nat × Nat × Array Keyed × Nat
abbrev U6 : Type := Option (Array Keyed) × Nat × Nat × Array Keyed × Nat × Nat
abbrev U7 : Type := Option (Array Keyed) × Nat × Nat × Array Keyed × Nat × Nat × Nat
section
variable (a b : Array Keyed)
abbrev doneHi (out : Array Keyed) (na nb : Nat) : Array Keyed := a.extract 0 na ++ b.extract 0 nb ++ out.reverse
abbrev firstHi (out : Array Keyed) (na nb : Nat) : Array Keyed := b.extract 0 nb ++ a.extract 0 na ++ out.reverse
def hi1 (mg : Nat) (c : U6) : StateT SortSt Sem (ForInStep U6) := do
 let some aWins <- lt' (<- elem' b (c.2.2.1 - 1)) (<- elem' a (c.2.1 - 1)) | pure (.done (some (doneHi a b c.2.2.2.1 c.2.1 c.2.2.1), c.2.1, c.2.2.1, c.2.2.2.1, c.2.2.2.2.1, c.2.2.2.2.2))
 if aWins then
  let x <- elem' a (c.2.1 - 1)
  if c.2.1 - 1 == 0 then pure (.done (some (doneHi a b (c.2.2.2.1.push x) (c.2.1 - 1) c.2.2.1), c.2.1 - 1, c.2.2.1, c.2.2.2.1.push x, c.2.2.2.2.1 + 1, 0))
  else if c.2.2.2.2.1 + 1 ≥ mg then pure (.done (none, c.2.1 - 1, c.2.2.1, c.2.2.2.1.push x, c.2.2.2.2.1 + 1, 0))
  else pure (.yield (none, c.2.1 - 1, c.2.2.1, c.2.2.2.1.push x, c.2.2.2.2.1 + 1, 0))
 else
  let x <- elem' b (c.2.2.1 - 1)
  if c.2.2.1 - 1 == 1 then pure (.done (some (firstHi a b (c.2.2.2.1.push x) c.2.1 (c.2.2.1 - 1)), c.2.1, c.2.2.1 - 1, c.2.2.2.1.push x, 0, c.2.2.2.2.2 + 1))
  else if c.2.2.2.2.2 + 1 ≥ mg then pure (.done (none, c.2.1, c.2.2.1 - 1, c.2.2.2.1.push x, 0, c.2.2.2.2.2 + 1))
  else pure (.yield (none, c.2.1, c.2.2.1 - 1, c.2.2.2.1.push x, 0, c.2.2.2.2.2 + 1))
def hi25 (na nb : Nat) (out : Array Keyed) (mg k k1 : Nat) : StateT SortSt Sem (ForInStep U7) := do
 let x <- elem' a (na - 1)
 if na - 1 == 0 then pure (.done (some (doneHi a b (out.push x) (na - 1) nb), na - 1, nb, out.push x, mg, k, k1))
 else if k < 7 && k1 < 7 then pure (.done (none, na - 1, nb, out.push x, mg, k, k1))
 else pure (.yield (none, na - 1, nb, out.push x, mg, k, k1))
def hi24 (na nb : Nat) (out : Array Keyed) (mg k bc : Nat) : StateT SortSt Sem (ForInStep U7) := do
 let y <- elem' b (nb - 1)
 if nb - 1 == 1 then pure (.done (some (firstHi a b (out.push y) na (nb - 1)), na, nb - 1, out.push y, mg, k, bc))
 else do
  let some t <- gallop' true (<- elem' a (na - 1)) b 0 (nb - 1) (nb - 1 - 1) | pure (.done (some (doneHi a b (out.push y) na (nb - 1)), na, nb - 1, out.push y, mg, k, bc))
  if nb - 1 - t > 0 then
   if t == 1 then pure (.done (some (firstHi a b (out.push y ++ (b.extract t (nb - 1)).reverse) na t), na, t, out.push y ++ (b.extract t (nb - 1)).reverse, mg, k, nb - 1 - t))
   else if t == 0 then pure (.done (some (doneHi a b (out.push y ++ (b.extract t (nb - 1)).reverse) na t), na, t, out.push y ++ (b.extract t (nb - 1)).reverse, mg, k, nb - 1 - t))
   else hi25 a b na t (out.push y ++ (b.extract t (nb - 1)).reverse) mg k (nb - 1 - t)
  else hi25 a b na (nb - 1) (out.push y) mg k (nb - 1 - t)
def hi22 (c : U7) (mg : Nat) : StateT SortSt Sem (ForInStep U7) := do
 setMinGallop' mg
 let some t <- gallop' false (<- elem' b (c.2.2.1 - 1)) a 0 c.2.1 (c.2.1 - 1) | pure (.done (some (doneHi a b c.2.2.2.1 c.2.1 c.2.2.1), c.2.1, c.2.2.1, c.2.2.2.1, mg, c.2.2.2.2.2.1, c.2.2.2.2.2.2))
 if c.2.1 - t > 0 then
  if t == 0 then pure (.done (some (doneHi a b (c.2.2.2.1 ++ (a.extract t c.2.1).reverse) t c.2.2.1), t, c.2.2.1, c.2.2.2.1 ++ (a.extract t c.2.1).reverse, mg, c.2.1 - t, c.2.2.2.2.2.2))
  else hi24 a b t c.2.2.1 (c.2.2.2.1 ++ (a.extract t c.2.1).reverse) mg (c.2.1 - t) c.2.2.2.2.2.2
 else hi24 a b c.2.1 c.2.2.1 c.2.2.2.1 mg (c.2.1 - t) c.2.2.2.2.2.2
def hi2 (c : U7) : StateT SortSt Sem (ForInStep U7) := if c.2.2.2.2.1 > 1 then hi22 a b c (c.2.2.2.2.1 - 1) else hi22 a b c c.2.2.2.2.1
def hiOut (c : U5) : StateT SortSt Sem (ForInStep U5) := do
 let c1 <- forIn [0:a.size + b.size] ((none, c.2.1, c.2.2.1, c.2.2.2.1, 0, 0) : U6) fun _ c1 => hi1 a b c.2.2.2.2 c1
 match c1.1 with
 | some r => pure (.done (some r, c1.2.1, c1.2.2.1, c1.2.2.2.1, c.2.2.2.2))
 | none => do
  rule "list.sort.gallop"
  let c2 <- forIn [0:a.size + b.size] ((none, c1.2.1, c1.2.2.1, c1.2.2.2.1, c.2.2.2.2 + 1, c1.2.2.2.2.1, c1.2.2.2.2.2) : U7) fun _ c2 => hi2 a b c2
  match c2.1 with
  | some r => pure (.done (some r, c2.2.1, c2.2.2.1, c2.2.2.2.1, c2.2.2.2.2.1))
  | none => do
   setMinGallop' (c2.2.2.2.2.1 + 1)
   pure (.yield (none, c2.2.1, c2.2.2.1, c2.2.2.2.1, c2.2.2.2.2.1 + 1))
def hi0 : StateT SortSt Sem (Array Keyed) := do
 rule "list.sort.merge-hi"
 let x <- elem' a (a.size - 1)
 if a.size - 1 == 0 then pure (doneHi a b #[x] (a.size - 1) b.size)
 else if b.size == 1 then pure (firstHi a b #[x] (a.size - 1) b.size)
 else do
  let st <- get
  let c <- forIn [0:a.size + b.size] ((none, a.size - 1, b.size, #[x], gallopOf st) : U5) fun _ c => hiOut a b c
  match c.1 with
  | some r => pure r
  | none => unsupported "internal:list.sort.merge-bound"
theorem mergeHi'_eq : mergeHi' a b = hi0 a b := by
 refine congrArg (bind _) (funext fun _ => ?_)
 refine congrArg (bind (elem' a (a.size - 1))) (funext fun x => ?_)
 refine ite_congr rfl (fun _ => rfl) (fun _ => ?_)
 refine ite_congr rfl (fun _ => rfl) (fun _ => ?_)
 refine congrArg (bind get) (funext fun st => ?_)
 refine congr (congrArg bind (congrArg (forIn [0:a.size + b.size] _) (funext fun u => funext fun c => ?_))) (funext fun c => ?_)
 ·refine congr (congrArg bind (congrArg (forIn [0:a.size + b.size] _) (funext fun u => funext fun c1 => rfl))) (funext fun c1 => ?_)
  obtain ⟨r1, out1, ia1, ib1, ac1, bc1⟩ := c1
  cases r1 with
  | some r1 => rfl
  | none =>
   refine congrArg (bind _) (funext fun _ => ?_)
   refine congr (congrArg bind (congrArg (forIn [0:a.size + b.size] _) (funext fun u => funext fun c2 => ?_))) (funext fun c2 => ?_)
   ·refine ite_congr rfl (fun _ => ?_) (fun _ => ?_)
    ·rfl
    ·rfl
   ·obtain ⟨r2, _⟩ := c2
    cases r2 <;> rfl
 ·obtain ⟨r, _⟩ := c
  cases r <;> rfl
end
structure Mh (r : Keyed -> Int) (la lb out : List Keyed) (na nb : Nat) : Prop where
 perm : (la.take na ++ lb.take nb ++ out.reverse).Perm (la ++ lb)
 so : Up r out.reverse
 ao : ∀ x ∈ la.take na, ∀ y ∈ out, r x < r y
 bo : ∀ x ∈ lb.take nb, ∀ y ∈ out, r x < r y
section
variable {r : Keyed -> Int} {la lb out : List Keyed} {na nb : Nat}
theorem cut_up {l : List Keyed} (h : Up r l) {n t : Nat} (ht : t <= n) : l.take t ++ (l.take n).drop t = l.take n /\ Up r ((l.take n).drop t) /\ ∀ x ∈ l.take t, ∀ y ∈ (l.take n).drop t, r x < r y := by
 have e : l.take t ++ (l.take n).drop t = l.take n := by
  have z := List.take_append_drop t (l.take n)
  rwa [List.take_take, Nat.min_eq_left ht] at z
 have z : Up r (l.take n) := List.Pairwise.sublist (List.take_sublist n l) h
 rw [<- e] at z
 obtain ⟨_, h2, h3⟩ := List.pairwise_append.mp z
 exact ⟨e, h2, h3⟩
theorem Mh.len (m : Mh r la lb out na nb) (h1 : na <= la.length) (h2 : nb <= lb.length) : na + nb + out.length = la.length + lb.length := by
 have z := m.perm.length_eq
 rw [List.length_append, List.length_append, List.length_append, List.length_take, List.length_take, List.length_reverse] at z
 lia
theorem Mh.moveA (m : Mh r la lb out na nb) (sa : Up r la) {t : Nat} (ht : t <= na) (h : ∀ x ∈ lb.take nb, ∀ y ∈ (la.take na).drop t, r x < r y) : Mh r la lb (out ++ ((la.take na).drop t).reverse) t nb := by
 obtain ⟨e, u, c⟩ := cut_up sa ht
 have sub : ∀ x ∈ la.take t, x ∈ la.take na := fun x hx => by rw [<- e]; exact List.mem_append.mpr (.inl hx)
 have sub2 : ∀ x ∈ (la.take na).drop t, x ∈ la.take na := fun x hx => List.mem_of_mem_drop hx
 have er : (out ++ ((la.take na).drop t).reverse).reverse = (la.take na).drop t ++ out.reverse := by rw [List.reverse_append, List.reverse_reverse]
 refine ⟨?_, ?_, fun x hx y hy => ?_, fun x hx y hy => ?_⟩
 ·rw [er]
  refine List.Perm.trans ?_ m.perm
  conv => rhs; rw [<- e]
  rw [List.append_assoc, List.append_assoc, List.append_assoc]
  refine List.Perm.append_left _ ?_
  rw [<- List.append_assoc, <- List.append_assoc]
  exact List.Perm.append_right _ List.perm_append_comm
 ·rw [er]
  exact List.pairwise_append.mpr ⟨u, m.so, fun x hx y hy => m.ao x (sub2 x hx) y (List.mem_reverse.mp hy)⟩
 ·rcases List.mem_append.mp hy with z | z
  ·exact m.ao x (sub x hx) y z
  ·exact c x hx y (List.mem_reverse.mp z)
 ·rcases List.mem_append.mp hy with z | z
  ·exact m.bo x hx y z
  ·exact h x hx y (List.mem_reverse.mp z)
theorem Mh.moveB (m : Mh r la lb out na nb) (sb : Up r lb) {t : Nat} (ht : t <= nb) (h : ∀ x ∈ la.take na, ∀ y ∈ (lb.take nb).drop t, r x < r y) : Mh r la lb (out ++ ((lb.take nb).drop t).reverse) na t := by
 obtain ⟨e, u, c⟩ := cut_up sb ht
 have sub : ∀ x ∈ lb.take t, x ∈ lb.take nb := fun x hx => by rw [<- e]; exact List.mem_append.mpr (.inl hx)
 have sub2 : ∀ x ∈ (lb.take nb).drop t, x ∈ lb.take nb := fun x hx => List.mem_of_mem_drop hx
 have er : (out ++ ((lb.take nb).drop t).reverse).reverse = (lb.take nb).drop t ++ out.reverse := by rw [List.reverse_append, List.reverse_reverse]
 refine ⟨?_, ?_, fun x hx y hy => ?_, fun x hx y hy => ?_⟩
 ·rw [er]
  refine List.Perm.trans ?_ m.perm
  conv => rhs; rw [<- e]
  rw [List.append_assoc, List.append_assoc, List.append_assoc]
 ·rw [er]
  exact List.pairwise_append.mpr ⟨u, m.so, fun x hx y hy => m.bo x (sub2 x hx) y (List.mem_reverse.mp hy)⟩
 ·rcases List.mem_append.mp hy with z | z
  ·exact m.ao x hx y z
  ·exact h x hx y (List.mem_reverse.mp z)
 ·rcases List.mem_append.mp hy with z | z
  ·exact m.bo x (sub x hx) y z
  ·exact c x hx y (List.mem_reverse.mp z)
theorem Mh.endA (m : Mh r la lb out na nb) (sb : Up r lb) (h : na = 0) : Good r la lb (la.take na ++ lb.take nb ++ out.reverse) := by
 refine ⟨m.perm, ?_⟩
 subst h
 rw [List.take_zero, List.nil_append]
 exact List.pairwise_append.mpr ⟨List.Pairwise.sublist (List.take_sublist nb lb) sb, m.so, fun x hx y hy => m.bo x hx y (List.mem_reverse.mp hy)⟩
theorem Mh.endB (m : Mh r la lb out na nb) (sa : Up r la) (h : nb = 0) : Good r la lb (la.take na ++ lb.take nb ++ out.reverse) := by
 refine ⟨m.perm, ?_⟩
 subst h
 rw [List.take_zero, List.append_nil]
 exact List.pairwise_append.mpr ⟨List.Pairwise.sublist (List.take_sublist na la) sa, m.so, fun x hx y hy => m.ao x hx y (List.mem_reverse.mp hy)⟩
theorem Mh.first (m : Mh r la lb out na nb) (sa : Up r la) (sb : Up r lb) (bot : ∀ y ∈ lb.take nb, ∀ x ∈ la, r y < r x) : Good r la lb (lb.take nb ++ la.take na ++ out.reverse) := by
 refine ⟨List.Perm.trans (List.Perm.append_right _ List.perm_append_comm) m.perm, ?_⟩
 refine List.pairwise_append.mpr ⟨List.pairwise_append.mpr ⟨List.Pairwise.sublist (List.take_sublist nb lb) sb, List.Pairwise.sublist (List.take_sublist na la) sa, fun y hy x hx => bot y hy x (List.mem_of_mem_take hx)⟩, m.so, fun x hx y hy => ?_⟩
 rcases List.mem_append.mp hx with z | z
 ·exact m.bo x z y (List.mem_reverse.mp hy)
 ·exact m.ao x z y (List.mem_reverse.mp hy)
end
section
variable {M : Model} {A : Around} {E : Value -> Shared -> Prop} {s : Shared} {κ : SortKind} {r : Keyed -> Int} {a₀ a b out : Array Keyed} {na nb : Nat}
theorem ext_0 (a : Array Keyed) (i : Nat) : (a.extract 0 i).toList = a.toList.take i := by
 rw [Array.toList_extract, List.extract_eq_take_drop, List.drop_zero, Nat.sub_zero]
theorem ext_c (a : Array Keyed) (t n : Nat) : (a.extract t n).toList = (a.toList.take n).drop t := by
 rw [Array.toList_extract, List.extract_eq_take_drop, List.drop_take]
theorem doneHi_list : (doneHi a b out na nb).toList = a.toList.take na ++ b.toList.take nb ++ out.toList.reverse := by
 rw [Array.toList_append, Array.toList_append, ext_0, ext_0, Array.toList_reverse]
theorem firstHi_list : (firstHi a b out na nb).toList = b.toList.take nb ++ a.toList.take na ++ out.toList.reverse := by
 rw [Array.toList_append, Array.toList_append, ext_0, ext_0, Array.toList_reverse]
theorem mem_takeN {n : Nat} {x : Keyed} (h : x ∈ a.toList.take n) : ∃ j, j < n /\ j < a.size /\ a.getD j d0 = x := by
 obtain ⟨j, h1, h2, h3⟩ := mem_take (i := 0) (k := n) (by rw [List.drop_zero]; exact h)
 rw [Nat.zero_add] at h2 h3
 exact ⟨j, h1, h2, h3⟩
theorem mem_cut {t n : Nat} {x : Keyed} (h : x ∈ (a.toList.take n).drop t) : ∃ j, t <= j /\ j < n /\ j < a.size /\ a.getD j d0 = x := by
 obtain ⟨j, hj⟩ := List.getElem?_of_mem h
 rw [List.getElem?_drop, List.getElem?_take] at hj
 split at hj
 ·next l =>
  rw [Array.getElem?_toList] at hj
  exact ⟨t + j, by lia, l, (Array.getElem?_eq_some_iff.mp hj).1, getD_of hj⟩
 ·cases hj
theorem cut_one {n : Nat} (h : n < a.size) : (a.toList.take (n + 1)).drop n = [a.getD n d0] := by
 rw [List.drop_take, drop_at h, Nat.add_sub_cancel_left]
 rfl
theorem aboveN {x : Int} {n : Nat} (sa : Up r a.toList) (ha : n < a.size) (h : r (a.getD n d0) < x) : ∀ y ∈ a.toList.take (n + 1), r y < x := fun y hy => by
 obtain ⟨j, h1, h2, rfl⟩ := mem_takeN hy
 by_cases e : j = n
 ·subst e
  exact h
 ·have := up_ris (lo := 0) sa (Nat.le_refl _) j n (Nat.zero_le _) (by lia) ha
  show kx r a j < x
  have : kx r a n < x := h
  lia
theorem hpushA (t : Two κ r a₀ a b) (m : Mh r a.toList b.toList out.toList (na + 1) nb) (ha : na < a.size) (h : ∀ y ∈ b.toList.take nb, r y < r (a.getD na d0)) : Mh r a.toList b.toList (out.push (a.getD na d0)).toList na nb := by
 have z := m.moveA t.sa (t := na) (Nat.le_succ _) (by rw [cut_one ha]; intro x hx y hy; rw [List.mem_singleton.mp hy]; exact h x hx)
 rw [cut_one ha] at z
 rw [push_list]
 exact z
theorem hpushB (t : Two κ r a₀ a b) (m : Mh r a.toList b.toList out.toList na (nb + 1)) (hb : nb < b.size) (h : ∀ y ∈ a.toList.take na, r y < r (b.getD nb d0)) : Mh r a.toList b.toList (out.push (b.getD nb d0)).toList na nb := by
 have z := m.moveB t.sb (t := nb) (Nat.le_succ _) (by rw [cut_one hb]; intro x hx y hy; rw [List.mem_singleton.mp hy]; exact h x hx)
 rw [cut_one hb] at z
 rw [push_list]
 exact z
theorem Two.bot (t : Two κ r a₀ a b) : ∀ y ∈ b.toList.take 1, ∀ x ∈ a.toList, r y < r x := fun y hy x hx => by
 obtain ⟨j, h1, h2, rfl⟩ := mem_takeN hy
 have e : j = 0 := by lia
 subst e
 exact t.lo x hx
theorem wpS_hi1 {st0 : SortSt} {mg old t : Nat} {c : U6} {st : SortSt} {Q : ForInStep U6 -> SortSt -> Prop} (K : Asks M A s κ r a₀) (T : Two κ r a₀ a b) (e0 : Eqv st0 st) (hk : kindOf st0 = κ) (ec : c = (none, na + 1, nb + 2, out, c.2.2.2.2.1, c.2.2.2.2.2)) (m : Mh r a.toList b.toList out.toList (na + 1) (nb + 2)) (ha : na < a.size) (hb : nb + 1 < b.size) (hz : old + t <= out.size)
  (q1 : ∀ w rest, Gd r a b w -> Q (.done (some w, rest)) st) (q2 : ∀ na nb (out : Array Keyed) x y, Mh r a.toList b.toList out.toList (na + 1) (nb + 2) -> na < a.size -> nb + 1 < b.size -> old + t + 1 <= out.size -> Q (.done (none, na + 1, nb + 2, out, x, y)) st /\ Q (.yield (none, na + 1, nb + 2, out, x, y)) st) : wpS M A E s (hi1 a b mg c) Q st := by
 have hk' := e0.kind.trans hk
 unfold hi1
 rw [ec]
 dsimp only
 have la := T.ma _ (mem_at ha)
 have lb := T.mb _ (mem_at hb)
 rw [show nb + 2 - 1 = nb + 1 by lia, show na + 1 - 1 = na by lia]
 refine wpS_bind (wpS_elem hb (wpS_bind (wpS_elem ha (wpS_bind (wpS_lt K hk' lb la ?_)))))
 by_cases w : r (b.getD (nb + 1) d0) < r (a.getD na d0)
 ·rw [decide_eq_true w]
  refine wpS_bind (wpS_elem ha ?_)
  have m2 := hpushA T m ha (aboveN T.sb hb w)
  by_cases z : na = 0
  ·rw [if_pos (by simpa using z)]
   refine wpS_pure (q1 _ _ ?_)
   show Good r _ _ (doneHi a b _ _ _).toList
   rw [doneHi_list]
   exact m2.endA T.sb z
  ·rw [if_neg (by simpa using z)]
   obtain ⟨n', rfl⟩ : ∃ n', na = n' + 1 := ⟨na - 1, by lia⟩
   obtain ⟨h1, h2⟩ := q2 n' nb _ (c.2.2.2.2.1 + 1) 0 m2 (by lia) hb (by rw [Array.size_push]; lia)
   by_cases g : c.2.2.2.2.1 + 1 ≥ mg
   ·rw [if_pos g]
    exact wpS_pure h1
   ·rw [if_neg g]
    exact wpS_pure h2
 ·rw [decide_eq_false w]
  refine wpS_bind (wpS_elem hb ?_)
  have ne := T.ap _ (mem_at ha) _ (mem_at hb)
  have m2 := hpushB T m hb (aboveN T.sa ha (by lia))
  by_cases z : nb + 1 = 1
  ·rw [if_pos (by simpa using z)]
   refine wpS_pure (q1 _ _ ?_)
   show Good r _ _ (firstHi a b _ _ _).toList
   rw [firstHi_list]
   exact m2.first T.sa T.sb (by rw [z]; exact T.bot)
  ·rw [if_neg (by simpa using z)]
   obtain ⟨n', rfl⟩ : ∃ n', nb = n' + 1 := ⟨nb - 1, by lia⟩
   obtain ⟨h1, h2⟩ := q2 na n' _ 0 (c.2.2.2.2.2 + 1) m2 ha (by lia) (by rw [Array.size_push]; lia)
   by_cases g : c.2.2.2.2.2 + 1 ≥ mg
   ·rw [if_pos g]
    exact wpS_pure h1
   ·rw [if_neg g]
    exact wpS_pure h2
structure RndH (r : Keyed -> Int) (a b : Array Keyed) (st0 : SortSt) (old : Nat) (Q : ForInStep U7 -> SortSt -> Prop) : Prop where
 q1 : ∀ st w rest, Eqv st0 st -> Gd r a b w -> Q (.done (some w, rest)) st
 q2 : ∀ st na nb (out : Array Keyed) x y z, Eqv st0 st -> Mh r a.toList b.toList out.toList (na + 1) (nb + 2) -> na < a.size -> nb + 1 < b.size -> old <= out.size -> Q (.done (none, na + 1, nb + 2, out, x, y, z)) st /\ Q (.yield (none, na + 1, nb + 2, out, x, y, z)) st
theorem wpS_hi25 {st0 st : SortSt} {mg k k1 old : Nat} {Q : ForInStep U7 -> SortSt -> Prop} (T : Two κ r a₀ a b) (e0 : Eqv st0 st) (m : Mh r a.toList b.toList out.toList (na + 1) (nb + 2)) (ha : na < a.size) (hb : nb + 1 < b.size) (hz : old <= out.size) (lt : ∀ y ∈ b.toList.take (nb + 2), r y < r (a.getD na d0)) (q : RndH r a b st0 old Q) : wpS M A E s (hi25 a b (na + 1) (nb + 2) out mg k k1) Q st := by
 unfold hi25
 rw [show na + 1 - 1 = na by lia]
 refine wpS_bind (wpS_elem ha ?_)
 have m2 := hpushA T m ha lt
 by_cases z : na = 0
 ·rw [if_pos (by simpa using z)]
  refine wpS_pure (q.q1 _ _ _ e0 ?_)
  show Good r _ _ (doneHi a b _ _ _).toList
  rw [doneHi_list]
  exact m2.endA T.sb z
 ·rw [if_neg (by simpa using z)]
  obtain ⟨n', rfl⟩ : ∃ n', na = n' + 1 := ⟨na - 1, by lia⟩
  obtain ⟨h1, h2⟩ := q.q2 st n' nb _ mg k k1 e0 m2 (by lia) hb (by rw [Array.size_push]; lia)
  by_cases g : (decide (k < 7) && decide (k1 < 7)) = true
  ·rw [if_pos g]
   exact wpS_pure h1
  ·rw [if_neg g]
   exact wpS_pure h2
theorem wpS_hi24 {st0 st : SortSt} {mg k bc old : Nat} {Q : ForInStep U7 -> SortSt -> Prop} (K : Asks M A s κ r a₀) (hk : kindOf st0 = κ) (T : Two κ r a₀ a b) (e0 : Eqv st0 st) (m : Mh r a.toList b.toList out.toList (na + 1) (nb + 2)) (ha : na < a.size) (hb : nb + 1 < b.size) (hz : old <= out.size) (lt : ∀ y ∈ a.toList.take (na + 1), r y < r (b.getD (nb + 1) d0)) (q : RndH r a b st0 old Q) : wpS M A E s (hi24 a b (na + 1) (nb + 2) out mg k bc) Q st := by
 have hk' := e0.kind.trans hk
 unfold hi24
 rw [show nb + 2 - 1 = nb + 1 by lia, show na + 1 - 1 = na by lia]
 refine wpS_bind (wpS_elem hb ?_)
 have m1 := hpushB T m hb lt
 have hz1 : old <= (out.push (b.getD (nb + 1) d0)).size := by rw [Array.size_push]; lia
 generalize out.push (b.getD (nb + 1) d0) = out1 at m1 hz1
 by_cases z : nb + 1 = 1
 ·rw [if_pos (by simpa using z)]
  refine wpS_pure (q.q1 _ _ _ e0 ?_)
  show Good r _ _ (firstHi a b _ _ _).toList
  rw [firstHi_list]
  exact m1.first T.sa T.sb (by rw [z]; exact T.bot)
 rw [if_neg (by simpa using z)]
 have la := mem_at ha
 refine wpS_bind (wpS_elem ha (wpS_bind (wpS_gallop K hk' (by lia) (fun i hi => T.mb _ (mem_at (by lia))) (T.ma _ la) (fun i hi => (T.ap _ la _ (mem_at (show 0 + i < b.size by lia))).symm) (up_ris T.sb (by lia)) (by lia) fun t kn k2 k3 => ?_)))
 dsimp only
 have bl : ∀ y ∈ b.toList.take t, r y < r (a.getD na d0) := fun y hy => by
  obtain ⟨j, h1, h2, rfl⟩ := mem_takeN hy
  have := k2 j h1
  rw [Nat.zero_add] at this
  exact this
 by_cases g : nb + 1 - t > 0
 ·rw [if_pos g]
  have m2 := m1.moveB T.sb (t := t) (by lia) (fun x hx y hy => by
   obtain ⟨j, h1, h2, h3, rfl⟩ := mem_cut hy
   have := k3 j h1 (by lia)
   rw [Nat.zero_add] at this
   exact aboveN T.sa ha this x hx)
  rw [<- ext_c, <- Array.toList_reverse, <- Array.toList_append] at m2
  have hz2 : old <= (out1 ++ (b.extract t (nb + 1)).reverse).size := by rw [Array.size_append]; lia
  by_cases z1 : t = 1
  ·rw [if_pos (by simpa using z1)]
   refine wpS_pure (q.q1 _ _ _ e0 ?_)
   show Good r _ _ (firstHi a b _ _ _).toList
   rw [firstHi_list]
   exact m2.first T.sa T.sb (by rw [z1]; exact T.bot)
  rw [if_neg (by simpa using z1)]
  by_cases z2 : t = 0
  ·rw [if_pos (by simpa using z2)]
   refine wpS_pure (q.q1 _ _ _ e0 ?_)
   show Good r _ _ (doneHi a b _ _ _).toList
   rw [doneHi_list]
   exact m2.endB T.sa z2
  rw [if_neg (by simpa using z2)]
  obtain ⟨n', rfl⟩ : ∃ n', t = n' + 2 := ⟨t - 2, by lia⟩
  exact wpS_hi25 T e0 m2 ha (by lia) hz2 bl q
 ·rw [if_neg g]
  have e : t = nb + 1 := by lia
  obtain ⟨n', rfl⟩ : ∃ n', nb = n' + 1 := ⟨nb - 1, by lia⟩
  subst e
  exact wpS_hi25 T e0 m1 ha (by lia) hz1 bl q
theorem wpS_hi22 {st0 st : SortSt} {c : U7} {mg old : Nat} {Q : ForInStep U7 -> SortSt -> Prop} (K : Asks M A s κ r a₀) (hk : kindOf st0 = κ) (T : Two κ r a₀ a b) (e0 : Eqv st0 st) (ec : c.2.1 = na + 1 /\ c.2.2.1 = nb + 2 /\ c.2.2.2.1 = out) (m : Mh r a.toList b.toList out.toList (na + 1) (nb + 2)) (ha : na < a.size) (hb : nb + 1 < b.size) (hz : old <= out.size) (q : RndH r a b st0 old Q) : wpS M A E s (hi22 a b c mg) Q st := by
 obtain ⟨e1, e2, e3⟩ := ec
 unfold hi22
 rw [e1, e2, e3]
 rw [show nb + 2 - 1 = nb + 1 by lia, show na + 1 - 1 = na by lia]
 refine wpS_bind (wpS_setMin fun st1 x1 => ?_)
 have e4 := e0.trans x1
 have hk' := e4.kind.trans hk
 have lb := mem_at hb
 refine wpS_bind (wpS_elem hb (wpS_bind (wpS_gallop K hk' (by lia) (fun i hi => T.ma _ (mem_at (by lia))) (T.mb _ lb) (fun i hi => T.ap _ (mem_at (show 0 + i < a.size by lia)) _ lb) (up_ris T.sa (by lia)) (by lia) fun t kn k2 k3 => ?_)))
 dsimp only
 have bl : ∀ y ∈ a.toList.take t, r y < r (b.getD (nb + 1) d0) := fun y hy => by
  obtain ⟨j, h1, h2, rfl⟩ := mem_takeN hy
  have := k2 j h1
  rw [Nat.zero_add] at this
  exact this
 by_cases g : na + 1 - t > 0
 ·rw [if_pos g]
  have m2 := m.moveA T.sa (t := t) (by lia) (fun x hx y hy => by
   obtain ⟨j, h1, h2, h3, rfl⟩ := mem_cut hy
   have := k3 j h1 (by lia)
   rw [Nat.zero_add] at this
   exact aboveN T.sb hb this x hx)
  rw [<- ext_c, <- Array.toList_reverse, <- Array.toList_append] at m2
  have hz2 : old <= (out ++ (a.extract t (na + 1)).reverse).size := by rw [Array.size_append]; lia
  by_cases z2 : t = 0
  ·rw [if_pos (by simpa using z2)]
   refine wpS_pure (q.q1 _ _ _ e4 ?_)
   show Good r _ _ (doneHi a b _ _ _).toList
   rw [doneHi_list]
   exact m2.endA T.sb z2
  rw [if_neg (by simpa using z2)]
  obtain ⟨n', rfl⟩ : ∃ n', t = n' + 1 := ⟨t - 1, by lia⟩
  exact wpS_hi24 K hk T e4 m2 (by lia) hb hz2 bl q
 ·rw [if_neg g]
  have e : t = na + 1 := by lia
  subst e
  exact wpS_hi24 K hk T e4 m ha hb hz bl q
theorem wpS_hi2 {st0 st : SortSt} {c : U7} {old : Nat} {Q : ForInStep U7 -> SortSt -> Prop} (K : Asks M A s κ r a₀) (hk : kindOf st0 = κ) (T : Two κ r a₀ a b) (e0 : Eqv st0 st) (ec : c.2.1 = na + 1 /\ c.2.2.1 = nb + 2 /\ c.2.2.2.1 = out) (m : Mh r a.toList b.toList out.toList (na + 1) (nb + 2)) (ha : na < a.size) (hb : nb + 1 < b.size) (hz : old <= out.size) (q : RndH r a b st0 old Q) : wpS M A E s (hi2 a b c) Q st := by
 unfold hi2
 split
 ·exact wpS_hi22 K hk T e0 ec m ha hb hz q
 ·exact wpS_hi22 K hk T e0 ec m ha hb hz q
theorem wpS_hiOut {st0 st : SortSt} {c : U5} {Q : ForInStep U5 -> SortSt -> Prop} {mg : Nat} (K : Asks M A s κ r a₀) (hk : kindOf st0 = κ) (T : Two κ r a₀ a b) (e0 : Eqv st0 st) (ec : c = (none, na + 1, nb + 2, out, mg)) (m : Mh r a.toList b.toList out.toList (na + 1) (nb + 2)) (ha : na < a.size) (hb : nb + 1 < b.size)
  (q1 : ∀ st w rest, Eqv st0 st -> Gd r a b w -> Q (.done (some w, rest)) st) (q2 : ∀ st na nb (out' : Array Keyed) g, Eqv st0 st -> Mh r a.toList b.toList out'.toList (na + 1) (nb + 2) -> na < a.size -> nb + 1 < b.size -> out.size + 1 <= out'.size -> Q (.yield (none, na + 1, nb + 2, out', g)) st) : wpS M A E s (hiOut a b c) Q st := by
 subst ec
 unfold hiOut
 dsimp only
 have tot : 0 < a.size + b.size := by lia
 refine wpS_bind (wpS_mono (wpS_forRange (I := fun x (c1 : U6) st' => Eqv st0 st' /\ ∃ (i j : Nat) (o : Array Keyed) (u v : Nat), c1 = (none, i + 1, j + 2, o, u, v) /\ Mh r a.toList b.toList o.toList (i + 1) (j + 2) /\ i < a.size /\ j + 1 < b.size /\ out.size + x <= o.size)
  (Q := fun c1 st' => Eqv st0 st' /\ ((∃ w rest, c1 = (some w, rest) /\ Gd r a b w) ∨ ∃ (i j : Nat) (o : Array Keyed) (u v : Nat), c1 = (none, i + 1, j + 2, o, u, v) /\ Mh r a.toList b.toList o.toList (i + 1) (j + 2) /\ i < a.size /\ j + 1 < b.size /\ out.size + 1 <= o.size)) ?step ?stop ⟨e0, na, nb, out, 0, 0, rfl, m, ha, hb, Nat.le_refl _⟩) ?post)
 case step =>
  rintro x c1 st' _ hx ⟨e1, i, j, o, u, v, rfl, m1, h1, h2, h3⟩
  refine wpS_hi1 (old := out.size) (t := x) K T e1 hk rfl m1 h1 h2 h3 (fun w rest g => ⟨e1, .inl ⟨w, rest, rfl, g⟩⟩) fun i' j' o' u' v' m' h1' h2' h3' => ⟨⟨e1, .inr ⟨i', j', o', u', v', rfl, m', h1', h2', by lia⟩⟩, ⟨e1, i', j', o', u', v', rfl, m', h1', h2', by lia⟩⟩
 case stop =>
  rintro c1 st' ⟨e1, i, j, o, u, v, rfl, m1, h1, h2, h3⟩
  exact ⟨e1, .inr ⟨i, j, o, u, v, rfl, m1, h1, h2, by lia⟩⟩
 case post =>
  rintro c1 st' ⟨e1, h⟩
  rcases h with ⟨w, rest, rfl, g⟩ | ⟨i, j, o, u, v, rfl, m1, h1, h2, h3⟩
  ·exact wpS_pure (q1 _ _ _ e1 g)
  dsimp only
  refine wpS_bind (wpS_lift (wpAny_rule ⟨rfl, ?_⟩))
  refine wpS_bind (wpS_mono (wpS_forRange (I := fun x (c2 : U7) st' => Eqv st0 st' /\ ∃ (i j : Nat) (o : Array Keyed) (u v w : Nat), c2 = (none, i + 1, j + 2, o, u, v, w) /\ Mh r a.toList b.toList o.toList (i + 1) (j + 2) /\ i < a.size /\ j + 1 < b.size /\ out.size + 1 <= o.size)
   (Q := fun c2 st' => Eqv st0 st' /\ ((∃ w rest, c2 = (some w, rest) /\ Gd r a b w) ∨ ∃ (i j : Nat) (o : Array Keyed) (u v w : Nat), c2 = (none, i + 1, j + 2, o, u, v, w) /\ Mh r a.toList b.toList o.toList (i + 1) (j + 2) /\ i < a.size /\ j + 1 < b.size /\ out.size + 1 <= o.size)) ?step2 ?stop2 ⟨e1, i, j, o, mg + 1, u, v, rfl, m1, h1, h2, h3⟩) ?post2)
  case step2 =>
   rintro x c2 st2 _ hx ⟨e2, i, j, o, u, v, w, rfl, m2, g1, g2, g3⟩
   exact wpS_hi2 K hk T e2 ⟨rfl, rfl, rfl⟩ m2 g1 g2 g3 ⟨fun st w rest e g => ⟨e, .inl ⟨w, rest, rfl, g⟩⟩, fun st i' j' o' x' y' z' e m' h1' h2' h3' => ⟨⟨e, .inr ⟨i', j', o', x', y', z', rfl, m', h1', h2', h3'⟩⟩, ⟨e, i', j', o', x', y', z', rfl, m', h1', h2', h3'⟩⟩⟩
  case stop2 =>
   rintro c2 st2 ⟨e2, i, j, o, u, v, w, rfl, m2, g1, g2, g3⟩
   exact ⟨e2, .inr ⟨i, j, o, u, v, w, rfl, m2, g1, g2, g3⟩⟩
  case post2 =>
   rintro c2 st2 ⟨e2, h⟩
   rcases h with ⟨w, rest, rfl, g⟩ | ⟨i, j, o, u, v, w, rfl, m2, g1, g2, g3⟩
   ·exact wpS_pure (q1 _ _ _ e2 g)
   ·dsimp only
    exact wpS_bind (wpS_setMin fun st3 x3 => wpS_pure (q2 _ _ _ _ _ (e2.trans x3) m2 g1 g2 g3))
theorem wpS_mergeHi {st : SortSt} {Q : Array Keyed -> SortSt -> Prop} (K : Asks M A s κ r a₀) (hk : kindOf st = κ) (T : Two κ r a₀ a b) (q : ∀ m st', Eqv st st' -> Gd r a b m -> Q m st') : wpS M A E s (mergeHi' a b) Q st := by
 rw [mergeHi'_eq]
 unfold hi0
 have a1 := T.a1
 have b1 := T.b1
 obtain ⟨n, hn⟩ : ∃ n, a.size = n + 1 := ⟨a.size - 1, by lia⟩
 have en : a.size - 1 = n := by lia
 rw [en]
 refine wpS_bind (wpS_lift (wpAny_rule ⟨rfl, wpS_bind (wpS_elem (by lia) ?_)⟩))
 have m0 : Mh r a.toList b.toList (#[] : Array Keyed).toList (n + 1) b.size := ⟨by rw [List.take_of_length_le (by rw [Array.length_toList]; lia), List.take_of_length_le (by rw [Array.length_toList]; exact Nat.le_refl _)]; simp, List.Pairwise.nil, fun x _ y hy => (nomatch hy), fun x _ y hy => (nomatch hy)⟩
 have m1 : Mh r a.toList b.toList (#[a.getD n d0] : Array Keyed).toList n b.size := hpushA (out := #[]) T m0 (by lia) (fun y hy => by have := T.top y (List.mem_of_mem_take hy); rw [en] at this; exact this)
 by_cases z1 : n = 0
 ·rw [if_pos (by simpa using z1)]
  refine wpS_pure (q _ _ (Eqv.refl _) ?_)
  show Good r _ _ (doneHi a b _ _ _).toList
  rw [doneHi_list]
  exact m1.endA T.sb z1
 rw [if_neg (by simpa using z1)]
 by_cases z2 : b.size = 1
 ·rw [if_pos (by simpa using z2)]
  refine wpS_pure (q _ _ (Eqv.refl _) ?_)
  show Good r _ _ (firstHi a b _ _ _).toList
  rw [firstHi_list]
  exact m1.first T.sa T.sb (by rw [z2]; exact T.bot)
 rw [if_neg (by simpa using z2)]
 obtain ⟨n', rfl⟩ : ∃ n', n = n' + 1 := ⟨n - 1, by lia⟩
 obtain ⟨k', hk'⟩ : ∃ k', b.size = k' + 2 := ⟨b.size - 2, by lia⟩
 rw [hk'] at m1
 refine wpS_bind (wpS_get (wpS_bind (wpS_mono (wpS_forRange (I := fun x (c : U5) st' => Eqv st st' /\ ∃ (i j : Nat) (o : Array Keyed) (g : Nat), c = (none, i + 1, j + 2, o, g) /\ Mh r a.toList b.toList o.toList (i + 1) (j + 2) /\ i < a.size /\ j + 1 < b.size /\ x + 1 <= o.size)
  (Q := fun c st' => Eqv st st' /\ ∃ w rest, c = (some w, rest) /\ Gd r a b w) ?step ?stop ⟨Eqv.refl _, n', k', _, _, by rw [hk'], m1, by lia, by lia, Nat.le_refl _⟩) ?post)))
 case step =>
  rintro x c st' _ hx ⟨e1, i, j, o, g, rfl, m2, h1, h2, h3⟩
  exact wpS_hiOut K hk T e1 rfl m2 h1 h2 (fun st w rest e g => ⟨e, w, rest, rfl, g⟩) fun st' i' j' o' g' e m' h1' h2' h3' => ⟨e, i', j', o', g', rfl, m', h1', h2', by lia⟩
 case stop =>
  rintro c st' ⟨e1, i, j, o, g, rfl, m2, h1, h2, h3⟩
  have z := m2.len (by rw [Array.length_toList]; lia) (by rw [Array.length_toList]; lia)
  rw [Array.length_toList, Array.length_toList, Array.length_toList] at z
  exfalso
  lia
 case post =>
  rintro c st' ⟨e1, w, rest, rfl, g⟩
  exact wpS_pure (q _ _ e1 g)
end
theorem mergeAt'_eq (i : Nat) : mergeAt' i = (do
 let s <- get
 let (some (sa, na, power), some (sb, nb, _)) := ((pendingOf s)[i]?, (pendingOf s)[i + 1]?) | unsupported "internal:list.sort.pending"
 set (setPending s (((pendingOf s).setIfInBounds i (sa, na + nb, power)).eraseIdxIfInBounds (i + 1)))
 let some k <- gallop' false (<- elem' (arrOf s) sb) (arrOf s) sa na 0 | return false
 let (sa, na) := (sa + k, na - k)
 if na == 0 then return true
 let some nb <- gallop' true (<- elem' (arrOf s) (sa + na - 1)) (arrOf s) sb nb (nb - 1) | return false
 if nb == 0 then return true
 let x := (arrOf s).extract sa sb
 let y := (arrOf s).extract sb (sb + nb)
 let merged <- if na <= nb then mergeLo' x y else mergeHi' x y
 modify fun s => setArr s (merged.toList.zipIdx.foldl (fun a (p, j) => a.setIfInBounds (sa + j) p) (arrOf s))
 return (failedOf (<- get)).isNone) := rfl
section
variable {M : Model} {A : Around} {E : Value -> Shared -> Prop} {s : Shared} {κ : SortKind} {r : Keyed -> Int} {a₀ xs ys : Array Keyed}
theorem wpS_set {st st' : SortSt} {Q : PUnit -> SortSt -> Prop} (h : Q ⟨⟩ st') : wpS M A E s (set st' : StateT SortSt Sem PUnit) Q st := by
 unfold wpS
 rw [StateT.run_set]
 exact wpAny_pure ⟨rfl, h⟩
theorem laid : ∀ (ms : List Keyed) (j b : Nat) (xs : Array Keyed), b + j + ms.length <= xs.size -> ((ms.zipIdx j).foldl (fun a (p, j) => a.setIfInBounds (b + j) p) xs).toList = xs.toList.take (b + j) ++ ms ++ xs.toList.drop (b + j + ms.length)
 | [], j, b, xs, _ => by
  rw [List.append_nil, List.length_nil, Nat.add_zero]
  exact (List.take_append_drop _ _).symm
 | m :: ms, j, b, xs, h => by
  rw [List.length_cons] at h
  rw [List.zipIdx_cons, List.foldl_cons, laid ms (j + 1) b _ (by rw [Array.size_setIfInBounds]; lia), Array.toList_setIfInBounds, List.length_cons]
  have hl : b + j < xs.toList.length := by rw [Array.length_toList]; lia
  have e1 : (xs.toList.set (b + j) m).take (b + (j + 1)) = xs.toList.take (b + j) ++ [m] := by
   rw [show b + (j + 1) = b + j + 1 by lia, List.take_succ_eq_append_getElem (by rw [List.length_set]; exact hl), List.getElem_set_self, List.take_set_of_le (Nat.le_refl _)]
  have e2 : (xs.toList.set (b + j) m).drop (b + (j + 1) + ms.length) = xs.toList.drop (b + j + (ms.length + 1)) := by
   rw [List.drop_set_of_lt (by lia)]
   congr 1
   lia
  rw [e1, e2, List.append_assoc, List.append_assoc, List.append_assoc]
  rfl
theorem ext_mid (xs : Array Keyed) (t n : Nat) : (xs.extract t n).toList = (xs.toList.take n).drop t := ext_c xs t n
theorem ext_size {t n : Nat} (h : n <= xs.size) : (xs.extract t n).size = n - t := by rw [Array.size_extract]; lia
theorem ext_getD {t n i : Nat} (h : n <= xs.size) (hi : t + i < n) : (xs.extract t n).getD i d0 = xs.getD (t + i) d0 := by
 refine getD_cong ?_
 rw [Array.getElem?_extract, if_pos (by lia)]
theorem list_ext_getD {l : List Keyed} {ys : Array Keyed} (h : ys.toList = l) (i : Nat) : ys[i]? = l[i]? := by rw [<- h, Array.getElem?_toList]
theorem wpS_mergeAt {st : SortSt} {i sa na pw sb nb pw2 : Nat} {Q : Bool -> SortSt -> Prop} (K : Asks M A s κ r a₀) (B : StOk κ a₀ st) (h1 : (pendingOf st)[i]? = some (sa, na, pw)) (h2 : (pendingOf st)[i + 1]? = some (sb, nb, pw2)) (es : sb = sa + na) (na1 : 1 <= na) (nb1 : 1 <= nb) (hz : sb + nb <= a₀.size)
  (ua : Ris r (arrOf st) sa (sa + na)) (ub : Ris r (arrOf st) sb (sb + nb))
  (q : ∀ st', StOk κ a₀ st' -> pendingOf st' = ((pendingOf st).setIfInBounds i (sa, na + nb, pw)).eraseIdxIfInBounds (i + 1) -> Out (arrOf st) (arrOf st') sa (sb + nb) -> Ris r (arrOf st') sa (sb + nb) -> Q true st') : wpS M A E s (mergeAt' i) Q st := by
 have sz := perm_size B.perm
 subst es
 rw [mergeAt'_eq]
 refine wpS_bind (wpS_get ?_)
 rw [h1, h2]
 dsimp only
 refine wpS_bind (wpS_set ?_)
 generalize hP : ((pendingOf st).setIfInBounds i (sa, na + nb, pw)).eraseIdxIfInBounds (i + 1) = P at q ⊢
 have B1 : StOk κ a₀ (setPending st P) := ⟨B.kind, B.perm, B.ok⟩
 generalize hx : arrOf st = xs at ua ub q sz ⊢
 have pm : xs.Perm a₀ := hx ▸ B.perm
 have mem : ∀ j, j < a₀.size -> xs.getD j d0 ∈ a₀ := fun j hj => perm_mem pm hj
 have ap : ∀ i j, i < a₀.size -> j < a₀.size -> i ≠ j -> kx r xs i ≠ kx r xs j := fun i j hi hj ij => K.apart pm hi hj ij
 refine wpS_bind (wpS_elem (by lia) (wpS_bind (wpS_gallop K B1.kind (by lia) (fun j hj => mem _ (by lia)) (mem _ (by lia)) (fun j hj => ap _ _ (by lia) (by lia) (by lia)) ua (by lia) fun k kn k2 k3 => ?_)))
 dsimp only
 by_cases z0 : na - k = 0
 ·rw [if_pos (by simpa using z0)]
  refine wpS_pure (q _ B1 rfl (by show Out xs (arrOf st) _ _; rw [hx]; exact Out.refl _ _ _) ?_)
  show Ris r (arrOf st) _ _
  rw [hx]
  intro i j g1 g2 g3
  by_cases c1 : j < sa + na
  ·exact ua i j g1 g2 c1
  by_cases c2 : sa + na <= i
  ·exact ub i j c2 g2 g3
  have l1 := k2 (i - sa) (by lia)
  rw [show sa + (i - sa) = i by lia] at l1
  have l1 : kx r xs i < kx r xs (sa + na) := l1
  by_cases c3 : j = sa + na
  ·rw [c3]
   exact l1
  ·have := ub (sa + na) j (Nat.le_refl _) (by lia) g3
   lia
 rw [if_neg (by simpa using z0)]
 have eL : sa + k + (na - k) - 1 = sa + na - 1 := by lia
 rw [eL]
 refine wpS_bind (wpS_elem (by lia) (wpS_bind (wpS_gallop K B1.kind (by lia) (fun j hj => mem _ (by lia)) (mem _ (by lia)) (fun j hj => ap _ _ (by lia) (by lia) (by lia)) ub (by lia) fun n2 nn n2a n2b => ?_)))
 dsimp only
 have bk : kx r xs (sa + na) < kx r xs (sa + k) := by
  have := k3 k (Nat.le_refl _) (by lia)
  exact this
 have klast : kx r xs (sa + k) <= kx r xs (sa + na - 1) := by
  by_cases c : sa + k = sa + na - 1
  ·rw [c]
   exact Int.le_refl _
  ·exact Int.le_of_lt (ua (sa + k) (sa + na - 1) (by lia) (by lia) (by lia))
 have n20 : n2 ≠ 0 := fun z => by
  subst z
  have := n2b 0 (Nat.le_refl _) (by lia)
  rw [Nat.add_zero] at this
  have : kx r xs (sa + na - 1) < kx r xs (sa + na) := this
  lia
 rw [if_neg (by simpa using n20)]
 have sx : (xs.extract (sa + k) (sa + na)).size = na - k := by rw [ext_size (by lia)]; lia
 have sy : (xs.extract (sa + na) (sa + na + n2)).size = n2 := by rw [ext_size (by lia)]; lia
 have mx : ∀ x ∈ (xs.extract (sa + k) (sa + na)).toList, ∃ j, sa + k <= j /\ j < sa + na /\ xs.getD j d0 = x := fun x hx => by
  rw [ext_mid] at hx
  obtain ⟨j, g1, g2, _, g3⟩ := mem_cut hx
  exact ⟨j, g1, g2, g3⟩
 have my : ∀ x ∈ (xs.extract (sa + na) (sa + na + n2)).toList, ∃ j, sa + na <= j /\ j < sa + na + n2 /\ xs.getD j d0 = x := fun x hx => by
  rw [ext_mid] at hx
  obtain ⟨j, g1, g2, _, g3⟩ := mem_cut hx
  exact ⟨j, g1, g2, g3⟩
 have upx : ∀ (t n : Nat), n <= xs.size -> Ris r xs t n -> Up r (xs.extract t n).toList := fun t n hn ur => by
  refine List.pairwise_iff_getElem.mpr fun i j hi hj ij => ?_
  rw [Array.length_toList, ext_size hn] at hi hj
  have e : ∀ c (hc : c < (xs.extract t n).toList.length), (xs.extract t n).toList[c] = xs.getD (t + c) d0 := fun c hc => by
   rw [Array.length_toList, ext_size hn] at hc
   rw [<- ext_getD hn (by lia), Array.getElem_toList]
   exact (getD_of (Array.getElem?_eq_getElem _)).symm
  rw [e, e]
  exact ur (t + i) (t + j) (by lia) (by lia) (by lia)
 have T : Two κ r a₀ (xs.extract (sa + k) (sa + na)) (xs.extract (sa + na) (sa + na + n2)) := by
  refine ⟨fun x hx => ?_, fun x hx => ?_, upx _ _ (by lia) fun i j g1 g2 g3 => ua i j (by lia) g2 g3, upx _ _ (by lia) fun i j g1 g2 g3 => ub i j g1 g2 (by lia), fun x hx y hy => ?_, by lia, by lia, fun x hx => ?_, fun y hy => ?_⟩
  ·obtain ⟨j, g1, g2, rfl⟩ := mx x hx
   exact mem j (by lia)
  ·obtain ⟨j, g1, g2, rfl⟩ := my x hx
   exact mem j (by lia)
  ·obtain ⟨j, g1, g2, rfl⟩ := mx x hx
   obtain ⟨l, g3, g4, rfl⟩ := my y hy
   exact ap j l (by lia) (by lia) (by lia)
  ·obtain ⟨j, g1, g2, rfl⟩ := mx x hx
   rw [ext_getD (by lia) (by lia), Nat.add_zero]
   show kx r xs (sa + na) < kx r xs j
   by_cases c : j = sa + k
   ·rw [c]
    exact bk
   ·have := ua (sa + k) j (by lia) (by lia) g2
    lia
  ·obtain ⟨j, g1, g2, rfl⟩ := my y hy
   rw [sx, ext_getD (by lia) (by lia), show sa + k + (na - k - 1) = sa + na - 1 by lia]
   have := n2a (j - (sa + na)) (by lia)
   rw [show sa + na + (j - (sa + na)) = j by lia] at this
   exact this
 have fin : ∀ m st', Eqv (setPending st P) st' -> Gd r (xs.extract (sa + k) (sa + na)) (xs.extract (sa + na) (sa + na + n2)) m -> wpS M A E s (do
   modify fun s => setArr s (m.toList.zipIdx.foldl (fun a (p, j) => a.setIfInBounds (sa + k + j) p) (arrOf s))
   return (failedOf (<- get)).isNone) Q st' := fun m st' ev gd => by
  have ea : arrOf st' = xs := ev.arr.trans hx
  have ml : m.toList.length = na - k + n2 := by
   have := gd.1.length_eq
   rw [List.length_append, Array.length_toList (xs := xs.extract _ _), Array.length_toList (xs := xs.extract _ _), sx, sy] at this
   exact this
  refine wpS_bind (wpS_modify (wpS_bind (wpS_get ?_)))
  rw [ea]
  have tl := laid m.toList 0 (sa + k) xs (by rw [ml]; lia)
  rw [Nat.add_zero, ml] at tl
  generalize hys : m.toList.zipIdx.foldl (fun a (p, j) => a.setIfInBounds (sa + k + j) p) xs = ys at tl ⊢
  have okf : (failedOf (setArr st' ys)).isNone = true := by
   show (failedOf st').isNone = true
   rw [ev.ok]
   show (failedOf st).isNone = true
   rw [B.ok]
   rfl
  rw [okf]
  have mid : xs.toList = xs.toList.take (sa + k) ++ ((xs.extract (sa + k) (sa + na)).toList ++ (xs.extract (sa + na) (sa + na + n2)).toList) ++ xs.toList.drop (sa + k + (na - k + n2)) := by
   rw [ext_mid, ext_mid]
   have e1 : xs.toList.take (sa + k) ++ (xs.toList.take (sa + na)).drop (sa + k) = xs.toList.take (sa + na) := by
    have z := List.take_append_drop (sa + k) (xs.toList.take (sa + na))
    rwa [List.take_take, Nat.min_eq_left (by lia)] at z
   have e2 : xs.toList.take (sa + na) ++ (xs.toList.take (sa + na + n2)).drop (sa + na) = xs.toList.take (sa + na + n2) := by
    have z := List.take_append_drop (sa + na) (xs.toList.take (sa + na + n2))
    rwa [List.take_take, Nat.min_eq_left (by lia)] at z
   rw [<- List.append_assoc, e1, e2, show sa + k + (na - k + n2) = sa + na + n2 by lia, List.take_append_drop]
  have pys : ys.Perm xs := by
   refine Array.perm_iff_toList_perm.mpr ?_
   rw [tl]
   conv => rhs; rw [mid]
   exact List.Perm.append_right _ (List.Perm.append_left _ gd.1)
  have lx : xs.toList.length = a₀.size := by rw [Array.length_toList]; exact sz
  have out1 : ∀ j, j < sa + k ∨ sa + na + n2 <= j -> ys[j]? = xs[j]? := fun j hj => by
   rw [list_ext_getD tl j, <- Array.getElem?_toList]
   rcases hj with h | h
   ·rw [List.getElem?_append_left (by rw [List.length_append, List.length_take]; lia), List.getElem?_append_left (by rw [List.length_take]; lia), List.getElem?_take, if_pos h]
   ·rw [List.getElem?_append_right (by rw [List.length_append, List.length_take, ml]; lia), List.getElem?_drop]
    congr 1
    rw [List.length_append, List.length_take, ml]
    lia
  have inn : ∀ j, sa + k <= j -> j < sa + na + n2 -> ∃ h : j - (sa + k) < m.toList.length, ys.getD j d0 = m.toList[j - (sa + k)] := fun j g1 g2 => by
   have hl : j - (sa + k) < m.toList.length := by lia
   refine ⟨hl, getD_of ?_⟩
   rw [list_ext_getD tl j, List.getElem?_append_left (by rw [List.length_append, List.length_take, ml]; lia), List.getElem?_append_right (by rw [List.length_take]; lia), List.length_take, show j - min (sa + k) xs.toList.length = j - (sa + k) by lia, List.getElem?_eq_getElem hl]
  have from1 : ∀ j, sa + k <= j -> j < sa + na + n2 -> ∃ l, sa + k <= l /\ l < sa + na + n2 /\ ys.getD j d0 = xs.getD l d0 := fun j g1 g2 => by
   obtain ⟨hl, e⟩ := inn j g1 g2
   have mm : ys.getD j d0 ∈ (xs.extract (sa + k) (sa + na)).toList ++ (xs.extract (sa + na) (sa + na + n2)).toList := by
    rw [e]
    exact (List.Perm.mem_iff gd.1).mp (List.getElem_mem hl)
   rcases List.mem_append.mp mm with z | z
   ·obtain ⟨l, l1, l2, l3⟩ := mx _ z
    exact ⟨l, l1, by lia, l3.symm⟩
   ·obtain ⟨l, l1, l2, l3⟩ := my _ z
    exact ⟨l, by lia, l2, l3.symm⟩
  refine wpS_pure (q _ ⟨ev.kind.trans B1.kind, pys.trans pm, by show failedOf st' = none; rw [ev.ok]; exact B.ok⟩ ev.pend (fun j hj => out1 j (by lia)) fun i j g1 g2 g3 => ?_)
  show kx r ys i < kx r ys j
  have oe : ∀ c, c < sa + k ∨ sa + na + n2 <= c -> kx r ys c = kx r xs c := fun c hc => congrArg r (getD_cong (out1 c hc))
  have hd : ∀ c l, sa <= c -> c < sa + k -> sa + k <= l -> l < sa + na + nb -> kx r xs c < kx r xs l := fun c l c1 c2 c3 c4 => by
   by_cases c5 : l < sa + na
   ·exact ua c l c1 (by lia) c5
   ·have l1 := k2 (c - sa) (by lia)
    rw [show sa + (c - sa) = c by lia] at l1
    have l1 : kx r xs c < kx r xs (sa + na) := l1
    by_cases c6 : l = sa + na
    ·rw [c6]
     exact l1
    ·have := ub (sa + na) l (Nat.le_refl _) (by lia) c4
     lia
  have tlb : ∀ l c, sa + k <= l -> l < sa + na + n2 -> sa + na + n2 <= c -> c < sa + na + nb -> kx r xs l < kx r xs c := fun l c c1 c2 c3 c4 => by
   by_cases c5 : sa + na <= l
   ·exact ub l c c5 (by lia) c4
   ·have l1 := n2b (c - (sa + na)) (by lia) (by lia)
    rw [show sa + na + (c - (sa + na)) = c by lia] at l1
    have l1 : kx r xs (sa + na - 1) < kx r xs c := l1
    by_cases c6 : l = sa + na - 1
    ·rw [c6]
     exact l1
    ·have := ua l (sa + na - 1) (by lia) (by lia) (by lia)
     lia
  by_cases i1 : i < sa + k
  ·rw [oe i (.inl i1)]
   by_cases j1 : j < sa + k
   ·rw [oe j (.inl j1)]
    exact ua i j g1 g2 (by lia)
   ·by_cases j2 : j < sa + na + n2
    ·obtain ⟨l, l1, l2, l3⟩ := from1 j (by lia) j2
     show kx r xs i < r (ys.getD j d0)
     rw [l3]
     exact hd i l g1 i1 l1 (by lia)
    ·rw [oe j (.inr (by lia))]
     exact hd i j g1 i1 (by lia) g3
  ·by_cases i2 : i < sa + na + n2
   ·by_cases j2 : j < sa + na + n2
    ·obtain ⟨h1', e1⟩ := inn i (by lia) i2
     obtain ⟨h2', e2⟩ := inn j (by lia) j2
     show r (ys.getD i d0) < r (ys.getD j d0)
     rw [e1, e2]
     exact List.pairwise_iff_getElem.mp gd.2 _ _ h1' h2' (by lia)
    ·obtain ⟨l, l1, l2, l3⟩ := from1 i (by lia) i2
     rw [oe j (.inr (by lia))]
     show r (ys.getD i d0) < kx r xs j
     rw [l3]
     exact tlb l j l1 l2 (by lia) g3
   ·rw [oe i (.inr (by lia)), oe j (.inr (by lia))]
    exact ub i j (by lia) g2 g3
 by_cases c : na - k <= n2
 ·rw [if_pos c]
  exact wpS_bind (wpS_mergeLo K B1.kind T fin)
 ·rw [if_neg c]
  exact wpS_bind (wpS_mergeHi K B1.kind T fin)
end
def Runs (r : Keyed -> Int) (xs : Array Keyed) : Nat -> List (Nat × Nat × Nat) -> Nat -> Prop
 | s, [], e => s = e
 | s, u :: l, e => u.1 = s /\ 1 <= u.2.1 /\ Ris r xs s (s + u.2.1) /\ Runs r xs (s + u.2.1) l e
section
variable {r : Keyed -> Int} {xs ys : Array Keyed}
theorem runs_le : ∀ {l : List (Nat × Nat × Nat)} {s e : Nat}, Runs r xs s l e -> s + l.length <= e
 | [], s, e, h => by
  have : s = e := h
  simp
  lia
 | u :: l, s, e, h => by
  have := runs_le h.2.2.2
  have := h.2.1
  rw [List.length_cons]
  lia
theorem runs_app : ∀ {l l' : List (Nat × Nat × Nat)} {s e : Nat}, Runs r xs s (l ++ l') e ↔ ∃ m, Runs r xs s l m /\ Runs r xs m l' e
 | [], l', s, e => ⟨fun h => ⟨s, rfl, h⟩, fun ⟨m, h1, h2⟩ => by have : s = m := h1; subst this; exact h2⟩
 | u :: l, l', s, e => by
  constructor
  ·rintro ⟨h1, h2, h3, h4⟩
   obtain ⟨m, g1, g2⟩ := runs_app.mp h4
   exact ⟨m, ⟨h1, h2, h3, g1⟩, g2⟩
  ·rintro ⟨m, ⟨h1, h2, h3, g1⟩, g2⟩
   exact ⟨h1, h2, h3, runs_app.mpr ⟨m, g1, g2⟩⟩
theorem runs_out {lo hi : Nat} (o : Out xs ys lo hi) : ∀ {l : List (Nat × Nat × Nat)} {s e : Nat}, Runs r xs s l e -> e <= lo ∨ hi <= s -> Runs r ys s l e
 | [], _, _, h, _ => h
 | u :: l, s, e, h, d => by
  have := runs_le h.2.2.2
  exact ⟨h.1, h.2.1, o.ris h.2.2.1 (by lia), runs_out o h.2.2.2 (by lia)⟩
theorem split_at {p : Array (Nat × Nat × Nat)} {i : Nat} (h : i + 1 < p.size) : ∃ l1 u v l2, p.toList = l1 ++ u :: v :: l2 /\ l1.length = i /\ p[i]? = some u /\ p[i + 1]? = some v := by
 have hl : p.toList.length = p.size := Array.length_toList
 refine ⟨p.toList.take i, p[i]'(by lia), p[i + 1], p.toList.drop (i + 2), ?_, by rw [List.length_take]; lia, Array.getElem?_eq_getElem _, Array.getElem?_eq_getElem _⟩
 have e1 : p.toList.drop i = p.toList[i]'(by lia) :: p.toList.drop (i + 1) := List.drop_eq_getElem_cons (by lia)
 have e2 : p.toList.drop (i + 1) = p.toList[i + 1]'(by lia) :: p.toList.drop (i + 2) := List.drop_eq_getElem_cons (by lia)
 rw [Array.getElem_toList] at e1 e2
 rw [<- e2, <- e1, List.take_append_drop]
theorem one_less {p : Array (Nat × Nat × Nat)} {i : Nat} {l1 l2 : List (Nat × Nat × Nat)} {u v w : Nat × Nat × Nat} (h : p.toList = l1 ++ u :: v :: l2) (hl : l1.length = i) : ((p.setIfInBounds i w).eraseIdxIfInBounds (i + 1)).toList = l1 ++ w :: l2 := by
 rw [Array.toList_eraseIdxIfInBounds, Array.toList_setIfInBounds, h, List.set_append_right _ _ (by lia), hl, Nat.sub_self, List.eraseIdx_append_of_length_le (by lia), hl, Nat.add_sub_cancel_left]
 rfl
variable {M : Model} {A : Around} {E : Value -> Shared -> Prop} {s : Shared} {κ : SortKind} {a₀ : Array Keyed}
theorem wpS_mergeRuns {st : SortSt} {i lo : Nat} {Q : Bool -> SortSt -> Prop} (K : Asks M A s κ r a₀) (B : StOk κ a₀ st) (hi : i + 1 < (pendingOf st).size) (R : Runs r (arrOf st) 0 (pendingOf st).toList lo) (hlo : lo <= a₀.size)
  (q : ∀ st', StOk κ a₀ st' -> (pendingOf st').size + 1 = (pendingOf st).size -> Out (arrOf st) (arrOf st') 0 lo -> Runs r (arrOf st') 0 (pendingOf st').toList lo -> Q true st') : wpS M A E s (mergeAt' i) Q st := by
 obtain ⟨l1, u, v, l2, e, hl, eu, ev⟩ := split_at hi
 rw [e] at R
 obtain ⟨m, R1, R2⟩ := runs_app.mp R
 obtain ⟨u1, u2, u3, v1, v2, v3, R3⟩ := R2
 obtain ⟨sa, na, pw⟩ := u
 obtain ⟨sb, nb, pw2⟩ := v
 dsimp only at u1 u2 u3 v1 v2 v3 R3
 subst u1
 have le := runs_le R3
 refine wpS_mergeAt K B eu ev v1 u2 v2 (by lia) u3 (by rw [v1]; exact v3) fun st' B' ep o up => ?_
 have el := one_less (w := (sa, na + nb, pw)) e hl
 rw [<- ep] at el
 refine q st' B' ?_ (o.wide (Nat.zero_le _) (by lia)) ?_
 ·have l3 : (pendingOf st').toList.length + 1 = (pendingOf st).toList.length := by
   rw [el, e]
   simp
   lia
  rwa [Array.length_toList, Array.length_toList] at l3
 ·rw [el]
  refine runs_app.mpr ⟨sa, runs_out o R1 (.inl (Nat.le_refl _)), rfl, by show 1 <= na + nb; lia, ?_, ?_⟩
  ·show Ris r (arrOf st') sa (sa + (na + nb))
   rw [show sa + (na + nb) = sb + nb by lia]
   exact up
  ·show Runs r (arrOf st') (sa + (na + nb)) l2 lo
   rw [show sa + (na + nb) = sa + na + nb by lia]
   exact runs_out o R3 (.inr (by lia))
theorem runs_pw {f : Nat -> Nat} : ∀ {l : List (Nat × Nat × Nat)} {s e i : Nat}, Runs r xs s l e -> Runs r xs s (l.modify i fun u => (u.1, u.2.1, f u.2.2)) e
 | [], _, _, _, h => by simpa using h
 | u :: l, s, e, 0, h => h
 | u :: l, s, e, i + 1, h => ⟨h.1, h.2.1, h.2.2.1, runs_pw h.2.2.2⟩
theorem wpS_sortAny {st : SortSt} {Q : Unit -> SortSt -> Prop} (K : Asks M A s κ r a₀) (B : StOk κ a₀ st) (hp : pendingOf st = #[]) (h1 : 1 <= a₀.size)
  (q : ∀ st', StOk κ a₀ st' -> Ris r (arrOf st') 0 a₀.size -> Q () st') : wpS M A E s sortRuns' Q st := by
 have sz := perm_size B.perm
 rw [sortRuns'_eq]
 refine wpS_bind (wpS_get ?_)
 dsimp only
 rw [sz]
 refine wpS_bind (wpS_mono (wpS_forRange (I := fun x c st' => ∃ lo, c = (none, lo) /\ x <= lo /\ lo <= a₀.size /\ StOk κ a₀ st' /\ Runs r (arrOf st') 0 (pendingOf st').toList lo)
  (Q := fun c st' => c = (none, a₀.size) /\ StOk κ a₀ st' /\ Runs r (arrOf st') 0 (pendingOf st').toList a₀.size) ?step ?stop ⟨0, rfl, Nat.le_refl _, Nat.zero_le _, B, by rw [hp]; rfl⟩) ?post)
 case stop =>
  rintro c st' ⟨lo, rfl, h1, h2, B', R⟩
  have e : lo = a₀.size := by lia
  subst e
  exact ⟨rfl, B', R⟩
 case step =>
  rintro x c st1 _ hx ⟨lo, rfl, hxl, hlo, B1, R1⟩
  dsimp only
  by_cases z : lo ≥ a₀.size
  ·rw [if_pos z]
   have e : lo = a₀.size := by lia
   subst e
   exact wpS_pure ⟨rfl, B1, R1⟩
  rw [if_neg z]
  refine wpS_bind (wpS_count K B1 (by lia) (by lia) fun n st2 B2 p2 g2 o2 n1 nn up2 => ?_)
  dsimp only
  have R2 : Runs r (arrOf st2) 0 (pendingOf st2).toList lo := by rw [p2]; exact runs_out o2 R1 (.inl (Nat.le_refl _))
  by_cases mr : n < minRun' a₀.size a₀.size 0
  ·rw [if_pos mr]
   refine wpS_bind (wpS_lift (wpAny_rule ⟨rfl, ?_⟩))
   refine wpS_bind (wpS_binary K B2 (by lia) (by lia) up2 fun st3 B3 p3 g3 o3 up3 => ?_)
   rw [if_neg (by decide)]
   have R3 : Runs r (arrOf st3) 0 (pendingOf st3).toList lo := by rw [p3]; exact runs_out o3 R2 (.inl (Nat.le_refl _))
   have n1 : 1 <= min (a₀.size - lo) (minRun' a₀.size a₀.size 0) := by lia
   have nn : lo + min (a₀.size - lo) (minRun' a₀.size a₀.size 0) <= a₀.size := by lia
   generalize min (a₀.size - lo) (minRun' a₀.size a₀.size 0) = m0 at up3 n1 nn ⊢
   refine wpS_bind (wpS_get ?_)
   cases eb : (pendingOf st3).back? with
   | none =>
    dsimp only
    refine wpS_bind (wpS_modify (wpS_pure ⟨lo + m0, rfl, by lia, by lia, ⟨B3.kind, B3.perm, B3.ok⟩, ?_⟩))
    show Runs r (arrOf st3) 0 ((pendingOf st3).push (lo, m0, 0)).toList (lo + m0)
    rw [Array.toList_push]
    exact runs_app.mpr ⟨lo, R3, rfl, n1, up3, rfl⟩
   | some u =>
    obtain ⟨s1, m1, w1⟩ := u
    dsimp only
    refine wpS_bind (wpS_mono (wpS_forRange (I := fun x c st' => c = (none, ()) /\ StOk κ a₀ st' /\ Runs r (arrOf st') 0 (pendingOf st').toList lo /\ Ris r (arrOf st') lo (lo + m0))
     (Q := fun c st' => c = (none, ()) /\ StOk κ a₀ st' /\ Runs r (arrOf st') 0 (pendingOf st').toList lo /\ Ris r (arrOf st') lo (lo + m0)) ?step2 ?stop2 ⟨rfl, B3, R3, up3⟩) ?post2)
    case stop2 =>
     rintro c st4 h
     exact h
    case step2 =>
     rintro y c st4 _ _ ⟨rfl, B4, R4, up4⟩
     refine wpS_bind (wpS_get ?_)
     by_cases g : (pendingOf st4).size > 1
     ·rw [if_pos g, Array.getElem?_eq_getElem (by lia)]
      generalize (pendingOf st4)[(pendingOf st4).size - 2] = u2
      obtain ⟨a2, b2, older⟩ := u2
      dsimp only
      by_cases g2 : older <= power' a₀.size (2 * s1 + m1) (2 * s1 + m1 + m1 + m0) a₀.size
      ·rw [if_pos g2]
       exact wpS_pure ⟨rfl, B4, R4, up4⟩
      ·rw [if_neg g2]
       refine wpS_bind (wpS_mergeRuns K B4 (by lia) R4 hlo fun st5 B5 _ o5 R5 => ?_)
       exact wpS_pure ⟨rfl, B5, R5, o5.ris up4 (.inr (Nat.le_refl _))⟩
     ·rw [if_neg g]
      exact wpS_pure ⟨rfl, B4, R4, up4⟩
    case post2 =>
     rintro c st4 ⟨rfl, B4, R4, up4⟩
     dsimp only
     refine wpS_bind (wpS_modify (wpS_bind (wpS_modify (wpS_pure ⟨lo + m0, rfl, by lia, by lia, ⟨B4.kind, B4.perm, B4.ok⟩, ?_⟩))))
     show Runs r (arrOf st4) 0 (((pendingOf st4).modify ((pendingOf st4).size - 1) fun x => (x.fst, x.2.fst, power' a₀.size (2 * s1 + m1) (2 * s1 + m1 + m1 + m0) a₀.size)).push (lo, m0, 0)).toList (lo + m0)
     rw [Array.toList_push, Array.toList_modify]
     exact runs_app.mpr ⟨lo, runs_pw (f := fun _ => power' a₀.size (2 * s1 + m1) (2 * s1 + m1 + m1 + m0) a₀.size) R4, rfl, n1, up4, rfl⟩
  ·rw [if_neg mr]
   have B3 := B2
   have R3 := R2
   have up3 := up2
   refine wpS_bind (wpS_get ?_)
   cases eb : (pendingOf st2).back? with
   | none =>
    dsimp only
    refine wpS_bind (wpS_modify (wpS_pure ⟨lo + n, rfl, by lia, by lia, ⟨B3.kind, B3.perm, B3.ok⟩, ?_⟩))
    show Runs r (arrOf st2) 0 ((pendingOf st2).push (lo, n, 0)).toList (lo + n)
    rw [Array.toList_push]
    exact runs_app.mpr ⟨lo, R3, rfl, n1, up3, rfl⟩
   | some u =>
    obtain ⟨s1, m1, w1⟩ := u
    dsimp only
    refine wpS_bind (wpS_mono (wpS_forRange (I := fun x c st' => c = (none, ()) /\ StOk κ a₀ st' /\ Runs r (arrOf st') 0 (pendingOf st').toList lo /\ Ris r (arrOf st') lo (lo + n))
     (Q := fun c st' => c = (none, ()) /\ StOk κ a₀ st' /\ Runs r (arrOf st') 0 (pendingOf st').toList lo /\ Ris r (arrOf st') lo (lo + n)) ?step2 ?stop2 ⟨rfl, B3, R3, up3⟩) ?post2)
    case stop2 =>
     rintro c st4 h
     exact h
    case step2 =>
     rintro y c st4 _ _ ⟨rfl, B4, R4, up4⟩
     refine wpS_bind (wpS_get ?_)
     by_cases g : (pendingOf st4).size > 1
     ·rw [if_pos g, Array.getElem?_eq_getElem (by lia)]
      generalize (pendingOf st4)[(pendingOf st4).size - 2] = u2
      obtain ⟨a2, b2, older⟩ := u2
      dsimp only
      by_cases g2 : older <= power' a₀.size (2 * s1 + m1) (2 * s1 + m1 + m1 + n) a₀.size
      ·rw [if_pos g2]
       exact wpS_pure ⟨rfl, B4, R4, up4⟩
      ·rw [if_neg g2]
       refine wpS_bind (wpS_mergeRuns K B4 (by lia) R4 hlo fun st5 B5 _ o5 R5 => ?_)
       exact wpS_pure ⟨rfl, B5, R5, o5.ris up4 (.inr (Nat.le_refl _))⟩
     ·rw [if_neg g]
      exact wpS_pure ⟨rfl, B4, R4, up4⟩
    case post2 =>
     rintro c st4 ⟨rfl, B4, R4, up4⟩
     dsimp only
     refine wpS_bind (wpS_modify (wpS_bind (wpS_modify (wpS_pure ⟨lo + n, rfl, by lia, by lia, ⟨B4.kind, B4.perm, B4.ok⟩, ?_⟩))))
     show Runs r (arrOf st4) 0 (((pendingOf st4).modify ((pendingOf st4).size - 1) fun x => (x.fst, x.2.fst, power' a₀.size (2 * s1 + m1) (2 * s1 + m1 + m1 + n) a₀.size)).push (lo, n, 0)).toList (lo + n)
     rw [Array.toList_push, Array.toList_modify]
     exact runs_app.mpr ⟨lo, runs_pw (f := fun _ => power' a₀.size (2 * s1 + m1) (2 * s1 + m1 + m1 + n) a₀.size) R4, rfl, n1, up4, rfl⟩
 case post =>
  rintro c st1 ⟨rfl, B1, R1⟩
  dsimp only
  refine wpS_bind (wpS_mono (wpS_forRange (I := fun x c st' => c = (none, ()) /\ StOk κ a₀ st' /\ Runs r (arrOf st') 0 (pendingOf st').toList a₀.size /\ (pendingOf st').size + x <= a₀.size)
   (Q := fun c st' => c = (none, ()) /\ StOk κ a₀ st' /\ Runs r (arrOf st') 0 (pendingOf st').toList a₀.size /\ (pendingOf st').size <= 1) ?step3 ?stop3 ⟨rfl, B1, R1, by have := runs_le R1; rw [Array.length_toList] at this; lia⟩) ?post3)
  case stop3 =>
   rintro c st2 ⟨hc, B2, R2, hz⟩
   exact ⟨hc, B2, R2, by lia⟩
  case step3 =>
   rintro x c st2 _ hx ⟨rfl, B2, R2, hz⟩
   refine wpS_bind (wpS_get ?_)
   by_cases g : (pendingOf st2).size <= 1
   ·rw [if_pos g]
    exact wpS_pure ⟨rfl, B2, R2, g⟩
   ·rw [if_neg g]
    refine wpS_bind (wpS_mergeRuns K B2 ?_ R2 (Nat.le_refl _) fun st3 B3 z3 o3 R3 => ?_)
    ·have key : ∀ (c : Prop) [Decidable c], (if c then (pendingOf st2).size - 2 - 1 else (pendingOf st2).size - 2) + 1 < (pendingOf st2).size := fun c _ => by
      by_cases h : c
      ·rw [if_pos h]
       lia
      ·rw [if_neg h]
       lia
     exact key _
    ·exact wpS_pure ⟨rfl, B3, R3, by lia⟩
  case post3 =>
   rintro c st2 ⟨rfl, B2, R2, hz⟩
   refine wpS_pure (q st2 B2 ?_)
   have hl : (pendingOf st2).toList.length <= 1 := by rw [Array.length_toList]; exact hz
   generalize (pendingOf st2).toList = l at R2 hl
   match l, R2, hl with
   | [], R2, _ =>
    have : 0 = a₀.size := R2
    lia
   | [u], R2, _ =>
    have e : 0 + u.2.1 = a₀.size := R2.2.2.2
    rw [<- e]
    exact R2.2.2.1
end
section
variable {P : Program} {w : World} {A : Around} {E : Value -> Shared -> Prop} {s : Shared} {a : Addr} {vs ks : List Value} {k : Nat -> Int} {κ : SortKind}
noncomputable def ixOf (ks : List Value) (x : Keyed) : Nat := Classical.epsilon fun i => ks[i]? = some x.1
theorem ix_at (nd : ks.Nodup) {i : Nat} {x : Keyed} (h : ks[i]? = some x.1) : ixOf ks x = i := by
 have z : ks[ixOf ks x]? = some x.1 := Classical.epsilon_spec (p := fun i => ks[i]? = some x.1) ⟨i, h⟩
 exact (List.getElem?_inj (List.getElem?_eq_some_iff.mp z).1 nd).mp (z.trans h.symm)
theorem any_run {Q : SortSt -> Shared -> Prop} (hl : ks.length = vs.length) (h1 : 1 <= vs.length) (nd : ks.Nodup) (inj : ∀ i j, i < vs.length -> j < vs.length -> k i = k j -> i = j)
  (ask : ∀ i j (C : Bool -> Shared -> Prop), i < ks.length -> j < ks.length -> C (decide (k i < k j)) s -> kas_ask P w A κ ks i j C s)
  (hG : ∀ p st', Arr vs.length p -> SUp k p vs.length -> (arrOf st').map (·.2) = (picked vs p).toArray -> failedOf st' = none -> Q st' s) :
  wpAny (model P w) A ((sortRuns').run (SortSt.mk' κ (ks.toArray.zip vs.toArray) #[] 7 none)) (fun r s' => Q r.2 s') E s := by
 have sz : (ks.toArray.zip vs.toArray).size = vs.length := by simp [hl]
 have el : ∀ i, i < vs.length -> (ks.toArray.zip vs.toArray).getD i d0 = (ks.getD i Value.none, vs.getD i Value.none) := fun i hi => kat_item hl i
 have kat : ∀ i, i < vs.length -> ks[i]? = some (ks.getD i Value.none) := fun i hi => by
  rw [List.getD_eq_getElem?_getD, List.getElem?_eq_getElem (by lia)]
  rfl
 have ix : ∀ i, i < vs.length -> ixOf ks ((ks.toArray.zip vs.toArray).getD i d0) = i := fun i hi => ix_at nd (by rw [el i hi]; exact kat i hi)
 have at0 : ∀ x ∈ ks.toArray.zip vs.toArray, ∃ i, i < vs.length /\ x = (ks.toArray.zip vs.toArray).getD i d0 := fun x hx => by
  obtain ⟨i, hi, e⟩ := Array.getElem_of_mem hx
  exact ⟨i, by lia, (getD_of (Array.getElem?_eq_some_iff.mpr ⟨hi, e⟩)).symm⟩
 have K : Asks (model P w) A s κ (fun x => k (ixOf ks x)) (ks.toArray.zip vs.toArray) := by
  refine ⟨fun x y C hx hy hC => ?_, fun i j hi hj ij z => ?_⟩
  ·obtain ⟨i, hi, rfl⟩ := at0 x hx
   obtain ⟨j, hj, rfl⟩ := at0 y hy
   have z := ask i j C (by lia) (by lia) (by rw [ix i hi, ix j hj] at hC; exact hC)
   unfold kas_ask at z
   rw [el i hi, el j hj]
   exact z
  ·rw [sz] at hi hj
   rw [ix i hi, ix j hj] at z
   exact ij (inj i j hi hj z)
 have run := wpS_sortAny (E := E) (st := SortSt.mk' κ (ks.toArray.zip vs.toArray) #[] 7 none) (Q := fun _ st' => Q st' s) K ⟨rfl, Array.Perm.refl _, rfl⟩ rfl (by lia) fun st' B up => ?_
 ·unfold wpS at run
  exact wpAny_mono run (fun r s' h => by obtain ⟨rfl, h⟩ := h; exact h) fun _ _ e => e
 ·have psz := perm_size B.perm
  rw [sz] at up psz
  have mem : ∀ i, i < vs.length -> (arrOf st').getD i d0 ∈ ks.toArray.zip vs.toArray := fun i hi => perm_mem B.perm (by lia)
  have ar : Arr vs.length ((arrOf st').map (ixOf ks)) := by
   refine Array.perm_iff_toList_perm.mpr ?_
   rw [Array.toList_map]
   refine ((Array.perm_iff_toList_perm.mp B.perm).map (ixOf ks)).trans (.of_eq ?_)
   refine List.ext_getElem? fun i => ?_
   rw [List.getElem?_map, Array.getElem?_toList, List.toList_toArray]
   by_cases hi : i < vs.length
   ·rw [getD_at (by lia), List.getElem?_range hi]
    exact congrArg some (ix i hi)
   ·rw [Array.getElem?_eq_none (by lia), List.getElem?_eq_none (by simp; lia)]
    rfl
  have pat : ∀ i, i < vs.length -> ((arrOf st').map (ixOf ks)).getD i 0 = ixOf ks ((arrOf st').getD i d0) := fun i hi => by
   rw [Array.getD_eq_getD_getElem?, Array.getElem?_map, getD_at (by lia)]
   rfl
  refine hG ((arrOf st').map (ixOf ks)) st' ar (fun x y xy yn => ?_) ?_ B.ok
  ·rw [pat x (by lia), pat y yn]
   exact up x y (Nat.zero_le _) xy yn
  ·apply Array.toList_inj.mp
   rw [Array.toList_map]
   show _ = picked vs _
   unfold picked
   rw [Array.toList_map, List.map_map]
   refine List.map_congr_left fun x hx => ?_
   obtain ⟨i, hi, rfl⟩ := at0 x ((Array.Perm.mem_iff B.perm).mp (Array.mem_toList_iff.mp hx))
   show ((ks.toArray.zip vs.toArray).getD i d0).2 = vs.getD (ixOf ks ((ks.toArray.zip vs.toArray).getD i d0)) Value.none
   rw [ix i hi, el i hi]
theorem sort_any {n : Nat} {R : PySem.Fin -> Shared -> Prop} (ho : s.heap.get? a = some (seqObj "list" vs.toArray n)) (few : vs.length <= 4000) (nd : vs.Nodup) (inj : ∀ i j, i < vs.length -> j < vs.length -> k i = k j -> i = j)
  (ask : ∀ h', (∀ b o, b ≠ a -> s.heap.get? b = some o -> h'.get? b = some o) -> 2 <= vs.length -> AskOk P w A vs (fun i j => decide (k i < k j)) { s with heap := h' })
  (q : ∀ p h' c, Arr vs.length p -> SUp k p vs.length -> h'.get? a = some (seqObj "list" (picked vs p).toArray c) -> (∀ b o, b ≠ a -> s.heap.get? b = some o -> h'.get? b = some o) -> R (.done (.ret .none)) { s with heap := h' }) :
  wpAny (model P w) A (Builtin.«list.sort» ⟨[.ref a], []⟩) R E s := by
 have la : a < s.heap.objs.size := Heap.lt_size ho
 let h1 := s.heap.update a (Obj.mapSeq fun _ => (#[] : Array Value))
 obtain ⟨e1, ho1⟩ : ∃ e1, h1.get? a = some (seqObj "list" #[] e1) := ⟨_, get?_update_seq ho fun _ => #[]⟩
 let h3 := (h1.push (seqObj "tuple" vs.toArray 0)).push (seqObj "list" #[] 0)
 have k1 : ∀ b o, b ≠ a -> s.heap.get? b = some o -> h1.get? b = some o := fun b o nb e => (Heap.get?_update_other _ _ (Ne.symm nb)).trans e
 have k3 : ∀ b o, b ≠ a -> s.heap.get? b = some o -> h3.get? b = some o := fun b o nb e => few_in (k1 b o nb e) _ _
 have ho3 : h3.get? a = some (seqObj "list" #[] e1) := few_in ho1 _ _
 rw [list_sort_plain]
 refine wpAny_bind (listItems_at ho rfl ?_)
 refine wpAny_bind (listUpdate_at ho rfl ?_ (by rw [List.size_toArray, sizeLine_eq]; lia) (Nat.zero_le _))
 refine wpAny_bind (seqEpoch_at ho1 rfl ?_)
 refine wpAny_bind (wpAny_newTuple ?_ (by show vs.length <= _; rw [sizeLine_eq]; lia))
 refine wpAny_bind (wpAny_newList ?_ (Nat.zero_le _))
 refine wpAny_holding ?_
 show wpAny (model P w) A _ R E { s with heap := h3 }
 dsimp only
 have fin : ∀ (st : SortSt) (p : Array Nat), Arr vs.length p -> SUp k p vs.length -> (arrOf st).map (·.2) = (picked vs p).toArray -> failedOf st = none -> ∀ h4, h4 = h3 ->
   wpAny (model P w) A (do
    let touched := (<- seqEpoch a) != e1
    Builtin.List.listUpdate (.ref a) fun _ => (arrOf st).map (·.2)
    if let some e := failedOf st then rule "list.sort.comparison-raised"; throw e
    if touched then rule "list.sort.modified"; raiseError "ValueError" "list modified during sort"
    ret .none) R E { s with heap := h4 } := fun st p ar up hout hf h4 e4 => by
  subst e4
  rw [hout]
  have sz : (picked vs p).toArray.size = vs.length := by
   rw [List.size_toArray, List.length_map, Array.length_toList, ar.size]
  obtain ⟨c2, hc2⟩ : ∃ c2, (h3.update a (Obj.mapSeq fun _ => (picked vs p).toArray)).get? a = some (seqObj "list" (picked vs p).toArray c2) := ⟨_, get?_update_seq ho3 fun _ => (picked vs p).toArray⟩
  refine wpAny_bind (seqEpoch_at ho3 rfl ?_)
  refine wpAny_bind (listUpdate_at ho3 rfl ?_ (Nat.zero_le _) (Nat.le_trans (Nat.le_of_eq sz) (by rw [sizeLine_eq]; lia)))
  rw [hf]
  simp only [bne_self_eq_false, Bool.false_eq_true, if_false]
  exact wpAny_pure (q p _ c2 ar up hc2 fun b o nb e => (Heap.get?_update_other _ _ (Ne.symm nb)).trans (k3 b o nb e))
 by_cases h2 : 2 <= vs.length
 ·have n2 : ¬ vs.toArray.size < 2 := by rw [List.size_toArray]; lia
  rw [if_neg n2, if_neg n2]
  refine wpAny_bind (wpAny_mono (ask h3 k3 h2) (fun κ s0 hk => ?_) fun _ _ x => x.elim)
  obtain ⟨rfl, hk⟩ := hk
  refine wpAny_bind (wpAny_mono (any_run (ks := vs) (vs := vs) (k := k) (Q := fun st' s' => s' = { s with heap := h3 } /\ ∃ p : Array Nat, Arr vs.length p /\ SUp k p vs.length /\ (arrOf st').map (·.2) = (picked vs p).toArray /\ failedOf st' = none) rfl (by lia) nd inj hk fun p st' a1 a2 a3 a4 => ⟨rfl, p, a1, a2, a3, a4⟩) ?_ fun _ _ x => x)
  rintro ⟨⟨⟩, st⟩ s' ⟨rfl, p, ar, up, hout, hf⟩
  exact fin st p ar up hout hf _ rfl
 ·have n2 : vs.toArray.size < 2 := by rw [List.size_toArray]; lia
  rw [if_pos n2, if_pos n2]
  refine wpAny_bind (wpAny_pure (wpAny_bind (wpAny_pure ?_)))
  refine fin _ (List.range vs.length).toArray (Array.Perm.refl _) (fun x y xy yn => by lia) ?_ rfl _ rfl
  rw [picked_range]
  exact zip_snd rfl
end
def byKey (g : List Nat -> Int) (t u : List Nat) : Bool := plt (g t) t (g u) u
theorem total_key (g : List Nat -> Int) (xs : List (List Nat)) : Total (byKey g) xs := by
 refine ⟨fun x => ?_, fun x y z h1 h2 => ?_, fun x _ y _ ne => ?_⟩
 ·unfold byKey plt
  rw [if_pos rfl, ltl_irr]
 ·unfold byKey plt at h1 h2 ⊢
  by_cases e1 : g x = g y
  ·rw [if_pos e1] at h1
   by_cases e2 : g y = g z
   ·rw [if_pos e2] at h2
    rw [if_pos (by lia)]
    exact ltl_tr _ _ _ h1 h2
   ·rw [if_neg e2] at h2
    have := of_decide_eq_true h2
    rw [if_neg (by lia)]
    exact decide_eq_true (by lia)
  ·rw [if_neg e1] at h1
   have l1 := of_decide_eq_true h1
   by_cases e2 : g y = g z
   ·rw [if_neg (by lia)]
    exact decide_eq_true (by lia)
   ·rw [if_neg e2] at h2
    have l2 := of_decide_eq_true h2
    rw [if_neg (by lia)]
    exact decide_eq_true (by lia)
 ·unfold byKey plt
  by_cases e : g x = g y
  ·rw [if_pos e, if_pos e.symm]
   exact ltl_trich x y ne
  ·rw [if_neg e, if_neg fun z => e z.symm]
   rcases Int.lt_or_gt_of_ne e with q | q
   ·exact .inl (decide_eq_true q)
   ·exact .inr (decide_eq_true q)
def KeyAt (H : Hp) (g : List Nat -> Int) (κ a : Addr) (t : List Nat) : Prop := H κ = some (.tup [.int (g t), .ref a]) /\ H a = some (.tup (t.map nv))
structure KeysAt (H : Hp) (g : List Nat -> Int) (κs as : List Addr) (ts : List (List Nat)) : Prop where
 l1 : κs.length = ts.length
 l2 : as.length = ts.length
 is : ∀ (i : Nat) κ a t, κs[i]? = some κ -> as[i]? = some a -> ts[i]? = some t -> KeyAt H g κ a t
section
variable {X : Cx} {pins : List (Addr × Obj)} {σ : St} {H : Hp} {s : Shared} {g : List Nat -> Int}
theorem key_val {κ a : Addr} {t : List Nat} (I : Inv X pins σ H s) (h : KeyAt H g κ a t) : ∃ o tk its n, s.heap.get? κ = some o /\ o.cls = .type "tuple" /\ o.data = .seq #[.int (g t) tk, .ref a] n /\ Vals (t.map nv) its /\ SeqObj "tuple" s.heap a its := by
 obtain ⟨_, its, r, o, h1, h2, c, h3⟩ := (show ObjOk X.prog X.w H s.heap κ (.tup [.int (g t), .ref a]) from I.hok κ _ h.1)
 obtain ⟨u1, us, rfl, ⟨tk, rfl⟩, r2⟩ : ∃ u1 us, its = u1 :: us /\ RelV (.int (g t)) u1 /\ Vals [.ref a] us := by
  cases r with
  | cons x y => exact ⟨_, _, rfl, x, y⟩
 obtain ⟨u2, rfl, ru⟩ := vals1 r2
 cases ru
 obtain ⟨its2, r3, p3, _⟩ := I.tuple (SqT.of (K := X.K) h.2)
 exact ⟨o, tk, its2, c, h1, h2, h3, r3, seqObj_tup p3⟩
theorem key_lt {A : Around} {κ a κ' a' : Addr} {t u : List Nat} {Q : Bool -> Shared -> Prop} {E : Value -> Shared -> Prop} (hu : A.units + 8 < cLine) (I : Inv X pins σ H s) (h1 : KeyAt H g κ a t) (h2 : KeyAt H g κ' a' u) (q : Q (byKey g t u) s) :
  wpAny (model X.prog X.w) A (keyLt' (tuples' true) (.ref κ) (.ref κ')) Q E s := by
 obtain ⟨o1, k1, xs, n1, x1, x2, x3, x4, x5⟩ := key_val I h1
 obtain ⟨o2, k2, ys, n2, y1, y2, y3, y4, y5⟩ := key_val I h2
 refine kat_lt x1 x3 y1 y3 ?_
 show KatLex _ _ _ _ _ _ [(Value.int (g t) k1, Value.int (g u) k2), (Value.ref a, Value.ref a')] 0 s
 have z := eqAt_int (A := A) (s := s) (i := g t) (j := g u) (t := k1) (u := k2)
 refine kat_cons ?_
 unfold byKey plt at q
 by_cases e : g t = g u
 ·rw [decide_eq_true e] at z
  rw [if_pos e] at q
  refine z _ _ _ _ (kat_yes (kat_cons ?_))
  obtain ⟨b1, e1, e2⟩ := eq_rep I 1 (A := A) (by lia) (repTn (SqT.of (K := X.K) h1.2)) (repTn (SqT.of (K := X.K) h2.2)) rfl rfl
  refine e1 _ _ _ _ ?_
  cases b1 with
  | true =>
   have eq := dt_natsT.mp (e2.mp rfl)
   subst eq
   rw [ltl_irr] at q
   refine kat_yes (kat_nil ?_)
   exact q
  | false =>
   refine kat_no (kat_one _ _ ?_)
   have l1 : t.length = xs.length := by simpa using x4.length
   have l2 : u.length = ys.length := by simpa using y4.length
   have rc := rc_tupLt (A := A) x5 y5 (by lia) (natsLt x4 y4)
   rw [<- l1, <- l2] at rc
   exact show wpAny _ _ (richCompare .Lt _ _) _ _ _ from rc _ _ _ _ q
 ·rw [decide_eq_false e] at z
  rw [if_neg e] at q
  exact z _ _ _ _ (kat_no (one_lt _ q))
theorem keys_first {g : List Nat -> Int} (I : Inv X pins σ H s) : ∀ {κs as : List Addr} {ts : List (List Nat)}, KeysAt H g κs as ts -> ∃ fs : List Value, KatTups s.heap (κs.map Value.ref) fs /\ fs.length = κs.length /\ ∀ f ∈ fs, ∃ i t, f = .int i t
 | [], as, ts, _ => ⟨[], .nil, rfl, fun _ z => nomatch z⟩
 | κ :: κs, [], ts, h => by have := h.l1; have := h.l2; simp at *; lia
 | κ :: κs, a :: as, [], h => by have := h.l1; simp at this
 | κ :: κs, a :: as, t :: ts, h => by
  obtain ⟨fs, k1, k2, k3⟩ := keys_first I (κs := κs) (as := as) (ts := ts) ⟨by simpa using h.l1, by simpa using h.l2, fun i κ a t e1 e2 e3 => h.is (i + 1) κ a t (by simpa using e1) (by simpa using e2) (by simpa using e3)⟩
  obtain ⟨o, tk, its, n, h1, h2, h3, _⟩ := key_val I (h.is 0 κ a t rfl rfl rfl)
  exact ⟨_ :: fs, .cons h1 h2 h3 rfl k1, by simp [k2], fun f hf => by
   rcases List.mem_cons.mp hf with e | hf
   ·exact ⟨_, _, e⟩
   ·exact k3 f hf⟩
theorem ask_keys {A : Around} {κs as : List Addr} {ts : List (List Nat)} (hu : A.units + 8 < cLine) (I : Inv X pins σ H s) (n1 : 1 <= ts.length) (h : KeysAt H g κs as ts) : AskOk X.prog X.w A (κs.map Value.ref) (fun i j => byKey g (ts.getD i []) (ts.getD j [])) s := by
 obtain ⟨fs, k1, k2, k3⟩ := keys_first I h
 have l1 := h.l1
 have l2 := h.l2
 refine kat_kind (T := .type "int") k1 (by lia) (fun f hf => ?_) (by decide) ⟨rfl, fun i j C li lj hC => ?_⟩
 ·obtain ⟨i, t, rfl⟩ := k3 f hf
  exact .now
 ·rw [List.length_map] at li lj
  have at0 : ∀ {i : Nat}, i < κs.length -> ∃ κ a, (κs.map Value.ref).getD i Value.none = .ref κ /\ KeyAt H g κ a (ts.getD i []) := fun {i} li => by
   obtain ⟨κ, e1⟩ : ∃ κ, κs[i]? = some κ := ⟨_, List.getElem?_eq_getElem li⟩
   obtain ⟨a, e2⟩ : ∃ a, as[i]? = some a := ⟨_, List.getElem?_eq_getElem (by lia)⟩
   refine ⟨κ, a, ?_, h.is i κ a _ e1 e2 (getD_in (by lia)).1⟩
   rw [List.getD_eq_getElem?_getD, List.getElem?_map, e1]
   rfl
  obtain ⟨κ, a, e1, h1⟩ := at0 li
  obtain ⟨κ', a', e2, h2⟩ := at0 lj
  show wpAny (model X.prog X.w) A (keyLt' _ ((κs.map Value.ref).getD i Value.none) ((κs.map Value.ref).getD j Value.none)) C _ s
  rw [e1, e2]
  exact key_lt hu I h1 h2 hC
end
def spKey (g : List Nat -> Int) : Sp := fun vs H Q _ => ∃ (a : Addr) (t : List Nat), vs = [.ref a] /\ H a = some (.tup (t.map nv)) /\ ∀ κ H', Same H H' -> H' κ = some (.tup [.int (g t), .ref a]) -> Q (.ref κ) H'
section
variable {X : Cx} {pins : List (Addr × Obj)} {σ : St} {kk : Nat} {f : Addr} {fd : FuncData} {ps : List Str} {g : List Nat -> Int}
theorem run_in2 {sp : Sp} {H : Hp} {s : Shared} {Q : VK} {us : List Value} {vs : List V} (F : FnOk X.prog X.w X.K X.mg X.base CX0 kk f fd ps sp) (hr : Room kk X.A.in1.in1) (hb : Binds X.K fd ps []) (I : Inv X pins σ H s) (r : Vals vs us) (h : sp vs H Q E0) :
  wpAny (model X.prog X.w) X.A.in1.in1 (call (.ref f) us) (EP X pins σ Q) (fun _ _ => False) s := by
 have hl : (us ++ []).length = ps.length := by rw [List.append_nil, <- r.length]; exact F.len _ _ _ _ h
 have b := hb s us I.kIn hl
 rw [List.append_nil] at b
 refine wpAny_call (codeAny_mono (F.run X.A.in1.in1 X.stack s H ⟨us, []⟩ us vs Q E0 hr I.env0.in1.in1 b r h) fun r s' hq => ?_)
 cases r with
 | error e => exact hq.elim
 | ok fl =>
  cases fl with
  | ret u => exact I.after hq
  | next => exact False.elim hq
  | brk => exact False.elim hq
  | cont => exact False.elim hq
theorem Inv.pin2 {H : Hp} {s : Shared} {b c : Addr} {o u : Obj} (I : Inv X pins σ H s) (f1 : FpOk X pins H b) (f2 : FpOk X pins H c) (e1 : s.heap.get? b = some o) (e2 : s.heap.get? c = some u) (n1 : ∀ v, o.data ≠ .cell v) (n2 : ∀ v, u.data ≠ .cell v) : Inv X ((b, o) :: (c, u) :: pins) σ H s :=
 I.pins_of fun p hp => by
  rcases List.mem_cons.mp hp with rfl | hp
  ·exact ⟨e1, f1.1, f1.2.1, f1.2.2.1, n1⟩
  ·rcases List.mem_cons.mp hp with rfl | hp
   ·exact ⟨e2, f2.1, f2.2.1, f2.2.2.1, n2⟩
   ·exact I.pin p (List.mem_append_right _ hp)
theorem Inv.unpin2 {H : Hp} {s : Shared} {b c : Addr} {o u : Obj} (I : Inv X ((b, o) :: (c, u) :: pins) σ H s) : Inv X pins σ H s :=
 I.pins_of fun p hp => I.pin p (List.mem_append_right _ (List.mem_cons_of_mem _ (List.mem_cons_of_mem _ hp)))
theorem FpOk.to {H H' : Hp} {b : Addr} (h : FpOk X pins H b) (e : H' b = none) : FpOk X pins H' b := ⟨e, h.2⟩
theorem keys_go {E : Value -> Shared -> Prop} {kS D : Addr} {e1 : Nat} {body : Value -> PUnit -> Sem (ForInStep PUnit)} {Q : Shared -> Prop} (F : FnOk X.prog X.w X.K X.mg X.base CX0 kk f fd ps (spKey g)) (hr : Room kk X.A.in1.in1) (hb : Binds X.K fd ps []) (ne : kS ≠ D)
  (hbody : ∀ x (s : Shared) (C : Value -> Shared -> Prop) (Qy : Shared -> Prop), wpAny (model X.prog X.w) X.A.in1.in1 (call (.ref f) [x]) C (fun _ _ => False) s ->
   (∀ k s', C k s' -> ∃ its c, s'.heap.get? kS = some (seqObj "list" its c) /\ its.size < 64 /\ Qy { s' with heap := s'.heap.update kS (Obj.mapSeq (·.push k)) }) -> wpAny (model X.prog X.w) X.A.in1.in1 (body x ⟨⟩) (fun r s' => r = .yield ⟨⟩ /\ Qy s') E s) :
  ∀ (r : List Addr) (rt : List (List Nat)) (H : Hp) (κs : List Addr) (c : Nat) (s : Shared), Inv X pins σ H s -> TupsAt H r rt -> s.heap.get? kS = some (seqObj "list" (κs.map Value.ref).toArray c) -> s.heap.get? D = some (seqObj "list" #[] e1) -> FpOk X pins H kS -> FpOk X pins H D -> κs.length + r.length < 64 ->
   (∀ H2 κ2 c2 s2, Inv X pins σ H2 s2 -> Same H H2 -> KeysAt H2 g κ2 r rt -> s2.heap.get? kS = some (seqObj "list" ((κs ++ κ2).map Value.ref).toArray c2) -> s2.heap.get? D = some (seqObj "list" #[] e1) -> FpOk X pins H2 kS -> FpOk X pins H2 D -> Q s2) ->
   wpAny (model X.prog X.w) X.A.in1.in1 (forIn (r.map Value.ref) PUnit.unit body) (fun _ s' => Q s') E s
 | [], [], H, κs, c, s, I, T, eS, eD, f1, f2, _, q => by
  rw [List.map_nil, List.forIn_nil]
  exact wpAny_pure (q H [] c s I (Same.refl _) ⟨rfl, rfl, fun i κ a t e => by simp at e⟩ (by rw [List.append_nil]; exact eS) eD f1 f2)
 | [], _ :: _, H, κs, c, s, I, T, eS, eD, f1, f2, _, q => by have := T.len; simp at this
 | _ :: _, [], H, κs, c, s, I, T, eS, eD, f1, f2, _, q => by have := T.len; simp at this
 | a :: r, t :: rt, H, κs, c, s, I, T, eS, eD, f1, f2, l64, q => by
  rw [List.length_cons] at l64
  rw [List.map_cons, List.forIn_cons]
  have ha : H a = some (.tup (t.map nv)) := T.is 0 a t rfl rfl
  have I1 := I.pin2 f1 f2 eS eD (fun _ z => nomatch z) (fun _ z => nomatch z)
  have go := run_in2 (Q := fun v H' => ∃ κ, v = .ref κ /\ Same H H' /\ H' κ = some (.tup [.int (g t), .ref a])) F hr hb I1 (us := [.ref a]) (vs := [.ref a]) (.cons rfl .nil) ⟨a, t, rfl, ha, fun κ H' gg e => ⟨κ, rfl, gg, e⟩⟩
  refine wpAny_bind (wpAny_mono (hbody _ s _ (fun s' => ∃ κ H' c', Inv X pins σ H' s' /\ Same H H' /\ H' κ = some (.tup [.int (g t), .ref a]) /\ s'.heap.get? kS = some (seqObj "list" ((κs ++ [κ]).map Value.ref).toArray c') /\ s'.heap.get? D = some (seqObj "list" #[] e1) /\ FpOk X pins H' kS /\ FpOk X pins H' D) go fun k s' hk => ?_) (fun x s' hx => ?_) fun _ _ z => z)
  ·obtain ⟨v, H', I', rv, κ, rfl, gg, eκ⟩ := hk
   cases rv
   obtain ⟨p1, p2, p3, p4, _⟩ := I'.pin (kS, _) (List.mem_append_right _ (List.mem_cons_self ..))
   obtain ⟨d1, d2, d3, d4, _⟩ := I'.pin (D, _) (List.mem_append_right _ (List.mem_cons_of_mem _ (List.mem_cons_self ..)))
   obtain ⟨c', hc'⟩ : ∃ c', (s'.heap.update kS (Obj.mapSeq (·.push (Value.ref κ)))).get? kS = some (seqObj "list" ((κs ++ [κ]).map Value.ref).toArray c') := by
    have ea : (List.map Value.ref κs).toArray.push (.ref κ) = ((κs ++ [κ]).map Value.ref).toArray := by simp
    rw [<- ea]
    exact ⟨_, get?_update_seq p1 (·.push (Value.ref κ))⟩
   refine ⟨_, _, p1, by rw [List.size_toArray, List.length_map]; lia, κ, H', c', ?_, gg, eκ, hc', ?_, f1.to p2, f2.to d2⟩
   ·obtain ⟨_, w1, w2, w3, w4, w5⟩ := f1
    exact I'.unpin2.turned (t' := s'.toks) (fun b o nb e => (Heap.get?_update_other _ _ (Ne.symm nb)).trans e) p2 w1 w3 w4 w5
   ·exact (Heap.get?_update_other _ _ ne).trans d1
  ·obtain ⟨rfl, κ, H', c', I', gg, eκ, eS', eD', g1, g2⟩ := hx
   show wpAny _ _ (forIn (r.map Value.ref) PUnit.unit body) _ E s'
   refine keys_go F hr hb ne hbody r rt H' (κs ++ [κ]) c' s' I' ⟨by simpa using T.len, fun i b u e1 e2 => gg _ _ (T.is (i + 1) b u (by simpa using e1) (by simpa using e2))⟩ eS' eD' g1 g2 (by rw [List.length_append]; show κs.length + 1 + r.length < 64; lia) fun H2 κ2 c2 s2 I2 gg2 K2 eS2 eD2 h1 h2 => ?_
   refine q H2 (κ :: κ2) c2 s2 I2 (gg.trans gg2) ⟨by simp [K2.l1], by simp [K2.l2], fun i κ' b u e1 e2 e3 => ?_⟩ (by rw [List.append_assoc] at eS2; exact eS2) eD2 h1 h2
   cases i with
   | zero =>
    cases e1
    cases e2
    cases e3
    exact ⟨gg2 _ _ eκ, (gg.trans gg2) _ _ ha⟩
   | succ i => exact K2.is i κ' b u (by simpa using e1) (by simpa using e2) (by simpa using e3)
end
section
variable {X : Cx} {pins : List (Addr × Obj)} {σ : St} {H : Hp} {s : Shared} {kk : Nat} {f D : Addr} {fd : FuncData} {ps : List Str} {g : List Nat -> Int} {as : List Addr} {ts : List (List Nat)} {E : Value -> Shared -> Prop}
theorem sort_keyed {R : PySem.Fin -> Shared -> Prop} {n : Nat} (F : FnOk X.prog X.w X.K X.mg X.base CX0 kk f fd ps (spKey g)) (hr : Room kk X.A.in1.in1) (hb : Binds X.K fd ps []) (hu : X.A.units + 64 < cLine) (I : Inv X pins σ H s) (T : TupsAt H as ts) (nd : ts.Nodup) (h64 : ts.length < 64)
  (ho : s.heap.get? D = some (seqObj "list" (as.map Value.ref).toArray n)) (fD : FpOk X pins H D)
  (q : ∀ H2 p s2 c, Inv X pins σ H2 s2 -> Same H H2 -> Arr ts.length p -> SUp (fun i => rankOf (byKey g) ts (ts.getD i [])) p ts.length -> s2.heap.get? D = some (seqObj "list" (picked (as.map Value.ref) p).toArray c) -> FpOk X pins H2 D -> R (.done (.ret .none)) s2) :
  wpAny (model X.prog X.w) X.A.in1.in1 (ksk_tree D (.ref f) false) R E s := by
 have la := T.len
 have lv : (as.map Value.ref).length = ts.length := by rw [List.length_map, la]
 have lD : D < s.heap.objs.size := Heap.lt_size ho
 obtain ⟨d0, d1, d2, d3, d4, d5⟩ := fD
 let h1 := s.heap.update D (Obj.mapSeq fun _ => (#[] : Array Value))
 obtain ⟨e1, ho1⟩ : ∃ e1, h1.get? D = some (seqObj "list" #[] e1) := ⟨_, get?_update_seq ho fun _ => #[]⟩
 have I1 : Inv X pins σ H { s with heap := h1 } := I.turned (t' := s.toks) (fun b o nb e => (Heap.get?_update_other _ _ (Ne.symm nb)).trans e) d0 d1 d3 d4 d5
 let h2 := h1.push (seqObj "tuple" (as.map Value.ref).toArray 0)
 have I3 : Inv X pins σ H { s with heap := h2.push (seqObj "list" #[] 0) } := I1.kept (t' := s.toks) fun b o e => few_in e _ _
 have ho3 : (h2.push (seqObj "list" #[] 0)).get? D = some (seqObj "list" #[] e1) := few_in ho1 _ _
 have hk3 : (h2.push (seqObj "list" #[] 0)).get? h2.objs.size = some (seqObj "list" ((([] : List Addr)).map Value.ref).toArray 0) := Heap.get?_push_size _ rfl
 have lk : s.heap.objs.size <= h2.objs.size := by
  show _ <= (h1.push _).objs.size
  rw [size_push']
  show _ <= (s.heap.update D _).objs.size + 1
  rw [Heap.size_update]
  exact Nat.le_succ _
 have fk : FpOk X pins H h2.objs.size := I.fpOk lk (I.hok.fresh lk)
 have ne : h2.objs.size ≠ D := Nat.ne_of_gt (Nat.lt_of_lt_of_le lD lk)
 unfold ksk_tree
 refine wpAny_bind (listItems_at ho rfl ?_)
 refine wpAny_bind (listUpdate_at ho rfl ?_ (by rw [List.size_toArray, sizeLine_eq]; lia) (Nat.zero_le _))
 refine wpAny_bind (seqEpoch_at ho1 rfl ?_)
 refine wpAny_bind (wpAny_newTuple ?_ (by show (as.map Value.ref).length <= _; rw [sizeLine_eq]; lia))
 refine wpAny_bind (wpAny_newList ?_ (Nat.zero_le _))
 refine wpAny_holding ?_
 show wpAny (model X.prog X.w) X.A.in1.in1 (ksk_rest D (.ref f) false (as.map Value.ref).toArray e1 (.ref h2.objs.size)) R E { s with heap := h2.push (seqObj "list" #[] 0) }
 unfold ksk_rest
 refine wpAny_bind (wpAny_rule ?_)
 rw [List.forIn_toArray]
 refine wpAny_bind (keys_go F hr hb ne (fun x s0 C Qy hx hC => ?_) as ts H [] 0 _ I3 T hk3 ho3 fk ⟨d0, d1, d2, d3, d4, d5⟩ (by simp; lia) fun H2 κs c2 s2 I2 gg K2 eS eD f1 f2 => ?_)
 ·refine wpAny_bind (wpAny_attempt (wpAny_mono hx (fun k s' hk => ?_) fun _ _ z => z.elim))
  obtain ⟨its, c, e, l, qy⟩ := hC k s' hk
  refine wpAny_bind (listUpdate_at e rfl ?_ (by rw [sizeLine_eq]; lia) (by show (its.push k).size <= _; rw [Array.size_push, sizeLine_eq]; lia))
  exact wpAny_pure ⟨rfl, qy⟩
 rw [List.nil_append] at eS
 have lκ : (κs.map Value.ref).length = (as.map Value.ref).length := by rw [List.length_map, lv, K2.l1]
 refine wpAny_bind (listItems_at eS rfl ?_)
 have fin : ∀ (st : SortSt) (p : Array Nat), Arr ts.length p -> SUp (fun i => rankOf (byKey g) ts (ts.getD i [])) p ts.length -> (arrOf st).map (·.2) = (picked (as.map Value.ref) p).toArray -> failedOf st = none ->
   wpAny (model X.prog X.w) X.A.in1.in1 (ksk_tail D false e1 (.ref h2.objs.size) st) R E s2 := fun st p ar up hout hf => by
  have sz : (picked (as.map Value.ref) p).toArray.size = ts.length := by
   rw [List.size_toArray, List.length_map, Array.length_toList, ar.size]
  unfold ksk_tail
  try dsimp only
  rw [hout]
  have I4 : Inv X pins σ H2 { s2 with heap := s2.heap.update h2.objs.size (Obj.mapSeq fun _ => (#[] : Array Value)) } := by
   obtain ⟨w0, w1, w2, w3, w4, w5⟩ := f1
   exact I2.turned (t' := s2.toks) (fun b o nb e => (Heap.get?_update_other _ _ (Ne.symm nb)).trans e) w0 w1 w3 w4 w5
  have eD4 : (s2.heap.update h2.objs.size (Obj.mapSeq fun _ => (#[] : Array Value))).get? D = some (seqObj "list" #[] e1) := (Heap.get?_update_other _ _ ne).trans eD
  obtain ⟨c5, hc5⟩ : ∃ c5, ((s2.heap.update h2.objs.size (Obj.mapSeq fun _ => (#[] : Array Value))).update D (Obj.mapSeq fun _ => (picked (as.map Value.ref) p).toArray)).get? D = some (seqObj "list" (picked (as.map Value.ref) p).toArray c5) := ⟨_, get?_update_seq eD4 fun _ => (picked (as.map Value.ref) p).toArray⟩
  refine wpAny_bind (listUpdate_at eS rfl ?_ (by rw [List.size_toArray, sizeLine_eq]; lia) (Nat.zero_le _))
  refine wpAny_bind (wpAny_letGo ?_)
  refine wpAny_bind (seqEpoch_at eD4 rfl ?_)
  refine wpAny_bind (listUpdate_at eD4 rfl ?_ (Nat.zero_le _) (by show (picked (as.map Value.ref) p).toArray.size <= _; rw [sz, sizeLine_eq]; lia))
  rw [hf]
  simp only [bne_self_eq_false, Bool.false_eq_true, if_false]
  refine wpAny_pure (q H2 p _ c5 ?_ gg ar up hc5 f2)
  obtain ⟨w0, w1, w2, w3, w4, w5⟩ := f2
  exact I4.turned (t' := s2.toks) (fun b o nb e => (Heap.get?_update_other _ _ (Ne.symm nb)).trans e) w0 w1 w3 w4 w5
 unfold ksk_end
 simp only [Bool.false_eq_true, if_false]
 by_cases h2' : 2 <= ts.length
 ·have n2 : ¬ (as.map Value.ref).toArray.size < 2 := by rw [List.size_toArray]; lia
  rw [if_neg n2, if_neg n2]
  have To := total_key g ts
  have inj := rank_inj (d := ([] : List Nat)) To nd
  refine wpAny_bind (wpAny_mono (ask_keys (A := X.A.in1.in1) (by show X.A.units + 1 + 1 + 8 < cLine; lia) I2 (by lia) K2) (fun κ s0 hk => ?_) fun _ _ x => x.elim)
  obtain ⟨rfl, hk⟩ := hk
  have lκ' : κs.length = ts.length := K2.l1
  have ndκ : (κs.map Value.ref).Nodup := by
   refine List.pairwise_iff_getElem.mpr fun i j hi hj ij z => ?_
   rw [List.getElem_map, List.getElem_map] at z
   rw [List.length_map] at hi hj
   have z := Value.ref.inj z
   have e1 := K2.is i κs[i] (as[i]'(by lia)) (ts[i]'(by lia)) (List.getElem?_eq_getElem hi) (List.getElem?_eq_getElem _) (List.getElem?_eq_getElem _)
   have e2 := K2.is j κs[j] (as[j]'(by lia)) (ts[j]'(by lia)) (List.getElem?_eq_getElem hj) (List.getElem?_eq_getElem _) (List.getElem?_eq_getElem _)
   obtain ⟨e1, e1'⟩ := e1
   obtain ⟨e2, e2'⟩ := e2
   rw [z, e2] at e1
   have ea : as[j]'(by lia) = as[i]'(by lia) := by
    have y := Option.some.inj e1
    injection y with y
    injection y with _ y
    injection y with y
    exact V.ref.inj y
   rw [ea] at e2'
   have et : ts[j]'(by lia) = ts[i]'(by lia) := by
    have y := Option.some.inj (e2'.symm.trans e1')
    injection y with y
    exact (List.map_inj_right (f := nv) fun a b h => Int.ofNat.inj (V.int.inj h)).mp y
   have e4 := (List.getElem?_inj (i := j) (j := i) (by lia) nd).mp (by rw [List.getElem?_eq_getElem (by lia), List.getElem?_eq_getElem (by lia), et])
   lia
  refine wpAny_bind (wpAny_mono (any_run (ks := κs.map Value.ref) (vs := as.map Value.ref) (k := fun i => rankOf (byKey g) ts (ts.getD i [])) (Q := fun st' s' => s' = s0 /\ ∃ p : Array Nat, Arr ts.length p /\ SUp (fun i => rankOf (byKey g) ts (ts.getD i [])) p ts.length /\ (arrOf st').map (·.2) = (picked (as.map Value.ref) p).toArray /\ failedOf st' = none) lκ (by lia) ndκ (by rw [lv]; exact inj) (fun i j C li lj hC => hk i j C (by lia) (by lia) (by
   have e := To.asks (getD_in (d := ([] : List Nat)) (show i < ts.length by lia)).2 (getD_in (d := ([] : List Nat)) (show j < ts.length by lia)).2
   show C (byKey g (ts.getD i []) (ts.getD j [])) _
   rw [<- e]
   exact hC)) fun p st' a1 a2 a3 a4 => ⟨rfl, p, by rw [<- lv]; exact a1, by rw [<- lv]; exact a2, a3, a4⟩) ?_ fun _ _ x => x)
  rintro ⟨⟨⟩, st⟩ s' ⟨rfl, p, ar, up, hout, hf⟩
  exact fin st p ar up hout hf
 ·have n2 : (as.map Value.ref).toArray.size < 2 := by rw [List.size_toArray]; lia
  rw [if_pos n2, if_pos n2]
  refine wpAny_bind (wpAny_pure (wpAny_bind (wpAny_pure ?_)))
  refine fin _ (List.range ts.length).toArray (Array.Perm.refl _) (fun x y xy yn => by lia) ?_ rfl
  rw [<- lv, picked_range]
  exact zip_snd lκ
end
section
variable {X : Cx} {pins : List (Addr × Obj)} {σ : St} {H : Hp} {s : Shared} {d : Addr} {kvs : List (List Key × V)} {ts : List (List Nat)}
theorem dict_keys (I : Inv X pins σ H s) (h : H d = some (.dT kvs)) (e : kvs.map (·.1) = ts.map nk) : ∃ as es ep, Lies s.heap d es ep /\ (d == sysModules) = false /\ TupsAt H as ts /\ (∀ (i : Nat) (en : DictEntry), es[i]? = some en -> ∃ a, as[i]? = some a /\ en.key = .ref a) /\ es.size = ts.length /\ ts.Nodup /\ ts.length <= sizeLine := by
 obtain ⟨z, nm, ys, rel, o, es, ep, e1, e2, e3, e4, nd⟩ := (show ObjOk X.prog X.w H s.heap d (.dT kvs) from I.hok d _ h)
 have l1 : kvs.length = ys.length := Paired.length rel
 have l2 : kvs.length = ts.length := by rw [<- List.length_map (f := (·.1)) (as := kvs), e, List.length_map]
 have le : es.size = ys.length := size_of_entries e4
 have at1 : ∀ (i : Nat) (t : List Nat), ts[i]? = some t -> ∃ k v y u, kvs[i]? = some (k, v) /\ ys[i]? = some (k, y, u) /\ k = nk t /\ H y = some (.tup (t.map nv)) := fun i t et => by
  have li := (List.getElem?_eq_some_iff.mp et).1
  obtain ⟨⟨k, v⟩, ek⟩ : ∃ p, kvs[i]? = some p := ⟨_, List.getElem?_eq_getElem (by lia)⟩
  obtain ⟨⟨k', y, u⟩, ey, p1, p2, p3⟩ := paired_at rel ek
  have kk : k = nk t := by
   have z1 : (kvs.map (·.1))[i]? = some k := by rw [List.getElem?_map, ek]; rfl
   rw [e, List.getElem?_map, et] at z1
   exact (Option.some.inj z1).symm
  have p1' : k = k' := p1
  subst p1'
  refine ⟨k, v, y, u, ek, ey, kk, ?_⟩
  have p2' : H y = some (.tup (k.map kV)) := p2
  rw [kk, nk_kV] at p2'
  exact p2'
 refine ⟨ys.map (·.2.1), es, ep, ⟨o, e1, e2, e3⟩, nm, ⟨by rw [List.length_map]; lia, fun i b t eb et => ?_⟩, fun i en ee => ?_, by lia, ?_, by lia⟩
 ·obtain ⟨k, v, y, u, _, ey, _, hy⟩ := at1 i t et
  rw [List.getElem?_map, ey] at eb
  cases eb
  exact hy
 ·rw [entry_at e4] at ee
  obtain ⟨q, eq, rfl⟩ := Option.map_eq_some_iff.mp ee
  exact ⟨q.2.1, by rw [List.getElem?_map, eq]; rfl, rfl⟩
 ·have z1 : (ys.map (·.1)) = ts.map nk := by
   rw [<- e]
   refine List.ext_getElem? fun i => ?_
   rw [List.getElem?_map, List.getElem?_map]
   cases ek : kvs[i]? with
   | none => rw [List.getElem?_eq_none (by rw [<- l1]; exact List.getElem?_eq_none_iff.mp ek)]; rfl
   | some p =>
    obtain ⟨q, ey, p1, _⟩ := paired_at rel ek
    rw [ey]
    exact congrArg some p1.symm
  rw [z1] at nd
  exact (List.pairwise_map.mp nd).imp fun h z => h (congrArg nk z)
theorem keys_items {as : List Addr} {es : Array DictEntry} {acc : Array Value} (is : ∀ (i : Nat) (en : DictEntry), es[i]? = some en -> ∃ a, as[i]? = some a /\ en.key = .ref a) (ln : as.length = es.size) (it : ItemsOf (fun i v => ∃ en, es[i]? = some en /\ v = en.key) acc es.size) : acc.toList = as.map Value.ref := by
 refine List.ext_getElem? fun i => ?_
 by_cases h : i < es.size
 ·obtain ⟨v, ev⟩ : ∃ v, acc[i]? = some v := ⟨_, Array.getElem?_eq_getElem (by rw [it.1]; exact h)⟩
  obtain ⟨en, e1, e2⟩ := it.2 i v ev
  obtain ⟨a, ea, ek⟩ := is i en e1
  rw [Array.getElem?_toList, ev, List.getElem?_map, ea, e2, ek]
  rfl
 ·rw [List.getElem?_eq_none (by rw [Array.length_toList, it.1]; lia), List.getElem?_eq_none (by rw [List.length_map]; lia)]
theorem vals_of_refs : ∀ l : List Addr, Vals (l.map V.ref) (l.map Value.ref)
 | [] => .nil
 | x :: l => .cons rfl (vals_of_refs l)
end
section
variable {X : Cx}
def rSortK (g : List Nat -> Int) : List V -> Hp -> VK -> Prop := fun xs H Q => ∃ d kvs ts, xs = [V.ref d] /\ H d = some (.dT kvs) /\ kvs.map (·.1) = ts.map nk /\ ts.length < 64 /\
 ∀ D bs us H', Same H H' -> H D = none -> H' D = some (.lst (bs.map V.ref)) -> TupsAt H' bs us -> us.Perm ts -> us.Pairwise (fun x y => byKey g x y = true) -> Q (.ref D) H'
theorem picked_refs {as : List Addr} {p : Array Nat} (ar : Arr as.length p) : picked (as.map Value.ref) p = (p.toList.map fun i => as.getD i 0).map Value.ref := by
 unfold picked
 rw [List.map_map]
 refine List.map_congr_left fun i hi => ?_
 have li : i < as.length := by
  have m := (Array.perm_iff_toList_perm.mp ar).mem_iff.mp hi
  simpa using m
 show (as.map Value.ref).getD i Value.none = Value.ref (as.getD i 0)
 rw [List.getD_eq_getElem?_getD, List.getD_eq_getElem?_getD, List.getElem?_map, List.getElem?_eq_getElem li]
 rfl
theorem sorted_keyed {kk : Nat} {f : Addr} {fd : FuncData} {ps : List Str} {g : List Nat -> Int} {pins : List (Addr × Obj)} {σ : St} {H : Hp} {s : Shared} {Q : VK} {d : Addr} (hc : X.calm = true) (hu : X.A.units + 64 < cLine) (F : FnOk X.prog X.w X.K X.mg X.base CX0 kk f fd ps (spKey g)) (hr : Room kk X.A.in1.in1) (hb : Binds X.K fd ps []) (I : Inv X pins σ H s)
  (h : rSortK g [.ref d] H Q) : wpAny (model X.prog X.w) X.A (call (.builtin "sorted") [.ref d] [(Str.ofString "key", .ref f)]) (EP X pins σ Q) X.xe s := by
 obtain ⟨d', kvs, ts, e0, hd, e, h64, q⟩ := h
 cases e0
 obtain ⟨as, es, ep, L, nm, T, is, le, nd, fit⟩ := dict_keys I hd e
 refine call_function_entry_kw kind_sorted plain_sorted entry_sorted (ksk_s1 _ _) ?_
 unfold Builtin.«sorted»
 refine wpAny_bind (m := checkCount "sorted" 1 1 _) (wpAny_pure ?_)
 refine wpAny_bind (kdu_collect (A := X.A.in1) (srcK nm) (by simpa using I.ok.hd hc) L (by lia) fun h1 tk acc keep it => ?_)
 have ea := keys_items is (by rw [T.len, le]) it
 rw [ea]
 have I1 : Inv X pins σ H { s with heap := h1, toks := tk } := I.kept keep
 refine wpAny_bind (wpAny_newList ?_ (by rw [List.length_map, T.len, sizeLine_eq]; lia))
 have eD : (h1.push (seqObj "list" (as.map Value.ref).toArray 0)).get? h1.objs.size = some (seqObj "list" (as.map Value.ref).toArray 0) := Heap.get?_push_size _ rfl
 have I2 : Inv X pins σ H { s with heap := h1.push (seqObj "list" (as.map Value.ref).toArray 0), toks := tk } := I1.kept (t' := tk) fun b o z => Heap.get?_push_of_some _ z
 have hD : H h1.objs.size = none := I1.hok.fresh (Nat.le_refl _)
 have fD : FpOk X pins H h1.objs.size := I1.fpOk (Nat.le_refl _) hD
 refine wpAny_bind (wpAny_holding (wpAny_call_entry_kw slot_list_sort ⟨_, eD, rfl⟩ entry_list_sort (sort_keyed (s := { s with heap := h1.push (seqObj "list" (as.map Value.ref).toArray 0), toks := tk }) F hr hb hu I2 T nd h64 eD fD fun H2 p s2 c Iz gg ar up e2 f2 => ⟨_, rfl, ?_⟩) (ksk_l1 _ _)))
 have arA : Arr as.length p := by rw [T.len]; exact ar
 rw [picked_refs arA] at e2
 have T2 := (T.same gg).pick ar
 obtain ⟨w0, w1, w2, w3, w4, w5⟩ := f2
 have few : ((p.toList.map fun i => as.getD i 0).map V.ref).length <= sizeLine := by
  rw [List.length_map, List.length_map, Array.length_toList, ar.size]
  exact fit
 have I5 := Iz.track (o := .lst ((p.toList.map fun i => as.getD i 0).map V.ref)) w0 ⟨few, _, c, vals_of_refs _, e2⟩ (Nat.le_trans I1.sz (Nat.le_refl _)) w1 w4 w5
 have k5 := same_new w0 (.lst ((p.toList.map fun i => as.getD i 0).map V.ref))
 exact wpAny_pure ⟨_, rfl, .ref h1.objs.size, _, I5, rfl, q _ _ _ _ (gg.trans k5) hD upd_same (T2.same k5) (arr_perm ar) (sorted_pairs (total_key g ts) ar up)⟩
def tSortK (g : List Nat -> Int) (te : TE) : TE := fun σ H Q => te σ H fun x H1 => ∃ d, x = .ref d /\ rSortK g [.ref d] H1 Q
theorem pe_sortK {kk : Nat} {ps : List Str} {g : List Nat -> Int} {fx : Str} {e : Expr} {te : TE} {p p2 kp pos : Pos} (hc : X.calm = true) (hu : X.A.units + 64 < cLine) (cl : Callee X.prog X.w X.K X.mg X.base fx kk ps (spKey g)) (hr : Room (kk + 2) X.A) (hg : Gl X "sorted") (hm : X.mg "sorted" = none) (hgf : Gl X fx) (he : PE X e te)
  (hdf : (fx == ("__debug__" : Str)) = false := by decide) (hs : starEach [e] X.env = [(false, eval e X.env)] := by rfl) : PE X (.Call (.Name "sorted" p) [e] [⟨some "key", .Name fx p2, kp⟩] pos) (tSortK g te) := by
 intro pins s σ H Q I h
 obtain ⟨f, fd, F, hmf, hk, hb⟩ := cl
 refine wpAny_Call_Name_kw (ld_blt I hg hm boot_sorted ?_)
 refine callWith_kw ?_ (by rw [hs]; rfl) (by rw [hs]; rfl)
 have ha : PA X [e] (tCons te tNil) := pa_cons he pa_nil hs
 refine thn (ha pos pins s σ H (fun vs H1 => match vs with | [x] => ∃ d, x = .ref d /\ rSortK g [.ref d] H1 Q | _ => False) I h) fun us s1 ⟨vs, H1, I1, r, q⟩ => ?_
 match vs, r, q with
 | [x], r, q =>
  obtain ⟨d, rfl, q⟩ := q
  obtain ⟨u, rfl, ru⟩ := vals1 r
  cases ru
  refine kws_cons (ld_glob I1 hgf hmf (kws_nil ?_) hdf)
  exact sorted_keyed hc hu F hr.in1.in1 hb I1 q
end
end L2
namespace L2
open PySem PySem.Spec PyProof.Rows
section
variable {X : Cx} {pins : List (Addr × Obj)} {σ : St} {H : Hp} {s : Shared} {d : Addr} {kvs : List (List Key × V)} {ts : List (List Nat)} {o : Obj}
theorem Inv.freeze (I : Inv X pins σ H s) (h : H d = some (.dT kvs)) (e : s.heap.get? d = some o) : Inv X pins σ (upd H d (.frz o (.dT kvs))) s := by
 obtain ⟨z, nm, ys, rel, o', es, ep, e1, e2, e3, e4, nd⟩ := (show ObjOk X.prog X.w H s.heap d (.dT kvs) from I.hok d _ h)
 refine I.write (x := d) (e := d) (h' := s.heap) (t' := s.toks) (by rw [h]; exact True.intro) (.inl rfl) (fun _ _ _ q => q) ⟨o, e⟩ ⟨e, z, nm, ys, Paired.mapP rel fun p q r => ⟨r.1, ?_, r.2.2⟩, o', es, ep, e1, e2, e3, e4, nd⟩
 rw [upd_ne (ne_of r.2.1 h fun z => nomatch z)]
 exact r.2.1
theorem frz_keys (I : Inv X pins σ H s) (h : H d = some (.frz o (.dT kvs))) (e : kvs.map (·.1) = ts.map nk) : ∃ as es ep, s.heap.get? d = some o /\ o.ExactDict /\ o.data = .dict es ep /\ (d == sysModules) = false /\ TupsAt H as ts /\ (∀ (i : Nat) (en : DictEntry), es[i]? = some en -> ∃ a, as[i]? = some a /\ en.key = .ref a) /\ es.size = ts.length := by
 obtain ⟨e0, z, nm, ys, rel, o', es, ep, e1, e2, e3, e4, nd⟩ := (show ObjOk X.prog X.w H s.heap d (.frz o (.dT kvs)) from I.hok d _ h)
 rw [e0] at e1
 cases e1
 have l1 : kvs.length = ys.length := Paired.length rel
 have l2 : kvs.length = ts.length := by rw [<- List.length_map (f := (·.1)) (as := kvs), e, List.length_map]
 have le : es.size = ys.length := size_of_entries e4
 refine ⟨ys.map (·.2.1), es, ep, e0, e2, e3, nm, ⟨by rw [List.length_map]; lia, fun i b t eb et => ?_⟩, fun i en ee => ?_, by lia⟩
 ·have li := (List.getElem?_eq_some_iff.mp et).1
  obtain ⟨⟨k, v⟩, ek⟩ : ∃ p, kvs[i]? = some p := ⟨_, List.getElem?_eq_getElem (by lia)⟩
  obtain ⟨⟨k', y, u⟩, ey, p1, p2, p3⟩ := paired_at rel ek
  have kk : k = nk t := by
   have z1 : (kvs.map (·.1))[i]? = some k := by rw [List.getElem?_map, ek]; rfl
   rw [e, List.getElem?_map, et] at z1
   exact (Option.some.inj z1).symm
  rw [List.getElem?_map, ey] at eb
  cases eb
  have p2' : H y = some (.tup (k.map kV)) := p2
  rw [kk, nk_kV] at p2'
  exact p2'
 ·rw [entry_at e4] at ee
  obtain ⟨q, eq, rfl⟩ := Option.map_eq_some_iff.mp ee
  exact ⟨q.2.1, by rw [List.getElem?_map, eq]; rfl, rfl⟩
end
def Itd (d : Addr) (o : Obj) : It :=
  ⟨fun i H => ∃ (kvs : List (List Key × V)) (ts : List (List Nat)) (t : List Nat), H d = some (.frz o (.dT kvs)) /\ kvs.map (·.1) = ts.map nk /\ ts[i]? = some t,
   fun i H x H' => H' = H /\ ∃ a, x = .ref a /\ ∀ (kvs : List (List Key × V)) (ts : List (List Nat)), H d = some (.frz o (.dT kvs)) -> kvs.map (·.1) = ts.map nk -> ∃ t : List Nat, ts[i]? = some t /\ H a = some (.tup (t.map nv)),
   fun i H => ∃ kvs, ∃ ts : List (List Nat), H d = some (.frz o (.dT kvs)) /\ kvs.map (·.1) = ts.map nk /\ ts.length <= i⟩
theorem nks_inj {ts us : List (List Nat)} (h : ts.map nk = us.map nk) : ts = us := map_inj (fun a b e => nk_inj e) h
theorem turn_dict {P : Program} {w : World} {K : W.Frag} {tg : Expr} {d it : Addr} {o : Obj} {es : Array DictEntry} {ep : Nat} (ne : d ≠ it) (od : o.data = .dict es ep) (ox : o.ExactDict) : Turn P w K tg (Itd d o) [it] it (fun i h => h.get? it = some (stepObj d i es.size ep)) where
 mem := by simp
 obj := fun i h st b hb => by
  have e : b = it := by simpa using hb
  subst e
  exact ⟨_, st, fun v z => by
   have z' : Data.fields _ = Data.cell v := z
   cases z'⟩
 keep := fun i h h' st k => k it (by simp) _ st
 item := by
  intro X hP hw hK hc i pins s σ H E I hf st hg
  subst hP hw hK
  obtain ⟨kvs, ts, t, h1, h2, h3⟩ := hg
  obtain ⟨as, es', ep', e1, e2, e3, nm, T, is, le⟩ := frz_keys I h1 h2
  rw [od] at e3
  cases e3
  obtain ⟨f0, f1, f2, f3, f4, f5⟩ := hf it (by simp)
  have li := (List.getElem?_eq_some_iff.mp h3).1
  obtain ⟨en, ee⟩ : ∃ en, es[i]? = some en := ⟨_, Array.getElem?_eq_getElem (by lia)⟩
  obtain ⟨a, ea, ek⟩ := is i en ee
  refine keys_item st ⟨o, e1, ox, od⟩ ee fun h' st' sb => ?_
  have I1 : Inv X pins σ H { s with heap := h' } := I.turned (t' := s.toks) (fun b o hb e => (sb.2 b hb).trans e) f0 f1 f3 f4 f5
  refine ⟨_, rfl, go_of (s := { s with heap := h' }) (n := "dict_keyiterator") st' rfl rfl (by decide) ⟨.ref a, H, I1, ek, ⟨rfl, a, rfl, fun kvs' ts' g1 g2 => ?_⟩, st', fun b hb => (hf b hb).1⟩⟩
  rw [h1] at g1
  cases g1
  have tt := nks_inj (h2.symm.trans g2)
  subst tt
  exact ⟨t, h3, T.is i a t ea h3⟩
 done := by
  intro X hP hw hK hc i pins s σ H E I hf st hg
  subst hP hw hK
  obtain ⟨kvs, ts, h1, h2, h3⟩ := hg
  obtain ⟨as, es', ep', e1, e2, e3, nm, T, is, le⟩ := frz_keys I h1 h2
  rw [od] at e3
  cases e3
  obtain ⟨f0, f1, f2, f3, f4, f5⟩ := hf it (by simp)
  exact keys_end (I.ok.hd hc) st ⟨o, e1, ox, od⟩ (Array.getElem?_eq_none (by lia)) fun h' eb => ⟨rfl, I.turned (t' := s.toks) (fun b o hb e => eb b o hb e) f0 f1 f3 f4 f5⟩
 self := fun _ i s Q E st q => by
  have ty : s.TypeIs (.ref it) "dict_keyiterator" := ⟨_, st, rfl⟩
  refine wpAny_pyIter_slot ty F.slot_dict_keyiterator_iter (wpAny_call_entry F.slot_dict_keyiterator_iter ty F.entry_dict_keyiterator_iter ?_ (F.args_dict_keyiterator_iter_1 _))
  exact show wpAny _ _ (ret (.ref it)) _ _ s from wpAny_pure ⟨_, rfl, "dict_keyiterator", _, ty, F.slot_dict_keyiterator_next.lookup, q⟩
section
variable {X : Cx} {tg : Expr}
def Frozen (H : Hp) (d : Addr) (o : Obj) (kvs : List (List Key × V)) (H2 : Hp) : Prop := (H d = some (.frz o (.dT kvs)) /\ H2 = H) ∨ (H d = some (.dT kvs) /\ H2 = upd H d (.frz o (.dT kvs)))
def iDict (td : TE) : TI := fun σ H R => td σ H fun x H1 => ∃ d kvs, ∃ ts : List (List Nat), x = .ref d /\ kvs.map (·.1) = ts.map nk /\ (H1 d = some (.dT kvs) ∨ ∃ o, H1 d = some (.frz o (.dT kvs))) /\ ∀ o H2, Frozen H1 d o kvs H2 -> R (Itd d o) H2
theorem pi_dict {l : Expr} {tl : TE} (hl : PE X l tl) : PI X tg l (iDict tl) := by
 intro pins s σ H R I h
 refine thn (hl pins s σ H _ I h) fun v s1 ⟨x, H1, I1, r1, q1⟩ => ?_
 obtain ⟨d, kvs, ts, e, ek, w, q⟩ := q1
 subst e
 cases r1
 have go : ∀ (H2 : Hp) (o : Obj), Inv X pins σ H2 s1 -> H2 d = some (.frz o (.dT kvs)) -> R (Itd d o) H2 -> wpAny (model X.prog X.w) X.A (pyIter (.ref d)) (PIE X pins σ tg R) X.xe s1 := fun H2 o I2 hd r => by
  obtain ⟨as, es, ep, e1, e2, e3, nm, T, is, le⟩ := frz_keys I2 hd ek
  refine keys_iter nm ⟨o, e1, e2, e3⟩ ?_
  refine ⟨s1.heap.objs.size, [s1.heap.objs.size], _, _, H2, rfl, I2.kept (t' := s1.toks) fun b o e => Heap.get?_push_of_some _ e, turn_dict (Nat.ne_of_lt (Heap.lt_size e1)) e3 e2, Heap.get?_push_size _ rfl, fun b hb => ?_, r⟩
  have e : b = s1.heap.objs.size := by simpa using hb
  subst e
  exact I2.fpOk (Nat.le_refl _) (I2.hok.fresh (Nat.le_refl _))
 rcases w with hd | ⟨o, hd⟩
 ·obtain ⟨_, _, _, _, o, _, _, e1, _⟩ := (show ObjOk X.prog X.w H1 s1.heap d (.dT kvs) from I1.hok d _ hd)
  exact go _ o (I1.freeze hd e1) upd_same (q o _ (.inr ⟨hd, rfl⟩))
 ·exact go H1 o I1 hd (q o _ (.inl ⟨hd, rfl⟩))
end
section
variable {d : Addr} {o : Obj} {kvs : List (List Key × V)} {ts : List (List Nat)} {vs : List Str} {g : TG} {tt : TT} {te : TE} {σ : St} {H : Hp} {Fin : List V -> Hp -> Prop}
theorem comp_dict (hk : kvs.map (·.1) = ts.map nk) (Pv : Nat -> List V -> Hp -> Prop) (hz : ts.length <= sizeLine) (h0 : Pv 0 [] H) (hl : ∀ i ys H, i <= ts.length -> Pv i ys H -> H d = some (.frz o (.dT kvs)) /\ ys.length <= i)
  (hs : ∀ i a t ys H, ts[i]? = some t -> H a = some (.tup (t.map nv)) -> Pv i ys H -> g (.ref a) (compSt vs σ) H fun σ2 H2 => Keep0 (compSt vs σ) σ2 /\ tt σ2 H2 fun b H3 => if b = true then te σ2 H3 fun y H4 => Pv (i + 1) (ys ++ [y]) H4 else Pv (i + 1) ys H3)
  (hd : ∀ ys H, Pv ts.length ys H -> Fin ys H) : CompW vs g tt te σ (Itd d o) H Fin := by
 refine ⟨fun i m ys H => m = ts.length - i /\ i <= ts.length /\ Pv i ys H, ⟨ts.length, by simp, Nat.zero_le _, h0⟩, ?_⟩
 rintro i m ys H ⟨rfl, hi, p⟩
 obtain ⟨q, hy⟩ := hl i ys H hi p
 by_cases hlt : i < ts.length
 ·refine .inr ⟨⟨kvs, ts, ts[i], q, hk, by simp [hlt]⟩, by lia, Pv (i + 1), fun zs H' p' => ⟨ts.length - (i + 1), by lia, rfl, hlt, p'⟩, fun v H' y => ?_⟩
  obtain ⟨e, a, ea, y⟩ := y
  subst e ea
  obtain ⟨t, et, ha⟩ := y kvs ts q hk
  exact hs i a t ys _ et ha p
 ·have e : i = ts.length := by lia
  subst e
  exact .inl ⟨⟨kvs, ts, q, hk, Nat.le_refl _⟩, by lia, hd ys H p⟩
end
section
variable {d : Addr} {o : Obj} {kvs : List (List Key × V)} {ts : List (List Nat)} {g : TG} {tb : TS} {D : Ends} {σ : St} {H : Hp}
theorem for_dict (hk : kvs.map (·.1) = ts.map nk) (Pv : Nat -> St -> Hp -> Prop) (h0 : Pv 0 σ H) (hl : ∀ i σ H, i <= ts.length -> Pv i σ H -> H d = some (.frz o (.dT kvs)))
  (hs : ∀ i a t σ H, ts[i]? = some t -> H a = some (.tup (t.map nv)) -> Pv i σ H -> g (.ref a) σ H fun σ2 H2 => tb { D with nx := Pv (i + 1), ct := Pv (i + 1), bk := D.nx } σ2 H2) (hd : ∀ σ H, Pv ts.length σ H -> D.nx σ H) :
  ∃ W : Nat -> Nat -> St -> Hp -> Prop, (∃ m, W 0 m σ H) /\ ∀ i m σ H, W i m σ H ->
   ((Itd d o).stop i H /\ D.nx σ H) ∨ ((Itd d o).go i H /\ ∃ N : St -> Hp -> Prop, (∀ σ' H', N σ' H' -> ∃ m', m' < m /\ W (i + 1) m' σ' H') /\ ∀ x H', (Itd d o).yld i H x H' -> g x σ H' fun σ2 H2 => tb { D with nx := N, ct := N, bk := D.nx } σ2 H2) := by
 refine ⟨fun i m σ H => m = ts.length - i /\ i <= ts.length /\ Pv i σ H, ⟨ts.length, by simp, Nat.zero_le _, h0⟩, ?_⟩
 rintro i m σ H ⟨rfl, hi, p⟩
 have q := hl i σ H hi p
 by_cases hlt : i < ts.length
 ·refine .inr ⟨⟨kvs, ts, ts[i], q, hk, by simp [hlt]⟩, Pv (i + 1), fun σ' H' p' => ⟨ts.length - (i + 1), by lia, rfl, hlt, p'⟩, fun x H' y => ?_⟩
  obtain ⟨e, a, ea, y⟩ := y
  subst e ea
  obtain ⟨t, et, ha⟩ := y kvs ts q hk
  exact hs i a t σ _ et ha p
 ·have e : i = ts.length := by lia
  subst e
  exact .inl ⟨⟨kvs, ts, q, hk, Nat.le_refl _⟩, hd σ H p⟩
end
open PySem PySem.Spec PySem.W PyProof.Rows
section
variable {X : Cx}
def rSortD : List V -> Hp -> VK -> Prop := fun xs H Q => ∃ d kvs ts, xs = [V.ref d] /\ H d = some (.dT kvs) /\ kvs.map (·.1) = ts.map nk /\ (∀ t ∈ ts, t ≠ []) /\ ts.length <= 4000 /\
 ∀ D bs us, H D = none -> TupsAt H bs us -> us.Perm ts -> us.Pairwise (fun x y => ltl x y = true) -> Q (.ref D) (upd H D (.lst (bs.map V.ref)))
theorem call_sortD (hc : X.calm = true) : CallR X (.builtin "sorted") rSortD := by
 intro pins s σ H xs us Q I rr h
 obtain ⟨d, kvs, ts, rfl, hd, e, ne, few, q⟩ := h
 obtain ⟨u, rfl, ru⟩ := vals1 rr
 cases ru
 obtain ⟨as, es, ep, L, nm, at0, is, le, nd, fit⟩ := dict_keys I hd e
 refine Calls.call_function_entry kind_sorted plain_sorted entry_sorted (args_sorted1 _) ?_
 unfold Builtin.«sorted»
 refine wpAny_bind (m := checkCount "sorted" 1 1 _) (wpAny_pure ?_)
 refine wpAny_bind (kdu_collect (A := X.A.in1) (srcK nm) (by simpa using I.ok.hd hc) L (by rw [sizeLine_eq]; lia) fun h1 tk acc keep it => ?_)
 have ea := keys_items is (by rw [at0.len, le]) it
 rw [ea]
 have ln : (as.map Value.ref).length = ts.length := by rw [List.length_map, at0.len]
 refine wpAny_bind (wpAny_newList ?_ (by rw [ln, sizeLine_eq]; lia))
 have T := total_ltl ts
 have inj := rank_inj (d := ([] : List Nat)) T nd
 have nda : (as.map Value.ref).Nodup := by
  refine List.pairwise_iff_getElem.mpr fun i j hi hj ij z => ?_
  rw [List.getElem_map, List.getElem_map] at z
  rw [List.length_map] at hi hj
  have z := Value.ref.inj z
  have la := at0.len
  have e1 := at0.is i as[i] (ts[i]'(by lia)) (List.getElem?_eq_getElem hi) (List.getElem?_eq_getElem _)
  have e2 := at0.is j as[j] (ts[j]'(by lia)) (List.getElem?_eq_getElem hj) (List.getElem?_eq_getElem _)
  rw [z, e2] at e1
  have e3 : ts[j]'(by lia) = ts[i]'(by lia) := by
   have y := Option.some.inj e1
   injection y with y
   rw [nv_ints, nv_ints] at y
   have inj1 : ∀ (l m : List Int), l.map V.int = m.map V.int -> l = m := fun l m h => List.map_inj_right (fun a b h => V.int.inj h) |>.mp h
   have inj2 : ∀ (l m : List Nat), (l.map fun (n : Nat) => (n : Int)) = (m.map fun (n : Nat) => (n : Int)) -> l = m := fun l m h => List.map_inj_right (fun a b h => Int.ofNat.inj h) |>.mp h
   exact inj2 _ _ (inj1 _ _ y)
  have e4 := (List.getElem?_inj (i := j) (j := i) (by lia) nd).mp (by rw [List.getElem?_eq_getElem (by lia), List.getElem?_eq_getElem (by lia), e3])
  lia
 have eD : (h1.push (seqObj "list" (as.map Value.ref).toArray 0)).get? h1.objs.size = some (seqObj "list" (as.map Value.ref).toArray 0) := Heap.get?_push_size _ rfl
 have lt1 : ∀ {b : Addr} {o : Obj}, s.heap.get? b = some o -> b ≠ h1.objs.size := fun z => Nat.ne_of_lt (Heap.lt_size (keep _ _ z))
 refine wpAny_bind (wpAny_holding (wpAny_call_entry slot_list_sort ⟨_, eD, rfl⟩ entry_list_sort (sort_any (s := { s with heap := h1.push (seqObj "list" (as.map Value.ref).toArray 0), toks := tk }) (k := fun i => rankOf ltl ts (ts.getD i [])) eD (by rw [ln]; exact few) nda (fun i j hi hj z => inj i j (by lia) (by lia) z) (fun h' kp h2 => ?_) fun p h' c ar up e kp => ⟨_, rfl, ?_⟩) (args_list_sort _)))
 ·have I1 : Inv X pins σ H { s with heap := h', toks := tk } := I.kept fun b o z => kp b o (lt1 z) (Heap.get?_push_of_some _ (keep b o z))
  have z := ask_tups (P := X.prog) (w := X.w) (A := X.A.in1.in1) (s := { s with heap := h', toks := tk }) ln (by lia) (fun i v t e1 e2 => by
   rw [List.getElem?_map] at e1
   obtain ⟨a, ea, rfl⟩ := Option.map_eq_some_iff.mp e1
   exact ⟨tup_n I1.hok (at0.is i a t ea e2), ne t (List.mem_of_getElem? e2)⟩)
  refine wpAny_mono z (fun κ s' hk => ⟨hk.1, fun i j C li lj hC => hk.2 i j C li lj ?_⟩) fun _ _ x => x
  have e := T.asks (getD_in (d := ([] : List Nat)) (show i < ts.length by lia)).2 (getD_in (d := ([] : List Nat)) (show j < ts.length by lia)).2
  show C (ltl (ts.getD i []) (ts.getD j [])) _
  rw [<- e]
  exact hC
 ·rw [ln] at ar up
  have I1 : Inv X pins σ H { s with heap := h', toks := tk } := I.kept fun b o z => kp b o (lt1 z) (Heap.get?_push_of_some _ (keep b o z))
  have I0 : Inv X pins σ H { s with heap := h1, toks := tk } := I.kept keep
  have hD : H h1.objs.size = none := I0.hok.fresh (Nat.le_refl _)
  have at1 := at0.pick ar
  obtain ⟨f0, f1, f2, f3, f4, f5⟩ := I0.fpOk (b := h1.objs.size) (H' := H) (Nat.le_refl _) hD
  have arA : Arr as.length p := by rw [at0.len]; exact ar
  rw [picked_refs arA] at e
  have fw : ((p.toList.map fun i => as.getD i 0).map V.ref).length <= sizeLine := by
   rw [List.length_map, List.length_map, Array.length_toList, ar.size]
   exact fit
  exact wpAny_pure ⟨_, rfl, .ref h1.objs.size, _, I1.track (o := .lst ((p.toList.map fun i => as.getD i 0).map V.ref)) hD ⟨fw, _, c, vals_of_refs _, e⟩ I0.sz f1 f4 f5, rfl, q _ _ _ hD at1 (arr_perm ar) (sorted_pairs T ar up)⟩
end
end L2
namespace My
open PySem L2 PyProof.Rows
def top (i : Nat) : Stmt := PySem.Challenge.pw_cascade_k43_levels_that_rest.main.body.getD i (.Pass ⟨0, 0, 0, 0⟩)
abbrev sLed : Stmt := top 4
abbrev sRefuseMore : Stmt := top 6
abbrev sReached : Stmt := top 7
abbrev sPlaceOf : Stmt := top 9
abbrev sInOrder : Stmt := top 10
abbrev sLiesIn : Stmt := top 11
abbrev sCarried : Stmt := top 12
abbrev sSetsReached : Stmt := top 13
abbrev sStill : Stmt := top 15
abbrev sBehind : Stmt := top 16
abbrev sPictures : Stmt := top 18
abbrev sFamily : Stmt := top 19
abbrev sIsCovered : Stmt := top 20
abbrev sTiles : Stmt := top 21
abbrev sWordsBetween : Stmt := top 23
abbrev sAlikeSets : Stmt := top 24
abbrev sSetsOfLevels : Stmt := top 25
abbrev sIsLedTo : Stmt := top 26
abbrev sLevelsInOrder : Stmt := top 27
abbrev sLevels : Stmt := top 28
abbrev sTile : Stmt := top 29
abbrev sTilesOfSet : Stmt := top 30
abbrev sTilesTurned : Stmt := top 32
abbrev sAllTilesTurned : Stmt := top 33
abbrev sLevelGroup : Stmt := top 34
abbrev sRests : Stmt := top 35
abbrev sLawCellAt : Stmt := top 37
abbrev sLawTurn : Stmt := top 38
abbrev sLawMachine : Stmt := top 39
abbrev sLawDue : Stmt := top 40
abbrev sLaw : Stmt := top 41
theorem scLed : FnScope ["machine", "room", "word", "letter"] ["machine", "room", "word"] (defScope sLed) := ⟨rfl, rfl, rfl, by decide +kernel, rfl, by decide +kernel, by decide +kernel⟩
theorem scRefuseMore : FnScope ["things", "most"] ["things", "most"] (defScope sRefuseMore) := ⟨rfl, rfl, rfl, by decide +kernel, rfl, by decide +kernel, by decide +kernel⟩
theorem scReached : FnScope ["start", "letters", "step", "most", "words", "wave", "following", "thing", "letter", "found"] ["start", "letters", "step", "most"] (defScope sReached) := ⟨rfl, rfl, rfl, by decide +kernel, rfl, by decide +kernel, by decide +kernel⟩
theorem scPlaceOf : FnScope ["rooms"] ["rooms"] (defScope sPlaceOf) := ⟨rfl, rfl, rfl, by decide +kernel, rfl, by decide +kernel, by decide +kernel⟩
theorem scInOrder : FnScope ["sets", "once", "rooms"] ["sets"] (defScope sInOrder) := ⟨rfl, rfl, rfl, by decide +kernel, rfl, by decide +kernel, by decide +kernel⟩
theorem scLiesIn : FnScope ["one", "other"] ["one", "other"] (defScope sLiesIn) := ⟨rfl, rfl, rfl, by decide +kernel, rfl, by decide +kernel, by decide +kernel⟩
theorem scCarried : FnScope ["machine", "rooms", "word"] ["machine", "rooms", "word"] (defScope sCarried) := ⟨rfl, rfl, rfl, by decide +kernel, rfl, by decide +kernel, by decide +kernel⟩
theorem scSetsReached : FnScope ["machine", "rooms"] ["machine", "rooms"] (defScope sSetsReached) := ⟨rfl, rfl, rfl, by decide +kernel, rfl, by decide +kernel, by decide +kernel⟩
theorem scStill : FnScope ["rooms"] ["rooms"] (defScope sStill) := ⟨rfl, rfl, rfl, by decide +kernel, rfl, by decide +kernel, by decide +kernel⟩
theorem scBehind : FnScope ["one", "other"] ["one", "other"] (defScope sBehind) := ⟨rfl, rfl, rfl, by decide +kernel, rfl, by decide +kernel, by decide +kernel⟩
theorem scPictures : FnScope ["machine", "words"] ["machine"] (defScope sPictures) := ⟨rfl, rfl, rfl, by decide +kernel, rfl, by decide +kernel, by decide +kernel⟩
theorem scFamily : FnScope ["machine", "singles"] ["machine"] (defScope sFamily) := ⟨rfl, rfl, rfl, by decide +kernel, rfl, by decide +kernel, by decide +kernel⟩
theorem scIsCovered : FnScope ["part", "sets"] ["part", "sets"] (defScope sIsCovered) := ⟨rfl, rfl, rfl, by decide +kernel, rfl, by decide +kernel, by decide +kernel⟩
theorem scTiles : FnScope ["machine", "rooms", "within"] ["machine", "rooms"] (defScope sTiles) := ⟨rfl, rfl, rfl, by decide +kernel, rfl, by decide +kernel, by decide +kernel⟩
theorem scWordsBetween : FnScope ["machine", "words", "rooms"] ["machine"] (defScope sWordsBetween) := ⟨rfl, rfl, rfl, by decide +kernel, rfl, by decide +kernel, by decide +kernel⟩
theorem scAlikeSets : FnScope ["words", "rooms"] ["words", "rooms"] (defScope sAlikeSets) := ⟨rfl, rfl, rfl, by decide +kernel, rfl, by decide +kernel, by decide +kernel⟩
theorem scSetsOfLevels : FnScope ["words", "found", "rooms", "sets"] ["words"] (defScope sSetsOfLevels) := ⟨rfl, rfl, rfl, by decide +kernel, rfl, by decide +kernel, by decide +kernel⟩
theorem scIsLedTo : FnScope ["words", "sets", "waiting"] ["words", "sets", "waiting"] (defScope sIsLedTo) := ⟨rfl, rfl, rfl, by decide +kernel, rfl, by decide +kernel, by decide +kernel⟩
theorem scLevelsInOrder : FnScope ["words", "waiting", "told", "free"] ["words", "waiting"] (defScope sLevelsInOrder) := ⟨rfl, rfl, rfl, by decide +kernel, rfl, by decide +kernel, by decide +kernel⟩
theorem scLevels : FnScope ["machine", "words", "told", "sets", "face", "ways"] ["machine"] (defScope sLevels) := ⟨rfl, rfl, rfl, by decide +kernel, rfl, by decide +kernel, by decide +kernel⟩
theorem scTile : FnScope ["machine", "level", "k", "j"] ["machine", "level", "k", "j"] (defScope sTile) := ⟨rfl, rfl, rfl, by decide +kernel, rfl, by decide +kernel, by decide +kernel⟩
theorem scTilesOfSet : FnScope ["machine", "level", "k"] ["machine", "level", "k"] (defScope sTilesOfSet) := ⟨rfl, rfl, rfl, by decide +kernel, rfl, by decide +kernel, by decide +kernel⟩
theorem scTilesTurned : FnScope ["machine", "level", "k", "letter", "there", "ends"] ["machine", "level", "k", "letter"] (defScope sTilesTurned) := ⟨rfl, rfl, rfl, by decide +kernel, rfl, by decide +kernel, by decide +kernel⟩
theorem scAllTilesTurned : FnScope ["machine", "level", "found", "k", "letter", "turn"] ["machine", "level"] (defScope sAllTilesTurned) := ⟨rfl, rfl, rfl, by decide +kernel, rfl, by decide +kernel, by decide +kernel⟩
theorem scLevelGroup : FnScope ["machine", "level", "makers"] ["machine", "level"] (defScope sLevelGroup) := ⟨rfl, rfl, rfl, by decide +kernel, rfl, by decide +kernel, by decide +kernel⟩
theorem scRests : FnScope ["machine", "level"] ["machine", "level"] (defScope sRests) := ⟨rfl, rfl, rfl, by decide +kernel, rfl, by decide +kernel, by decide +kernel⟩
theorem scLawCellAt : FnScope ["_law_script", "_law_k"] ["_law_script", "_law_k"] (defScope sLawCellAt) := ⟨rfl, rfl, rfl, by decide +kernel, rfl, by decide +kernel, by decide +kernel⟩
theorem scLawTurn : FnScope ["_law_cell", "_law_rooms", "_law_number", "_law_turn_here", "_law_k", "_law_other", "_law_kept"] ["_law_cell", "_law_rooms"] (defScope sLawTurn) := ⟨rfl, rfl, rfl, by decide +kernel, rfl, by decide +kernel, by decide +kernel⟩
theorem scLawMachine : FnScope ["_law_script", "_law_rooms", "_law_many"] ["_law_script"] (defScope sLawMachine) := ⟨rfl, rfl, rfl, by decide +kernel, rfl, by decide +kernel, by decide +kernel⟩
theorem scLawDue : FnScope ["_law_machine_here", "_law_level", "_law_k", "_law_letter", "_law_turn_here"] ["_law_machine_here", "_law_level"] (defScope sLawDue) := ⟨rfl, rfl, rfl, by decide +kernel, rfl, by decide +kernel, by decide +kernel⟩
theorem scLaw : FnScope ["_law_script", "_law_machine_here", "_law_level", "_law_found"] ["_law_script"] (defScope sLaw) := ⟨rfl, rfl, rfl, by decide +kernel, rfl, by decide +kernel, by decide +kernel⟩
def spCellAt (K : W.Frag) : Sp := fun vs H Q _ => ∃ (a : Addr) (ns : List Int) (k : Int), vs = [.ref a, .int k] /\ 0 <= k /\ SqL K H a (ns.map V.int) /\ ∀ c, Q (.int c) H
section
variable {P : Program} {w : World} {K : W.Frag} {mg : Str -> Option Value} {base : Heap} {f : Addr} {fd : FuncData}
theorem ok_cell_at (F : Fun K "_law_cell_at" "_law_cell_at" sLawCellAt f fd) (m_len : mg "len" = none) : FnOk P w K mg base CX0 1 f fd ["_law_script", "_law_k"] (spCellAt K) := by
 refine F.ok scLawCellAt (fun vs H Q E h => ?_) (fun cdv A outer s H vs Q E hr h => ?_)
 ·obtain ⟨a, ns, k, rfl, _⟩ := h
  rfl
 obtain ⟨a, ns, k, rfl, h0, hS, q⟩ := h
 refine ⟨_, (pss_cons (ps_if (pt_cmpR op_lt (pv 1) (pe_callB call_len_seq rfl m_len boot_len (pa_cons (pv 0) pa_nil)) (nomark _)) (pss_one (ps_ret (pe_ix ix_list (pv 0) (pv 1) (fun _ _ => rfl)))) pss_nil) (pss_one (ps_ret pe_int))), ?_⟩
 refine ⟨_, rfl, _, rfl, a, _, rfl, .inl hS, _, _, rfl, rfl, _, rfl, ?_⟩
 refine ite2 (fun c => ?_) (fun c => ?_)
 ·have c' : k < ((ns.map V.int).length : Nat) := of_decide_eq_true c
  rw [List.length_map] at c'
  have hk : k.toNat < ns.length := by lia
  have e : k = ((k.toNat : Nat) : Int) := by lia
  refine ⟨_, rfl, _, rfl, a, _, _, .int (ns.getD k.toNat 0), rfl, rfl, hS, ?_, q _⟩
  rw [e]
  exact at_int hk
 ·exact q _
end
structure Mach (H : Hp) (m : Addr) (ts : List (List Nat)) (n : Nat) : Prop where
 refs : ∃ rs : List Addr, H m = some (.tup (rs.map V.ref)) /\ rs.length = ts.length /\ ∀ (i : Nat) r t, rs[i]? = some r -> ts[i]? = some t -> H r = some (.tup (t.map nv))
 some1 : 1 <= ts.length
 few : ts.length <= 4
 n1 : 1 <= n
 n5 : n <= 5
 each : ∀ t ∈ ts, t.length = n /\ ∀ x ∈ t, x < n
theorem Mach.same {H H' : Hp} {m : Addr} {ts : List (List Nat)} {n : Nat} (M : Mach H m ts n) (g : Same H H') : Mach H' m ts n :=
 ⟨let ⟨rs, h1, h2, h3⟩ := M.refs; ⟨rs, g _ _ h1, h2, fun i r t e1 e2 => g _ _ (h3 i r t e1 e2)⟩, M.some1, M.few, M.n1, M.n5, M.each⟩
theorem Mach.at {H : Hp} {m : Addr} {ts : List (List Nat)} {n : Nat} (M : Mach H m ts n) {l : Nat} (hl : l < ts.length) :
  ∃ (rs : List Addr) (r : Addr), H m = some (.tup (rs.map V.ref)) /\ rs.length = ts.length /\ atI (rs.map V.ref) (l : Int) = some (.ref r) /\ H r = some (.tup ((ts.getD l []).map nv)) /\ (ts.getD l []).length = n /\ ∀ x ∈ ts.getD l [], x < n := by
 obtain ⟨rs, h1, h2, h3⟩ := M.refs
 have hr : l < rs.length := by lia
 have e : ts.getD l [] = ts[l] := by rw [List.getD_eq_getElem?_getD, List.getElem?_eq_getElem hl]; rfl
 rw [e]
 obtain ⟨q1, q2⟩ := M.each ts[l] (List.getElem_mem hl)
 exact ⟨rs, rs[l], h1, h2, atI_nat (by rw [List.getElem?_map, List.getElem?_eq_getElem hr]; rfl), h3 l _ _ (by simp [hr]) (by simp [hl]), q1, q2⟩
def lead (ts : List (List Nat)) (r : Nat) (word : List Nat) : Nat := word.foldl (fun r l => (ts.getD l []).getD r 0) r
theorem lead_snoc (ts : List (List Nat)) (r : Nat) (word : List Nat) (l : Nat) : lead ts r (word ++ [l]) = (ts.getD l []).getD (lead ts r word) 0 := by
 unfold lead
 rw [List.foldl_append]
 rfl
theorem lead_lt {H : Hp} {m : Addr} {ts : List (List Nat)} {n : Nat} (M : Mach H m ts n) : ∀ (word : List Nat) (r : Nat), r < n -> (∀ l ∈ word, l < ts.length) -> lead ts r word < n
 | [], _, hr, _ => hr
 | l :: word, r, hr, h => by
  obtain ⟨_, _, _, _, _, _, h5, h6⟩ := M.at (h l (List.mem_cons_self ..))
  exact lead_lt M word _ (getD_lt h6 (by lia)) fun x hx => h x (List.mem_cons_of_mem _ hx)
def leads (ts : List (List Nat)) (n : Nat) (word : List Nat) : List Nat := (List.range n).map fun r => lead ts r word
theorem leads_len (ts : List (List Nat)) (n : Nat) (word : List Nat) : (leads ts n word).length = n := by simp [leads]
def spTurn : Sp := fun vs H Q _ => ∃ (c : Int) (n : Nat), vs = [.int c, nv n] /\ 1 <= n /\ n <= 5 /\
 ∀ (ys : List Nat) r H', Same H H' -> H' r = some (.tup (ys.map nv)) -> ys.length = n -> (∀ y ∈ ys, y < n) -> Q (.ref r) H'
def spMachine (K : W.Frag) : Sp := fun vs H Q _ => ∃ (a : Addr) (ns : List Int), vs = [.ref a] /\ SqL K H a (ns.map V.int) /\ ∀ m ts n H', Same H H' -> Mach H' m ts n -> Q (.ref m) H'
def TurnSt (H : Hp) (c : Int) (n : Nat) (σ : L2.St) (H' : Hp) : Prop := Same H H' /\ ∃ (l : Addr) (ys : List Nat) (num : Int) (o1 o2 o3 : Option V), σ = [some (.int c), some (nv n), some (.int num), some (.ref l), o1, o2, o3] /\
 H' l = some (.lst (ys.map nv)) /\ H l = none /\ ys.length = n /\ ∀ y ∈ ys, y < n
section
variable {P : Program} {w : World} {K : W.Frag} {mg : Str -> Option Value} {base : Heap} {f : Addr} {fd : FuncData}
theorem ok_turn (F : Fun K "_law_turn" "_law_turn" sLawTurn f fd) (m_range : mg "range" = none) (m_tuple : mg "tuple" = none) (m_list : mg "list" = none) : FnOk P w K mg base CX0 1 f fd ["_law_cell", "_law_rooms"] spTurn := by
 refine F.ok scLawTurn (fun vs H Q E h => ?_) (fun cdv A outer s H vs Q E hr h => ?_)
 ·obtain ⟨c, n, rfl, _⟩ := h
  rfl
 obtain ⟨c, n, rfl, h1, h5, q⟩ := h
 refine ⟨_, (pss_cons (ps_set (i := 2) scLawTurn.nd rfl (Or.inl rfl) (pe_op op_fdiv (pv 0) pe_int)) (pss_cons (ps_set (i := 3) scLawTurn.nd rfl (Or.inl rfl) (pe_callTy (call_list_rng rfl) rfl m_list boot_list (pa_cons (pe_callTy call_rangeV rfl m_range boot_range (pa_cons (pv 1) pa_nil)) pa_nil))) (pss_cons (ps_for PassesOwn.never rfl (pi_range1 rfl m_range (pa_cons (pv 1) pa_nil)) (pg_name (i := 4) scLawTurn.nd rfl (Or.inl rfl)) (pss_cons (ps_set (i := 5) scLawTurn.nd rfl (Or.inl rfl) (pe_op op_mod (pv 2) (pv 1))) (pss_cons (ps_set (i := 2) scLawTurn.nd rfl (Or.inl rfl) (pe_op op_fdiv (pv 2) (pv 1))) (pss_one (ps_if (pt_cmpR op_lt (pe_op op_mod (pv 0) pe_int) pe_int (nomark _)) (pss_one (ps_asg (pv 5) (pg_sub (pv 3) (pv 4) set_list))) (pss_one (ps_if (pt_cmpR op_lt (pe_op op_mod (pv 0) pe_int) pe_int (nomark _)) (pss_cons (ps_set (i := 6) scLawTurn.nd rfl (Or.inl rfl) (pe_ix ix_list (pv 3) (pv 4) (fun _ _ => rfl))) (pss_cons (ps_asg (pe_ix ix_list (pv 3) (pv 5) (fun _ _ => rfl)) (pg_sub (pv 3) (pv 4) set_list)) (pss_one (ps_asg (pv 6) (pg_sub (pv 3) (pv 5) set_list))))) (pss_one (ps_if (PW.pt (pw_and (pt_cmpR op_eq (pe_op op_mod (pv 0) pe_int) pe_int (nomark _)) (pw_and1 (pt_cmpR op_lt (pv 4) pe_int (nomark _))))) (pss_one (ps_asg (pe_op op_mod (pv 2) (pv 1)) (pg_sub (pv 3) (pv 5) set_list))) pss_nil))))))))) (pss_cons (ps_cut (ps_if (pt_cmpR op_eq (pe_op op_mod (pv 0) pe_int) pe_int (nomark _)) (pss_one (ps_set (i := 3) scLawTurn.nd rfl (Or.inl rfl) (pe_op op_rep (pe_lst (pa_cons (pe_op op_mod (pe_op op_fdiv (pv 0) pe_int) (pv 1)) pa_nil)) (pv 1)))) pss_nil)) (pss_one (ps_ret (pe_callTy call_tuple_of rfl m_tuple boot_tuple (pa_cons (pv 3) pa_nil)))))))), ?_⟩
 have np : (0 : Int) < (n : Int) := by lia
 refine ⟨_, rfl, _, _, rfl, rfl, ⟨by decide, by decide⟩, ?_⟩
 refine ⟨_, rfl, (n : Int), rfl, fun p1 hp1 => ⟨p1, (n : Int), rfl, upd_same, by lia, by lia, fun l hl => ?_⟩⟩
 have g1 := (same_new hp1 (.rng 0 (n : Int))).trans (same_new hl (.lst (rangeV (n : Int).toNat)))
 have s1 : ∀ num, TurnSt H c n [some (.int c), some (nv n), some (.int num), some (.ref l), none, none, none] (upd (upd H p1 (.rng 0 (n : Int))) l (.lst (rangeV (n : Int).toNat))) :=
  fun num => ⟨g1, l, List.range n, num, none, none, none, rfl, by rw [upd_same]; rfl, (same_new hp1 _).free hl, by simp, fun y hy => List.mem_range.mp hy⟩
 refine ⟨_, rfl, (n : Int), rfl, by lia, by lia, for_range (fun i σ H' => TurnSt H c n σ H') (s1 _) (fun i σ H' hi p => ?_) (fun σ H' p => ?_)⟩
 ·obtain ⟨g, l, ys, num, o1, o2, o3, rfl, el, hl, hyl, hy⟩ := p
  have hi' : i < n := by lia
  have e0 : (0 + (i : Int)) = ((i : Nat) : Int) := by lia
  obtain ⟨m1, m2⟩ := mod_nv num h1
  obtain ⟨m3, m4⟩ := mod_nv (num / (n : Int)) h1
  refine ⟨_, rfl, _, rfl, _, _, rfl, rfl, np, ?_⟩
  try dsimp only
  rw [m1]
  generalize (num % (n : Int)).toNat = k at m2
  refine ⟨_, rfl, _, rfl, _, _, rfl, rfl, ⟨by lia, by lia⟩, ?_⟩
  refine ⟨_, rfl, _, _, rfl, rfl, (by decide : (0 : Int) < 6), _, _, rfl, rfl, _, rfl, ite2 (fun c1 => ?_) (fun c1 => ?_)⟩
  ·refine ⟨_, rfl, _, rfl, _, rfl, l, _, _, i, rfl, rfl, el, (by rw [e0, List.length_map]; exact ixN_nat (by lia)), ?_⟩
   try dsimp only
   rw [set_nv]
   exact ⟨same_upd g hl, l, _, _, _, _, _, rfl, upd_same, hl, by rw [List.length_set, hyl], set_lt hy m2⟩
  refine ⟨_, rfl, _, _, rfl, rfl, (by decide : (0 : Int) < 6), _, _, rfl, rfl, _, rfl, ite2 (fun c2 => ?_) (fun c2 => ?_)⟩
  ·refine ⟨_, rfl, _, rfl, l, _, _, _, rfl, rfl, SqL.of el, (by rw [e0]; exact at_nv (by lia)), ?_⟩
   refine ⟨_, rfl, _, rfl, l, _, _, _, rfl, rfl, SqL.of el, at_nv (by lia), _, rfl, _, rfl, l, _, _, i, rfl, rfl, el, (by rw [e0, List.length_map]; exact ixN_nat (by lia)), ?_⟩
   try dsimp only
   rw [set_nv]
   refine ⟨_, rfl, _, rfl, _, rfl, l, _, _, k, rfl, rfl, upd_same, (by rw [List.length_map, List.length_set]; exact ixN_nat (by lia)), ?_⟩
   try dsimp only
   rw [set_nv, upd_upd]
   exact ⟨same_upd g hl, l, _, _, _, _, _, rfl, upd_same, hl, by rw [List.length_set, List.length_set, hyl], set_lt (set_lt hy (getD_lt hy (by lia))) (getD_lt hy (by lia))⟩
  have stay : ∀ o1 o2 o3, TurnSt H c n [some (.int c), some (nv n), some (.int (num / (n : Int))), some (.ref l), o1, o2, o3] H' := fun o1 o2 o3 => ⟨g, l, ys, _, o1, o2, o3, rfl, el, hl, hyl, hy⟩
  refine ⟨_, rfl, _, _, rfl, rfl, (by decide : (0 : Int) < 6), rfl, _, rfl, ite2 (fun c3 => ?_) (fun c3 => iteF (stay _ _ _))⟩
  refine ⟨_, rfl, _, _, rfl, rfl, _, rfl, ite2 (fun c4 => ?_) (fun c4 => stay _ _ _)⟩
  refine ⟨_, rfl, _, rfl, _, _, rfl, rfl, np, ?_⟩
  try dsimp only
  rw [m3]
  refine ⟨_, rfl, _, rfl, l, _, _, k, rfl, rfl, el, (by rw [List.length_map]; exact ixN_nat (by lia)), ?_⟩
  try dsimp only
  rw [set_nv]
  exact ⟨same_upd g hl, l, _, _, _, _, _, rfl, upd_same, hl, by rw [List.length_set, hyl], set_lt hy m4⟩
 ·obtain ⟨g, l, ys, num, o1, o2, o3, rfl, el, hl, hyl, hy⟩ := p
  refine ⟨TurnSt H c n, ?_, fun σ4 H4 p4 => ?_⟩
  ·refine ⟨_, rfl, _, _, rfl, rfl, (by decide : (0 : Int) < 6), rfl, _, rfl, ite2 (fun c5 => ?_) (fun c5 => ⟨g, l, ys, num, o1, o2, o3, rfl, el, hl, hyl, hy⟩)⟩
   obtain ⟨m1, m2⟩ := mod_nv (c / 6) h1
   refine ⟨_, rfl, _, _, rfl, rfl, ⟨by decide, by decide⟩, _, rfl, _, _, rfl, rfl, np, by show 1 <= sizeLine; decide, fun l2 hl2 => ?_⟩
   have e1 : (n : Int).toNat = n := Int.toNat_natCast n
   refine ⟨_, rfl, l2, _, _, rfl, rfl, upd_same, by lia, by lia, by rw [e1, sizeLine_eq]; show 1 * n <= _; lia, fun l3 hl3 => ?_⟩
   have e2 : (List.replicate (n : Int).toNat [V.int (c / 6 % (n : Int))]).flatten = (List.replicate n (c / 6 % (n : Int)).toNat).map nv := by
    rw [e1, m1, List.map_replicate]
    induction n with
    | zero => rfl
    | succ n _ => simp [List.replicate_succ]
   refine ⟨g.trans ((same_new hl2 _).trans (same_new hl3 _)), l3, List.replicate n (c / 6 % (n : Int)).toNat, num, _, _, _, rfl, ?_, ?_, by simp, fun y hy => ?_⟩
   ·rw [upd_same]
    exact congrArg (fun z => some (HO.lst z)) e2
   ·exact (g.trans (same_new hl2 _)).free hl3
   ·rw [List.eq_of_mem_replicate hy]
    exact m2
  ·obtain ⟨g4, l4, ys4, num, o1, o2, o3, rfl, el4, hl4, hyl4, hy4⟩ := p4
   exact ⟨_, rfl, l4, _, rfl, .inl ⟨SqL.of el4, fun t ht => q ys4 t _ (g4.trans (same_new ht _)) upd_same hyl4 hy4⟩⟩
theorem ok_machine (F : Fun K "_law_machine" "_law_machine" sLawMachine f fd) (c__law_cell_at : Callee P w K mg base "_law_cell_at" 1 ["_law_script", "_law_k"] (spCellAt K)) (c__law_turn : Callee P w K mg base "_law_turn" 1 ["_law_cell", "_law_rooms"] spTurn)
  (m_range : mg "range" = none) (m_tuple : mg "tuple" = none) : FnOk P w K mg base CX0 3 f fd ["_law_script"] (spMachine K) := by
 refine F.ok scLawMachine (fun vs H Q E h => ?_) (fun cdv A outer s H vs Q E hr h => ?_)
 ·obtain ⟨a, ns, rfl, _⟩ := h
  rfl
 obtain ⟨a, ns, rfl, hS, q⟩ := h
 refine ⟨_, (pss_cons (ps_set (i := 1) scLawMachine.nd rfl (Or.inr rfl) (pe_op op_add pe_int (pe_op op_mod (pe_callD c__law_cell_at (hr.mono (by decide)) rfl (pl_at (pl_cons (pv 0) (pl_cons pe_int pl_nil rfl) rfl))) pe_int))) (pss_cons (ps_set (i := 2) scLawMachine.nd rfl (Or.inl rfl) (pe_op op_add pe_int (pe_op op_mod (pe_callD c__law_cell_at (hr.mono (by decide)) rfl (pl_at (pl_cons (pv 0) (pl_cons pe_int pl_nil rfl) rfl))) pe_int))) (pss_one (ps_ret (pe_callTy call_tuple_of rfl m_tuple boot_tuple (pa_cons (pe_comp1 (CompSc.to (N := ["_law_script", "_law_rooms", "_law_many"]) (osc := defScope sLawMachine) (vs := ["_law_k"]) ⟨rfl, by decide +kernel, by decide +kernel, by decide +kernel, by decide +kernel, by decide +kernel, by decide +kernel⟩) rfl rfl (pi_range1 rfl m_range (pa_cons (pv 2) pa_nil)) (fun _ _ _ _ => pts_nil) (fun _ _ _ _ => (pe_callD c__law_turn (hr.mono (by decide)) rfl (pl_at (pl_cons (pe_callD c__law_cell_at (hr.mono (by decide)) rfl (pl_at (pl_cons (pv 1) (pl_cons (pe_op op_add pe_int (pv 0)) pl_nil rfl) rfl))) (pl_cons (pv 2) pl_nil rfl) rfl))))) pa_nil)))))), ?_⟩
 refine ⟨_, rfl, a, ns, 0, rfl, Int.le_refl 0, hS, fun c => ⟨_, _, rfl, rfl, (by decide : (0 : Int) < 5), _, _, rfl, rfl, ?_⟩⟩
 obtain ⟨n, en, n1, n5⟩ : ∃ n : Nat, (1 + c % 5 : Int) = (n : Int) /\ 1 <= n /\ n <= 5 := ⟨(1 + c % 5).toNat, by lia, by lia, by lia⟩
 try dsimp only
 rw [en]
 refine ⟨_, rfl, a, ns, 1, rfl, by decide, hS, fun c' => ⟨_, _, rfl, rfl, (by decide : (0 : Int) < 4), _, _, rfl, rfl, ?_⟩⟩
 obtain ⟨k, ek, k1, k4⟩ : ∃ n : Nat, (1 + c' % 4 : Int) = (n : Int) /\ 1 <= n /\ n <= 4 := ⟨(1 + c' % 4).toNat, by lia, by lia, by lia⟩
 try dsimp only
 rw [ek]
 refine ⟨_, rfl, (k : Int), rfl, by lia, by lia, comp_range (fun i zs H' => Same H H' /\ ∃ (rs : List Addr) (ts : List (List Nat)), zs = rs.map V.ref /\ rs.length = i /\ ts.length = i /\ (∀ (j : Nat) r t, rs[j]? = some r -> ts[j]? = some t -> H' r = some (.tup (t.map nv))) /\ ∀ t ∈ ts, t.length = n /\ ∀ x ∈ t, x < n)
  (small (by lia)) ⟨Same.refl _, [], [], rfl, rfl, rfl, (fun j r t e => absurd e (by simp)), (fun t ht => absurd ht (by simp))⟩ (fun i zs H' _ p => ?_) (fun i zs H' hi p => ?_) (fun zs H' p l hl => ?_)⟩
 ·obtain ⟨_, rs, ts, rfl, e, _⟩ := p
  rw [List.length_map]
  lia
 ·obtain ⟨g, rs, ts, rfl, hrl, htl, hrt, ht⟩ := p
  refine ⟨keep_one, yes_of ?_⟩
  refine ⟨_, rfl, _, rfl, _, _, rfl, rfl, a, ns, _, rfl, by lia, g.seq hS, fun c => ⟨_, rfl, c, n, rfl, n1, n5, fun ys r H2 g2 e2 hyl hy => ?_⟩⟩
  refine ⟨g.trans g2, rs ++ [r], ts ++ [ys], by simp, by simp [hrl], by simp [htl], fun j r' t' e3 e4 => ?_, fun t ht' => ?_⟩
  ·by_cases hj : j < i
   ·rw [List.getElem?_append_left (by lia)] at e3 e4
    exact g2 _ _ (hrt j r' t' e3 e4)
   ·have hj' : j = i := by
     have := (List.getElem?_eq_some_iff.mp e3).1
     rw [List.length_append, hrl] at this
     have : j < i + 1 := this
     lia
    subst hj'
    rw [List.getElem?_append_right (by lia), hrl, Nat.sub_self] at e3
    rw [List.getElem?_append_right (by lia), htl, Nat.sub_self] at e4
    cases e3
    cases e4
    exact e2
  ·rcases List.mem_append.mp ht' with z | z
   ·exact ht t z
   ·have e : t = ys := by simpa using z
    rw [e]
    exact ⟨hyl, hy⟩
 ·obtain ⟨g, rs, ts, rfl, hrl, htl, hrt, ht⟩ := p
  have g1 := same_new hl (.lst (rs.map V.ref))
  refine ⟨l, _, rfl, .inl ⟨SqL.of upd_same, fun m hm => ?_⟩⟩
  have g2 := g1.trans (same_new hm (.tup (rs.map V.ref)))
  have hk : (k : Int).toNat = k := Int.toNat_natCast k
  exact q m ts n _ (g.trans g2) ⟨⟨rs, upd_same, by lia, fun i r t e1 e2 => g2 _ _ (hrt i r t e1 e2)⟩, by lia, by lia, n1, n5, ht⟩
end
def spLed (K : W.Frag) : Sp := fun vs H Q _ => ∃ (m b : Addr) (ts : List (List Nat)) (n r : Nat) (word : List Nat), vs = [.ref m, nv r, .ref b] /\ Mach H m ts n /\ r < n /\ SqL K H b (word.map nv) /\ (∀ l ∈ word, l < ts.length) /\ Q (nv (lead ts r word)) H
section
variable {P : Program} {w : World} {K : W.Frag} {mg : Str -> Option Value} {base : Heap} {f : Addr} {fd : FuncData}
theorem ok_led (F : Fun K "led" "led" sLed f fd) : FnOk P w K mg base CX0 1 f fd ["machine", "room", "word"] (spLed K) := by
 refine F.ok scLed (fun vs H Q E h => ?_) (fun cdv A outer s H vs Q E hr h => ?_)
 ·obtain ⟨m, b, ts, n, r, word, rfl, _⟩ := h
  rfl
 obtain ⟨m, b, ts, n, r, word, rfl, M, hr', hS, hw, q⟩ := h
 refine ⟨_, (pss_cons (ps_for PassesOwn.never rfl (pi_list (pv 2)) (pg_name (i := 3) scLed.nd rfl (Or.inl rfl)) (pss_one (ps_set (i := 1) scLed.nd rfl (Or.inl rfl) (pe_ix ix_tup (pe_ix ix_tup (pv 0) (pv 3) (fun _ _ => rfl)) (pv 1) (fun _ _ => rfl))))) (pss_one (ps_ret (pv 1)))), ?_⟩
 refine ⟨_, rfl, b, rfl, ⟨_, hS⟩, for_list (xs := word.map nv) (fun i σ H' => H' = H /\ ∃ o, σ = [some (.ref m), some (nv (lead ts r (word.take i))), some (.ref b), o]) ⟨rfl, none, rfl⟩ (fun i σ H' _ p => by obtain ⟨rfl, _⟩ := p; exact hS) (fun i x σ H' hx p => ?_) (fun σ H' p => ?_)⟩
 ·obtain ⟨rfl, o, rfl⟩ := p
  rw [List.getElem?_map] at hx
  cases e : word[i]? with
  | none => rw [e] at hx; cases hx
  | some l =>
   rw [e] at hx
   cases hx
   obtain ⟨rs, rr, h1, h2, h3, h4, h5, h6⟩ := M.at (hw l (List.mem_of_getElem? e))
   refine ⟨_, rfl, _, rfl, m, _, _, _, rfl, rfl, SqT.of h1, h3, _, rfl, rr, _, _, _, rfl, rfl, SqT.of h4, at_nv ?_, rfl, some (nv l), ?_⟩
   ·rw [h5]
    exact lead_lt M _ _ hr' fun x hx => hw x (List.mem_of_mem_take hx)
   ·rw [List.take_add_one, e]
    show _ = [some (.ref m), some (nv (lead ts r (word.take i ++ [l]))), some (.ref b), some (nv l)]
    rw [lead_snoc]
    rfl
 ·obtain ⟨rfl, o, rfl⟩ := p
  refine ⟨_, rfl, ?_⟩
  rw [List.length_map, List.take_length]
  exact q
end
def leadsR (ts : List (List Nat)) (rooms word : List Nat) : List Nat := rooms.map fun r => lead ts r word
theorem norm_range {n : Nat} {xs : List Nat} (n5 : n <= 5) (h : ∀ x ∈ xs, x < n) : norm5 xs = (List.range n).filter fun i => xs.contains i := by
 unfold norm5
 have e : List.range 5 = List.range n ++ (List.range (5 - n)).map (n + ·) := by rw [<- List.range_add]; congr 1; lia
 rw [e, List.filter_append]
 have no : ((List.range (5 - n)).map (n + ·)).filter (fun i => xs.contains i) = [] := by
  rw [List.filter_eq_nil_iff]
  intro y hy z
  obtain ⟨k, _, rfl⟩ := List.mem_map.mp hy
  have := h _ (List.contains_iff_mem.mp z)
  lia
 rw [no, List.append_nil]
theorem norm_mem {xs : List Nat} {x : Nat} (h : x ∈ norm5 xs) : x ∈ xs := List.contains_iff_mem.mp (List.mem_filter.mp h).2
theorem mem_norm {xs : List Nat} {x : Nat} (h : x ∈ xs) (h5 : x < 5) : x ∈ norm5 xs := List.mem_filter.mpr ⟨List.mem_range.mpr h5, List.contains_iff_mem.mpr h⟩
theorem norm_len (xs : List Nat) : (norm5 xs).length <= 5 := Nat.le_trans (List.length_filter_le _ _) (by simp)
theorem in_nv (i : Nat) (xs : List Nat) : inV (nv i) (xs.map nv) = xs.contains i := by
 unfold inV
 rw [List.any_map]
 induction xs with
 | nil => rfl
 | cons x xs ih =>
  rw [List.any_cons, List.contains_cons, ih]
  congr 1
  show eqV (.int (x : Int)) (.int (i : Int)) = (i == x)
  by_cases h : x = i
  ·subst h
   show ((x : Int) == (x : Int)) = (x == x)
   simp
  ·have h2 : ¬ (x : Int) = (i : Int) := by lia
   have h3 : ¬ i = x := by lia
   show ((x : Int) == (i : Int)) = (i == x)
   rw [beq_eq_false_iff_ne.mpr h2, beq_eq_false_iff_ne.mpr h3]
theorem flat_nv (xs : List Nat) : (xs.map nv).all flatV = true := by
 rw [List.all_map, List.all_eq_true]
 intro x _
 rfl
def spCarried (K : W.Frag) : Sp := fun vs H Q _ => ∃ (m p b : Addr) (ts : List (List Nat)) (n : Nat) (rooms word : List Nat), vs = [.ref m, .ref p, .ref b] /\ Mach H m ts n /\ SqT K H p (rooms.map nv) /\ rooms.length <= 5 /\ (∀ r ∈ rooms, r < n) /\ SqL K H b (word.map nv) /\ (∀ l ∈ word, l < ts.length) /\
 NewT H ((norm5 (leadsR ts rooms word)).map nv) Q
section
variable {P : Program} {w : World} {K : W.Frag} {mg : Str -> Option Value} {base : Heap} {f : Addr} {fd : FuncData}
theorem ok_carried (F : Fun K "carried" "carried" sCarried f fd) (c_led : Callee P w K mg base "led" 1 ["machine", "room", "word"] (spLed K)) (m_tuple : mg "tuple" = none) (m_sorted : mg "sorted" = none) (m_set : mg "set" = none) : FnOk P w K mg base CX0 3 f fd ["machine", "rooms", "word"] (spCarried K) := by
 refine F.ok scCarried (fun vs H Q E h => ?_) (fun cdv A outer s H vs Q E hr h => ?_)
 ·obtain ⟨m, p, b, ts, n, rooms, word, rfl, _⟩ := h
  rfl
 obtain ⟨m, p, b, ts, n, rooms, word, rfl, M, hR, hl5, hr', hS, hw, q⟩ := h
 refine ⟨_, (pss_one (ps_ret (pe_callTy call_tuple_of rfl m_tuple boot_tuple (pa_cons (pe_callB (call_sortS rfl) rfl m_sorted boot_sorted (pa_cons (pe_callTy (call_setN rfl) rfl m_set PyProof.Rows.boot_set (pa_cons (pe_comp1 (CompSc.to (N := ["machine", "rooms", "word"]) (osc := defScope sCarried) (vs := ["room"]) ⟨rfl, by decide +kernel, by decide +kernel, by decide +kernel, by decide +kernel, by decide +kernel, by decide +kernel⟩) rfl rfl (pi_tup (pv 1)) (fun _ _ _ _ => pts_nil) (fun _ _ _ _ => (pe_callD c_led (hr.mono (by decide)) rfl (pl_at (pl_cons (pv 1) (pl_cons (pv 0) (pl_cons (pv 3) pl_nil rfl) rfl) rfl))))) pa_nil)) pa_nil)) pa_nil)))), ?_⟩
 have n5 := M.n5
 refine ⟨_, rfl, p, rfl, ⟨_, hR⟩, map_tup (f := fun v => match v with | .int i => nv (lead ts i.toNat word) | v => v) (by rw [List.length_map]; exact small (by lia)) hR (fun v Q hv q => ?_) (fun l hl => ?_)⟩
 ·obtain ⟨r, h1, rfl⟩ := List.mem_map.mp hv
  exact ⟨_, rfl, _, rfl, _, rfl, m, b, ts, n, r, word, rfl, M, hr' r h1, hS, hw, q⟩
 ·have e : (rooms.map nv).map (fun v => match v with | .int i => nv (lead ts i.toNat word) | v => v) = (leadsR ts rooms word).map nv := by
   unfold leadsR
   rw [List.map_map, List.map_map]
   rfl
  try dsimp only
  rw [e]
  have g1 := same_new hl (.lst ((leadsR ts rooms word).map nv))
  refine ⟨l, _, rfl, SqL.of upd_same, fun x hx => ?_, fun a ha => ⟨a, _, rfl, upd_same, fun o ho => ?_⟩⟩
  ·obtain ⟨r, h1, rfl⟩ := List.mem_map.mp hx
   have := lead_lt M word r (hr' r h1) hw
   lia
  ·try dsimp only
   rw [sub5_mask]
   exact ⟨o, _, rfl, .inl ⟨SqL.of upd_same, fun t ht => q t _ (g1.trans ((same_new ha _).trans ((same_new ho _).trans (same_new ht _)))) upd_same⟩⟩
end
def spReached (P : Program) (w : World) (K : W.Frag) (mg : Str -> Option Value) (base : Heap) : Sp := fun vs H Q _ => ∃ (a st : Addr) (fd : FuncData) (ps : List Str) (x0 : List Nat) (L : Nat) (U : List (List Nat)) (g : List Nat -> Nat -> List Nat),
 vs = [.ref a, nv L, .ref st, .non] /\ H a = some (.tup (x0.map nv)) /\ H st = some (LamO st fd) /\ x0 ∈ U /\ (∀ x ∈ U, ∀ l, l < L -> g x l ∈ U) /\ U.length <= 4000 /\ L <= 4000 /\ FnOk P w K mg base CX0 5 st fd ps (spStep (Same H) U L g) /\ Binds K fd ps [] /\
 ∀ D ws as H', Same H H' -> WordsAt H' D ws as -> (∀ b ∈ D :: as, H b = none) -> Told g L x0 ws -> Q (.ref D) H'
section
variable {P : Program} {w : World} {K : W.Frag} {mg : Str -> Option Value} {base : Heap} {f : Addr} {fd : FuncData}
theorem ok_refuse_more (F : Fun K "refuse_more" "refuse_more" sRefuseMore f fd) (m_len : mg "len" = none) : FnOk P w K mg base CX0 1 f fd ["things", "most"] spRefuse := by
 refine F.ok scRefuseMore (fun vs H Q E h => ?_) (fun cdv A outer s H vs Q E hr h => ?_)
 ·obtain ⟨d, rfl, _⟩ := h
  rfl
 obtain ⟨d, rfl, q⟩ := h
 refine ⟨_, (pss_one (ps_if (PW.pt (pw_and (pt_cmpR op_notN (pv 1) pe_non (nomark _)) (pw_and1 (pt_cmpR op_gt (pe_callB call_lenT rfl m_len boot_len (pa_cons (pv 0) pa_nil)) (pv 1) (nomark _))))) (pss_one ps_never) pss_nil)), ?_⟩
 exact ⟨_, rfl, rfl, _, rfl, q⟩
theorem ok_reached {fdv cv : Value} (F : DefAt K "reached" sReached f fd fdv cv) (c_refuse_more : Callee P w K mg base "refuse_more" 1 ["things", "most"] spRefuse) (m_range : mg "range" = none) : FnOk P w K mg base CX0 8 f fd ["start", "letters", "step", "most"] (spReached P w K mg base) := by
 refine F.fnOk scReached (fun vs H Q E h => ?_) (fun A outer s H vs Q E h hr => ?_)
 ·obtain ⟨a, st, fd, ps, x0, L, U, g, rfl, _⟩ := h
  rfl
 obtain ⟨a, st, sd, ps, x0, L, U, g, rfl, ha, hst, h0, hU, few, fewL, hF, hB, q⟩ := h
 have hu1 := hu_of hr
 exact ⟨_, reach_read (hr.mono (by decide)) ha hst h0 hU few fewL hF hB q, (pss_cons (ps_set (i := 4) scReached.nd rfl (Or.inl rfl) (pe_disp1 hu1 (pv 0) (pe_lst pa_nil))) (pss_cons (ps_expr (pe_callD c_refuse_more (hr.mono (by decide)) rfl (pl_at (pl_cons (pv 4) (pl_cons (pv 3) pl_nil rfl) rfl)))) (pss_cons (ps_set (i := 5) scReached.nd rfl (Or.inl rfl) (pe_lst (pa_cons (pv 0) pa_nil))) (pss_cons (ps_while PassesOwn.never (pt_truth (pv 5) (fun _ => rfl)) (pss_cons (ps_set (i := 6) scReached.nd rfl (Or.inl rfl) (pe_lst pa_nil)) (pss_cons (ps_for PassesOwn.never rfl (pi_list (pv 5)) (pg_name (i := 7) scReached.nd rfl (Or.inl rfl)) (pss_one (ps_for PassesOwn.never rfl (pi_range1 rfl m_range (pa_cons (pv 1) pa_nil)) (pg_name (i := 8) scReached.nd rfl (Or.inl rfl)) (pss_cons (ps_set (i := 9) scReached.nd rfl (Or.inl rfl) (pe_callV 2 (pv 2) (pl_at (pl_cons (pv 7) (pl_cons (pv 8) pl_nil rfl) rfl)))) (pss_one (ps_if (pt_cmp (pc_dnotin hu1 (pv 9) (pv 4))) (pss_cons (ps_dput hu1 (pv 4) (pv 9) (pe_op op_catS (pe_dget hu1 (pv 4) (pv 7) (fun _ _ => rfl)) (pe_lst (pa_cons (pv 8) pa_nil))) rfl) (pss_cons (ps_expr (pe_callD c_refuse_more (hr.mono (by decide)) rfl (pl_at (pl_cons (pv 4) (pl_cons (pv 3) pl_nil rfl) rfl)))) (pss_one (ps_expr (pe_bm PySem.F.plainAttrs_list PySem.F.slot_list_append PySem.F.type_list_append mt_append (pv 6) (pa_cons (pv 9) pa_nil)))))) pss_nil)))))) (pss_one (ps_set (i := 5) scReached.nd rfl (Or.inl rfl) (pv 6)))))) (pss_one (ps_ret (pv 4)))))))⟩
end
def tabsL : List (Str × Pos × Addr) := [("sets_reached.<locals>.<lambda>", (⟨46, 40, 46, 93⟩ : Pos), 94), ("level_group.<locals>.<lambda>", (⟨118, 61, 118, 110⟩ : Pos), 193)]
theorem tabs_nd : (tabsL.map (·.2.2)).Nodup := by decide
def Tabs (H : Hp) : Prop := ∀ q ∈ tabsL, TabOk q.1 q.2.1 H q.2.2
theorem _root_.L2.TabOk.most {qual : Str} {pos : Pos} {H H' : Hp} {T : Addr} (t : TabOk qual pos H T) (g : ∀ b u, (∀ kvs, u ≠ HO.dT kvs) -> (∀ xs, u ≠ HO.lst xs) -> H b = some u -> H' b = some u) : TabOk qual pos H' T := by
 rcases t with t | ⟨cc, t1, t2⟩
 ·exact .inl (g _ _ (fun _ e => nomatch e) (fun _ e => nomatch e) t)
 ·exact .inr ⟨cc, g _ _ (fun _ e => nomatch e) (fun _ e => nomatch e) t1, g _ _ (fun _ e => nomatch e) (fun _ e => nomatch e) t2⟩
theorem Tabs.same {H H' : Hp} (t : Tabs H) (g : Same H H') : Tabs H' := fun q hq => (t q hq).same g
theorem Tabs.most {H H' : Hp} (t : Tabs H) (g : ∀ b u, (∀ kvs, u ≠ HO.dT kvs) -> (∀ xs, u ≠ HO.lst xs) -> H b = some u -> H' b = some u) : Tabs H' := fun q hq => (t q hq).most g
def KeepsBut (T : Addr) (H H' : Hp) : Prop := ∀ b o, b ≠ T -> H b = some o -> H' b = some o
theorem KeepsBut.keeps {T : Addr} {H H' : Hp} {ps : Array Value} (g : KeepsBut T H H') (hT : H T = some (.tbl ps)) : Keeps H H' := fun b o hb => by
 obtain ⟨z, nt⟩ := of_noT hb
 exact g b o (ne_of z hT fun e => nt _ e) z
theorem tabs_inj : ∀ {l : List (Str × Pos × Addr)} {p q : Str × Pos × Addr}, (l.map (·.2.2)).Nodup -> p ∈ l -> q ∈ l -> p.2.2 = q.2.2 -> p = q
 | [], _, _, _, hp, _, _ => nomatch hp
 | r :: l, p, q, nd, hp, hq, e => by
  obtain ⟨n1, n2⟩ := List.nodup_cons.mp nd
  rcases List.mem_cons.mp hp with ep | hp
  ·rcases List.mem_cons.mp hq with eq | hq
   ·rw [ep, eq]
   ·exact absurd (List.mem_map.mpr ⟨q, hq, by rw [<- ep]; exact e.symm⟩) n1
  ·rcases List.mem_cons.mp hq with eq | hq
   ·exact absurd (List.mem_map.mpr ⟨p, hp, by rw [<- eq]; exact e⟩) n1
   ·exact tabs_inj n2 hp hq e
theorem Tabs.but {qual : Str} {pos : Pos} {T : Addr} {H H' : Hp} {ps : Array Value} (hq : (qual, pos, T) ∈ tabsL) (t : Tabs H) (hT : H T = some (.tbl ps)) (g : KeepsBut T H H') (h1 : TabOk qual pos H' T) : Tabs H' := fun q' hq' => by
 by_cases e : q'.2.2 = T
 ·have := tabs_inj tabs_nd hq' hq e
  subst this
  exact h1
 ·rcases t q' hq' with t | ⟨cc, t1, t2⟩
  ·exact .inl (g _ _ e t)
  ·exact .inr ⟨cc, g _ _ e t1, g _ _ (ne_of t2 hT fun z => nomatch z) t2⟩
theorem made2 {H : Hp} {T fl cc : Addr} (pos : Pos) (qual : Str) (hT : H T = some (.tbl #[])) (hfl : H fl = none) (hcc : H cc = none) (ne : fl ≠ cc) (lo : HO) : KeepsBut T H (upd (upd (upd H T (.tbl (triple pos cc))) cc (CodeO cc qual)) fl lo) /\
  (upd (upd (upd H T (.tbl (triple pos cc))) cc (CodeO cc qual)) fl lo) T = some (.tbl (triple pos cc)) /\ (upd (upd (upd H T (.tbl (triple pos cc))) cc (CodeO cc qual)) fl lo) cc = some (CodeO cc qual) := by
 refine ⟨fun b o nb z => ?_, ?_, ?_⟩
 ·rw [upd_ne (ne_of_none z hfl), upd_ne (ne_of_none z hcc), upd_ne nb]
  exact z
 ·rw [upd_ne (ne_of_none hT hfl), upd_ne (ne_of_none hT hcc), upd_same]
 ·rw [upd_ne (Ne.symm ne), upd_same]
def stepR (ts : List (List Nat)) (x : List Nat) (l : Nat) : List Nat := norm5 (leadsR ts x [l])
def setsU (n : Nat) : List (List Nat) := ((List.range 32).map sub5).filter fun x => x.all fun r => decide (r < n)
def spSetsReached (T : Addr) (pos : Pos) : Sp := fun vs H Q _ => ∃ (m p : Addr) (ts : List (List Nat)) (n : Nat) (rooms : List Nat), vs = [.ref m, .ref p] /\ Mach H m ts n /\ H p = some (.tup (rooms.map nv)) /\ rooms ∈ setsU n /\ Tabs H /\
 ∀ D ws as H', Keeps H H' -> Tabs H' -> WordsAt H' D ws as -> (∀ b ∈ D :: as, noT H b = none) -> Told (stepR ts) ts.length rooms ws -> Q (.ref D) H'
theorem mem_setsU {n : Nat} {x : List Nat} : x ∈ setsU n ↔ norm5 x = x /\ ∀ r ∈ x, r < n := by
 unfold setsU
 rw [List.mem_filter, List.mem_map, List.all_eq_true]
 constructor
 ·rintro ⟨⟨k, hk, rfl⟩, h⟩
  refine ⟨?_, fun r hr => of_decide_eq_true (h r hr)⟩
  have z : ∀ k : Fin 32, norm5 (sub5 k) = sub5 k := by decide +kernel
  exact z ⟨k, List.mem_range.mp hk⟩
 ·rintro ⟨h1, h2⟩
  refine ⟨⟨mask5 0 (norm5 x), List.mem_range.mpr ?_, by rw [sub5_mask, h1]; exact h1⟩, fun r hr => decide_eq_true (h2 r hr)⟩
  have z : ∀ (ns : List Nat) (k : Nat), (∀ n ∈ ns, n < 5) -> k < 32 -> mask5 k ns < 32 := by
   intro ns
   induction ns with
   | nil => intro k _ hk; exact hk
   | cons n ns ih => intro k h hk; exact ih _ (fun y hy => h y (List.mem_cons_of_mem _ hy)) (sub5_lt ⟨k, hk⟩ ⟨n, h n (List.mem_cons_self ..)⟩)
  exact z _ 0 (fun n hn => List.mem_range.mp (List.mem_filter.mp hn).1) (by decide)
theorem norm_norm (xs : List Nat) : norm5 (norm5 xs) = norm5 xs := by
 unfold norm5
 refine List.filter_congr fun i hi => ?_
 rw [Bool.eq_iff_iff, List.contains_iff_mem, List.contains_iff_mem, List.mem_filter, List.contains_iff_mem]
 exact ⟨fun h => h.2, fun h => ⟨hi, h⟩⟩
theorem Mach.noT {H : Hp} {m : Addr} {ts : List (List Nat)} {n : Nat} (M : Mach H m ts n) : Mach (L2.noT H) m ts n :=
 ⟨let ⟨rs, h1, h2, h3⟩ := M.refs; ⟨rs, noT_at h1 (fun _ e => nomatch e), h2, fun i r t e1 e2 => noT_at (h3 i r t e1 e2) fun _ e => nomatch e⟩, M.some1, M.few, M.n1, M.n5, M.each⟩
theorem Mach.keeps {H H' : Hp} {m : Addr} {ts : List (List Nat)} {n : Nat} (M : Mach H m ts n) (g : Keeps H H') : Mach H' m ts n := M.noT.same g
theorem Mach.drop {H : Hp} {m c : Addr} {ts : List (List Nat)} {n : Nat} {φ : Heap -> Prop} (M : Mach H m ts n) (hc : H c = some (.ext φ)) : Mach (L2.drop H c) m ts n := by
 obtain ⟨rs, h1, h2, h3⟩ := M.refs
 refine ⟨⟨rs, ?_, h2, fun i r t e1 e2 => ?_⟩, M.some1, M.few, M.n1, M.n5, M.each⟩
 ·rw [drop_ne (ne_of h1 hc fun e => nomatch e)]
  exact h1
 ·have z := h3 i r t e1 e2
  rw [drop_ne (ne_of z hc fun e => nomatch e)]
  exact z
section
variable {P : Program} {w : World} {K : W.Frag} {mg : Str -> Option Value} {base : Heap} {f : Addr} {fd : FuncData}
theorem lam_sets {fl c m cc : Addr} {oc : Obj} {ts : List (List Nat)} {n : Nat} {Hc : Hp} {pm ct : Value} {params : Arguments} {body : Expr} {scope : Scope} {fx a1 a2 : Expr} {kw : List Keyword} {lp cp rp : Pos} (e : defBody sSetsReached = [.Return (some (.Call fx [a1, a2, .Lambda params body scope lp] kw cp)) rp])
  (c_carried : Callee P w K mg base "carried" 3 ["machine", "rooms", "word"] (spCarried K)) (M : Mach Hc m ts n) (h1 : Hc fl = some (LamO fl (lamFd "sets_reached.<locals>.<lambda>" params body scope "machine" c pm (.ref cc) ct))) (h2 : Hc c = some (CellO c m oc)) (h3 : Hc cc = some (CodeO cc "sets_reached.<locals>.<lambda>")) :
  FnOk P w K mg base CX0 5 fl (lamFd "sets_reached.<locals>.<lambda>" params body scope "machine" c pm (.ref cc) ct) ["here", "letter"] (spStep (Same Hc) (setsU n) ts.length (stepR ts)) /\ Binds K (lamFd "sets_reached.<locals>.<lambda>" params body scope "machine" c pm (.ref cc) ct) ["here", "letter"] [] := by
 cases e
 refine ⟨lam_fn (k := 4) (m := m) (oc := oc) ⟨rfl, rfl, rfl, by decide +kernel, by decide +kernel, rfl, by decide +kernel⟩ (fun vs H Q E h => ?_) (fun vs H Q E h => ?_) (fun A outer s H vs Q E hr h => ?_), .all fun us hl => match us, hl with | [_, _], _ => rfl⟩
 ·obtain ⟨t, x, l, rfl, _⟩ := h
  rfl
 ·obtain ⟨t, x, l, rfl, g, _⟩ := h
  exact ⟨g _ _ h1, g _ _ h2, g _ _ h3⟩
 ·obtain ⟨t, x, l, rfl, g, ht, hx, hl, q⟩ := h
  refine ⟨_, (pe_callD c_carried (hr.mono (by decide)) rfl (pl_at (pl_cons (pv 2) (pl_cons (pv 0) (pl_cons (pe_lst (pa_cons (pv 1) pa_nil)) pl_nil rfl) rfl) rfl))), ?_⟩
  obtain ⟨x1, x2⟩ := mem_setsU.mp hx
  have hc := g _ _ h2
  refine ⟨_, rfl, _, rfl, _, rfl, by show 1 <= sizeLine; decide, fun b hb => ?_⟩
  have kb := same_new hb (.lst [nv l])
  have M1 := ((M.same g).drop hc).same kb
  have ht1 : (upd (L2.drop H c) b (.lst [nv l])) t = some (.tup (x.map nv)) := kb _ _ (by rw [drop_ne (ne_of ht hc fun e => nomatch e)]; exact ht)
  refine ⟨m, t, b, ts, n, x, [l], rfl, M1, SqT.of ht1, by rw [<- x1]; exact norm_len x, x2, SqL.of upd_same, fun z hz => by rw [List.mem_singleton.mp hz]; exact hl, fun r H3 g3 e3 free => q r _ (fun y o ho => ?_) ?_⟩
  ·by_cases hy : y = c
   ·subst hy
    rw [hc] at ho
    cases ho
    exact upd_same
   ·rw [upd_ne hy]
    exact g3 _ _ (kb _ _ (by rw [drop_ne hy]; exact ho))
  ·rw [upd_ne (ne_of_none e3 free)]
   exact e3
theorem ok_sets_reached {cd T : Addr} (F : DefAt K "sets_reached" sSetsReached f fd .none (.ref cd)) (hC : PySem.W.CodeHd base cd T) (bm : BMain mg base) (hq : (("sets_reached.<locals>.<lambda>" : Str), (⟨46, 40, 46, 93⟩ : Pos), T) ∈ tabsL) (c_carried : Callee P w K mg base "carried" 3 ["machine", "rooms", "word"] (spCarried K))
  (c_reached : CalleeD P w K mg base "reached" 8 ["start", "letters", "step", "most"] (spReached P w K mg base) [.non]) (m_len : mg "len" = none) : FnOk P w K mg base CX0 10 f fd ["machine", "rooms"] (spSetsReached T (⟨46, 40, 46, 93⟩ : Pos)) := by
 refine F.fnOk scSetsReached (fun vs H Q E h => ?_) (fun A outer s H vs Q E h hr => ?_)
 ·obtain ⟨m, p, ts, n, rooms, rfl, _⟩ := h
  rfl
 obtain ⟨m, p, ts, n, rooms, rfl, M, hp, hU, hT, q⟩ := h
 refine ⟨_, ?_, (pss_one (ps_ret (pe_callCD c_reached (hr.mono (by decide)) rfl (j := 0) rfl rfl rfl rfl (pl_at (pl_cons (pv 1) (pl_cons (pe_callB call_len_seq rfl m_len boot_len (pa_cons (pv 0) pa_nil)) (pl_cons (pe_lam (qual := "sets_reached.<locals>.<lambda>") rfl hC bm (fun _ _ _ _ _ => rfl) rfl rfl) pl_nil rfl) rfl) rfl)))))⟩
 obtain ⟨rs, hm, hrl, _⟩ := M.refs
 refine ⟨_, rfl, _, rfl, m, _, rfl, .inr (SqT.of hm), ?_⟩
 try dsimp only
 rw [List.length_map, hrl]
 have go : ∀ (fl cc : Addr) (ct : Value) (H1 : Hp) (tps : Array Value), H T = some (.tbl tps) -> KeepsBut T H H1 -> H1 T = some (.tbl (triple (⟨46, 40, 46, 93⟩ : Pos) cc)) -> H1 cc = some (CodeO cc "sets_reached.<locals>.<lambda>") -> ∀ (params : Arguments) (body : Expr) (scope : Scope) (pm : Value) (c : Addr), H1 fl = some (LamO fl (lamFd "sets_reached.<locals>.<lambda>" params body scope "machine" c pm (.ref cc) ct)) ->
   ∀ oc, H1 c = none -> (FnOk P w K mg base CX0 5 fl (lamFd "sets_reached.<locals>.<lambda>" params body scope "machine" c pm (.ref cc) ct) ["here", "letter"] (spStep (Same (upd H1 c (CellO c m oc))) (setsU n) ts.length (stepR ts))) -> Binds K (lamFd "sets_reached.<locals>.<lambda>" params body scope "machine" c pm (.ref cc) ct) ["here", "letter"] [] ->
   spReached P w K mg base [.ref p, nv ts.length, .ref fl, .non] (upd H1 c (CellO c m oc)) (fun r H2 => H2 c = some (CellO c m oc) /\ Q r (L2.drop H2 c)) E0 := fun fl cc ct H1 tps hT0 kb h1 h2 params body scope pm c h3 oc hc hF hB => by
  have k1 := kb.keeps hT0
  have kc := same_new hc (CellO c m oc)
  have n5 := M.n5
  refine ⟨p, fl, _, _, rooms, ts.length, setsU n, stepR ts, rfl, kc _ _ (k1 _ _ (noT_at hp fun _ e => nomatch e)), kc _ _ h3, hU, fun x hx l hl => ?_, ?_, ?_, hF, hB, fun D ws as H2 g2 W nw TT => ⟨g2 _ _ upd_same, q D ws as _ (fun b o hb => ?_) (hT.but hq hT0 (fun b o nb hb => ?_) (.inr ⟨cc, ?_, ?_⟩)) ⟨W.len, ?_, fun j a r e1 e2 => ?_⟩ (fun b hb => ?_) TT⟩⟩
  ·obtain ⟨x1, x2⟩ := mem_setsU.mp hx
   refine mem_setsU.mpr ⟨norm_norm _, fun r hr => ?_⟩
   obtain ⟨y, h4, rfl⟩ := List.mem_map.mp (norm_mem hr)
   exact lead_lt M [l] y (x2 y h4) fun z hz => by rw [List.mem_singleton.mp hz]; exact hl
  ·exact Nat.le_trans (List.length_filter_le _ _) (by rw [List.length_map, List.length_range]; decide)
  ·have := M.few
   lia
  ·have z := k1 b o hb
   rw [drop_ne (ne_of_none z hc)]
   exact g2 _ _ (kc _ _ z)
  ·have z := kb b o nb hb
   rw [drop_ne (ne_of_none z hc)]
   exact g2 _ _ (kc _ _ z)
  ·rw [drop_ne (ne_of_none h1 hc)]
   exact g2 _ _ (kc _ _ h1)
  ·rw [drop_ne (ne_of_none h2 hc)]
   exact g2 _ _ (kc _ _ h2)
  ·rw [drop_ne (ne_of W.dict (g2 _ _ upd_same) fun e => nomatch e)]
   exact W.dict
  ·have z := W.list j a r e1 e2
   rw [drop_ne (ne_of z (g2 _ _ upd_same) fun e => nomatch e)]
   exact z
  ·have z := nw b hb
   cases y : L2.noT H b with
   | none => rfl
   | some o =>
    have z2 := kc _ _ (k1 _ _ y)
    rw [z] at z2
    cases z2
 rcases hT _ hq with hT1 | ⟨cc, hT1, hcc⟩
 ·refine .inl ⟨hT1, fun fl cc ct hfl hcc ne => ⟨m, rfl, fun oc hc => ?_⟩⟩
  obtain ⟨k1, hT2, hc1⟩ := made2 (⟨46, 40, 46, 93⟩ : Pos) "sets_reached.<locals>.<lambda>" hT1 hfl hcc ne _
  have kc := same_new hc (CellO (s.heap.objs.size + 1) m oc)
  obtain ⟨F1, F2⟩ := lam_sets rfl c_carried ((M.keeps (k1.keeps hT1)).same kc) (kc _ _ upd_same) upd_same (kc _ _ hc1)
  exact go fl cc ct _ _ hT1 k1 hT2 hc1 _ _ _ _ _ upd_same oc hc F1 F2
 ·refine .inr ⟨cc, hT1, hcc, fun fl ct hfl => ⟨m, rfl, fun oc hc => ?_⟩⟩
  have k1 : ∀ lo, Same H (upd H fl lo) := fun lo => same_new hfl lo
  have kc := same_new hc (CellO (s.heap.objs.size + 1) m oc)
  obtain ⟨F1, F2⟩ := lam_sets rfl c_carried ((M.same (k1 _)).same kc) (kc _ _ upd_same) upd_same (kc _ _ (k1 _ _ _ hcc))
  exact go fl cc ct _ _ hT1 (fun b o _ hb => k1 _ _ _ hb) (k1 _ _ _ hT1) (k1 _ _ _ hcc) _ _ _ _ _ upd_same oc hc F1 F2
end
def spStill : Sp := fun vs H Q _ => ∃ n : Nat, vs = [nv n] /\ n <= 1000 /\ NewT H ((List.range n).map nv) Q
section
variable {P : Program} {w : World} {K : W.Frag} {mg : Str -> Option Value} {base : Heap} {f : Addr} {fd : FuncData}
theorem ok_still (F : Fun K "still" "still" sStill f fd) (m_tuple : mg "tuple" = none) (m_range : mg "range" = none) : FnOk P w K mg base CX0 1 f fd ["rooms"] spStill := by
 refine F.ok scStill (fun vs H Q E h => ?_) (fun cdv A outer s H vs Q E hr h => ?_)
 ·obtain ⟨n, rfl, _⟩ := h
  rfl
 obtain ⟨n, rfl, hn, q⟩ := h
 refine ⟨_, (pss_one (ps_ret (pe_callTy (call_tup_rng rfl) rfl m_tuple boot_tuple (pa_cons (pe_callTy call_rangeV rfl m_range boot_range (pa_cons (pv 0) pa_nil)) pa_nil)))), ?_⟩
 refine ⟨_, rfl, (n : Int), rfl, fun p hp => ⟨p, (n : Int), rfl, upd_same, by lia, by lia, fun t ht => ?_⟩⟩
 exact q t _ ((same_new hp _).trans (same_new ht _)) upd_same
end
def beh (xs ys : List Nat) : List Nat := xs.map fun x => ys.getD x 0
def spBehind : Sp := fun vs H Q _ => ∃ (a b : Addr) (xs ys : List Nat), vs = [.ref a, .ref b] /\ H a = some (.tup (xs.map nv)) /\ H b = some (.tup (ys.map nv)) /\ (∀ x ∈ xs, x < ys.length) /\ xs.length <= 1000 /\ NewT H ((beh xs ys).map nv) Q
section
variable {P : Program} {w : World} {K : W.Frag} {mg : Str -> Option Value} {base : Heap} {f : Addr} {fd : FuncData}
theorem ok_behind (F : Fun K "behind" "behind" sBehind f fd) (m_tuple : mg "tuple" = none) : FnOk P w K mg base CX0 1 f fd ["one", "other"] spBehind := by
 refine F.ok scBehind (fun vs H Q E h => ?_) (fun cdv A outer s H vs Q E hr h => ?_)
 ·obtain ⟨a, b, xs, ys, rfl, _⟩ := h
  rfl
 obtain ⟨a, b, xs, ys, rfl, ha, hb, hlt, hz, q⟩ := h
 refine ⟨_, (pss_one (ps_ret (pe_callTy call_tuple_of rfl m_tuple boot_tuple (pa_cons (pe_comp1 (CompSc.to (N := ["one", "other"]) (osc := defScope sBehind) (vs := ["room"]) ⟨rfl, by decide +kernel, by decide +kernel, by decide +kernel, by decide +kernel, by decide +kernel, by decide +kernel⟩) rfl rfl (pi_tup (pv 0)) (fun _ _ _ _ => pts_nil) (fun _ _ _ _ => (pe_ix (IxR.k (K := K) rIxT ix_tup rfl) (pv 2) (pv 0) (fun _ _ => rfl)))) pa_nil)))), ?_⟩
 have e : (xs.map nv).map (fun v => match v with | .int i => nv (ys.getD i.toNat 0) | v => v) = (beh xs ys).map nv := by
  unfold beh
  rw [List.map_map, List.map_map]
  rfl
 refine ⟨_, rfl, a, rfl, ⟨_, SqT.of ha⟩, map_tup (f := fun v => match v with | .int i => nv (ys.getD i.toNat 0) | v => v) (by rw [List.length_map]; exact small hz) (SqT.of ha) (fun v Q hv q => ?_) (fun p hp => ?_)⟩
 ·obtain ⟨x, hx, rfl⟩ := List.mem_map.mp hv
  exact ⟨_, rfl, _, rfl, b, _, _, _, rfl, rfl, SqT.of hb, at_nv (hlt x hx), q⟩
 ·rw [e]
  exact ⟨p, _, rfl, .inl ⟨SqL.of upd_same, fun t ht => q t _ ((same_new hp _).trans (same_new ht _)) upd_same⟩⟩
end
def mapsU (n : Nat) : Nat -> List (List Nat)
 | 0 => [[]]
 | k + 1 => (mapsU n k).flatMap fun x => (List.range n).map fun r => x ++ [r]
theorem mem_mapsU {n : Nat} : ∀ {k : Nat} {x : List Nat}, x ∈ mapsU n k ↔ x.length = k /\ ∀ r ∈ x, r < n
 | 0, x => by
  show x ∈ [[]] ↔ _
  rw [List.mem_singleton]
  constructor
  ·rintro rfl
   exact ⟨rfl, fun r hr => nomatch hr⟩
  ·rintro ⟨h, _⟩
   exact List.length_eq_zero_iff.mp h
 | k + 1, x => by
  show x ∈ (mapsU n k).flatMap _ ↔ _
  rw [List.mem_flatMap]
  constructor
  ·rintro ⟨y, hy, hx⟩
   obtain ⟨r, hr, rfl⟩ := List.mem_map.mp hx
   obtain ⟨h1, h2⟩ := mem_mapsU.mp hy
   refine ⟨by simp [h1], fun z hz => ?_⟩
   rcases List.mem_append.mp hz with m | m
   ·exact h2 z m
   ·rw [List.mem_singleton.mp m]
    exact List.mem_range.mp hr
  ·rintro ⟨h1, h2⟩
   have ne : x ≠ [] := fun z => by rw [z] at h1; cases h1
   refine ⟨x.dropLast, mem_mapsU.mpr ⟨by rw [List.length_dropLast, h1]; rfl, fun r hr => h2 r (List.dropLast_subset _ hr)⟩, List.mem_map.mpr ⟨x.getLast ne, List.mem_range.mpr (h2 _ (List.getLast_mem ne)), List.dropLast_concat_getLast ne⟩⟩
theorem mapsU_len {n : Nat} : ∀ k, (mapsU n k).length = n ^ k
 | 0 => rfl
 | k + 1 => by
  show ((mapsU n k).flatMap _).length = _
  rw [List.length_flatMap]
  have z : ∀ l : List (List Nat), (l.map fun x => ((List.range n).map fun r => x ++ [r]).length).sum = l.length * n := by
   intro l
   induction l with
   | nil => simp
   | cons a l ih => rw [List.map_cons, List.sum_cons, ih, List.length_map, List.length_range, List.length_cons, Nat.succ_mul, Nat.add_comm]
  rw [z, mapsU_len k, Nat.pow_succ]
theorem mapsU_few {n : Nat} (h : n <= 5) : (mapsU n n).length <= 4000 := by
 rw [mapsU_len]
 have z : ∀ k : Fin 6, (k : Nat) ^ (k : Nat) <= 4000 := by decide
 exact z ⟨n, by lia⟩
theorem range_mapsU (n : Nat) : List.range n ∈ mapsU n n := mem_mapsU.mpr ⟨List.length_range, fun r hr => List.mem_range.mp hr⟩
def gl (t : List Nat) : Int := -((t.length : Nat) : Int)
def addOne (acc : List (List Nat)) (t : List Nat) : List (List Nat) := if acc.contains t then acc else acc ++ [t]
def uniq (ts : List (List Nat)) : List (List Nat) := ts.foldl addOne []
theorem uniq_snoc (ts : List (List Nat)) (t : List Nat) : uniq (ts ++ [t]) = addOne (uniq ts) t := by
 unfold uniq
 rw [List.foldl_append]
 rfl
theorem addOne_mem {acc : List (List Nat)} {t x : List Nat} : x ∈ addOne acc t ↔ x ∈ acc ∨ x = t := by
 unfold addOne
 by_cases h : acc.contains t = true
 ·rw [if_pos h]
  constructor
  ·exact .inl
  ·rintro (h1 | rfl)
   ·exact h1
   ·exact List.contains_iff_mem.mp h
 ·rw [if_neg h, List.mem_append, List.mem_singleton]
theorem addOne_nodup {acc : List (List Nat)} {t : List Nat} (nd : acc.Nodup) : (addOne acc t).Nodup := by
 unfold addOne
 by_cases h : acc.contains t = true
 ·rw [if_pos h]
  exact nd
 ·rw [if_neg h, List.nodup_append]
  refine ⟨nd, by simp, fun x hx y hy z => h (List.contains_iff_mem.mpr ?_)⟩
  rw [<- List.mem_singleton.mp hy, <- z]
  exact hx
theorem uniq_ok (ts : List (List Nat)) : (uniq ts).Nodup /\ ∀ x, x ∈ uniq ts ↔ x ∈ ts := by
 have go : ∀ (ts acc : List (List Nat)), acc.Nodup -> (ts.foldl addOne acc).Nodup /\ ∀ x, x ∈ ts.foldl addOne acc ↔ x ∈ acc ∨ x ∈ ts := by
  intro ts
  induction ts with
  | nil => intro acc nd; exact ⟨nd, fun x => by simp⟩
  | cons t ts ih =>
   intro acc nd
   obtain ⟨h1, h2⟩ := ih (addOne acc t) (addOne_nodup nd)
   refine ⟨h1, fun x => ?_⟩
   rw [List.foldl_cons, h2 x, addOne_mem, List.mem_cons, or_assoc]
 obtain ⟨h1, h2⟩ := go ts [] List.nodup_nil
 exact ⟨h1, fun x => by rw [show uniq ts = ts.foldl addOne [] from rfl, h2 x]; simp⟩
theorem putK_keys {kvs : List (List Key × V)} {us : List (List Nat)} {t : List Nat} {v : V} (h : kvs.map (·.1) = us.map nk) : (putK kvs (nk t) v).map (·.1) = (addOne us t).map nk := by
 have e : (kvs.any fun kv => decide (kv.1 = nk t)) = us.contains t := by
  rw [Bool.eq_iff_iff, List.any_eq_true, List.contains_iff_mem]
  constructor
  ·rintro ⟨kv, h1, h2⟩
   have m : kv.1 ∈ us.map nk := by rw [<- h]; exact List.mem_map.mpr ⟨kv, h1, rfl⟩
   obtain ⟨u, hu, eu⟩ := List.mem_map.mp m
   have z := nk_inj (eu.trans (of_decide_eq_true h2))
   rw [<- z]
   exact hu
  ·intro ht
   have m : nk t ∈ kvs.map (·.1) := by rw [h]; exact List.mem_map.mpr ⟨t, ht, rfl⟩
   obtain ⟨kv, h1, h2⟩ := List.mem_map.mp m
   exact ⟨kv, h1, decide_eq_true h2⟩
 unfold putK addOne
 rw [e]
 by_cases c : us.contains t = true
 ·rw [if_pos c, if_pos c, <- h, List.map_map]
  refine List.map_congr_left fun kv _ => ?_
  show (if kv.1 = nk t then (kv.1, v) else kv).1 = kv.1
  split <;> rfl
 ·rw [if_neg c, if_neg c, List.map_append, List.map_append, h]
  rfl
theorem in_order_eq {α : Type} {lt : α -> α -> Bool} (ir : ∀ x, lt x x = false) (tr : ∀ x y z, lt x y = true -> lt y z = true -> lt x z = true) : ∀ {us vs : List α}, us.Pairwise (fun x y => lt x y = true) -> vs.Pairwise (fun x y => lt x y = true) -> (∀ x, x ∈ us ↔ x ∈ vs) -> us = vs
 | [], [], _, _, _ => rfl
 | [], q :: vs, _, _, h => absurd ((h q).mpr (List.mem_cons_self ..)) (by simp)
 | p :: us, [], _, _, h => absurd ((h p).mp (List.mem_cons_self ..)) (by simp)
 | p :: us, q :: vs, h1, h2, h => by
  obtain ⟨p1, p2⟩ := List.pairwise_cons.mp h1
  obtain ⟨q1, q2⟩ := List.pairwise_cons.mp h2
  have no : ∀ {x y : α}, lt x y = true -> lt y x = true -> False := fun {x y} a b => by
   have := tr _ _ _ a b
   rw [ir] at this
   cases this
  have pq : p = q := by
   rcases List.mem_cons.mp ((h p).mp (List.mem_cons_self ..)) with e | e
   ·exact e
   ·rcases List.mem_cons.mp ((h q).mpr (List.mem_cons_self ..)) with e' | e'
    ·exact e'.symm
    ·exact (no (q1 p e) (p1 q e')).elim
  subst pq
  have rest : us = vs := in_order_eq ir tr p2 q2 fun r => by
   constructor
   ·intro hr
    rcases List.mem_cons.mp ((h r).mp (List.mem_cons_of_mem _ hr)) with e | e
    ·subst e
     have := p1 r hr
     rw [ir] at this
     cases this
    ·exact e
   ·intro hr
    rcases List.mem_cons.mp ((h r).mpr (List.mem_cons_of_mem _ hr)) with e | e
    ·subst e
     have := q1 r hr
     rw [ir] at this
     cases this
    ·exact e
  rw [rest]
def spInOrder : Sp := fun vs H Q _ => ∃ (l : Addr) (as : List Addr) (ts U : List (List Nat)), vs = [.ref l] /\ H l = some (.lst (as.map .ref)) /\ TupsAt H as ts /\ (∀ t ∈ ts, t ∈ U) /\ U.length < 64 /\ ts.length <= 4000 /\
 ∀ D bs us H', Same H H' -> H D = none -> H' D = some (.lst (bs.map .ref)) -> TupsAt H' bs us -> (∀ x, x ∈ us ↔ x ∈ ts) -> us.Pairwise (fun x y => byKey gl x y = true) -> Q (.ref D) H'
section
variable {P : Program} {w : World} {K : W.Frag} {mg : Str -> Option Value} {base : Heap} {f : Addr} {fd : FuncData}
theorem ok_place (F : Fun K "place_of" "place_of" sPlaceOf f fd) (m_len : mg "len" = none) : FnOk P w K mg base CX0 1 f fd ["rooms"] (spKey gl) := by
 refine F.ok scPlaceOf (fun vs H Q E h => ?_) (fun cdv A outer s H vs Q E hr h => ?_)
 ·obtain ⟨a, t, rfl, _⟩ := h
  rfl
 obtain ⟨a, t, rfl, ha, q⟩ := h
 refine ⟨_, (pss_one (ps_ret (pe_tup (pl_at (pl_cons (pe_un un_neg (pe_callB call_len_seq rfl m_len boot_len (pa_cons (pv 0) pa_nil))) (pl_cons (pv 0) pl_nil rfl) rfl))))), ?_⟩
 refine ⟨_, rfl, a, _, rfl, .inr (SqT.of ha), _, rfl, _, rfl, by show 2 <= sizeLine; decide, fun κ hκ => ?_⟩
 refine q κ _ (same_new hκ _) ?_
 rw [upd_same, List.length_map]
 rfl
theorem ok_in_order (F : Fun K "in_order" "in_order" sInOrder f fd) (c_place_of : Callee P w K mg base "place_of" 1 ["rooms"] (spKey gl)) (m_sorted : mg "sorted" = none) : FnOk P w K mg base CX0 5 f fd ["sets"] spInOrder := by
 refine F.ok scInOrder (fun vs H Q E h => ?_) (fun cdv A outer s H vs Q E hr h => ?_)
 ·obtain ⟨l, as, ts, U, rfl, _⟩ := h
  rfl
 obtain ⟨l, as, ts, U, rfl, hl, T, inU, few, few2, q⟩ := h
 have hu := hr.units
 have hu1 := hu_of hr
 refine ⟨_, (pss_cons (ps_set (i := 1) scInOrder.nd rfl (Or.inl rfl) pe_dnewT) (pss_cons (ps_for PassesOwn.never rfl (pi_list (pv 0)) (pg_name (i := 2) scInOrder.nd rfl (Or.inl rfl)) (pss_one (ps_dput hu1 (pv 1) (pv 2) pe_bl rfl))) (pss_one (ps_ret (pe_sortK rfl hu c_place_of (hr.mono (by decide)) rfl m_sorted rfl (pv 1)))))), ?_⟩
 intro d hd
 have kd := same_new hd (.dT [])
 have la := T.len
 obtain ⟨un, um⟩ := uniq_ok ts
 refine ⟨_, rfl, l, rfl, ⟨_, SqL.of (kd _ _ hl)⟩, for_list (xs := as.map .ref) (fun i σ H' => Same H H' /\ ∃ kvs o, H' d = some (.dT kvs) /\ kvs.map (·.1) = (uniq (ts.take i)).map nk /\ σ = [some (.ref l), some (.ref d), o]) ⟨kd, [], none, upd_same, rfl, rfl⟩ (fun i σ H' _ p => SqL.of (p.1 _ _ hl)) (fun i x σ H' hx p => ?_) (fun σ H' p => ?_)⟩
 ·obtain ⟨g, kvs, o, ed, ek, rfl⟩ := p
  rw [List.getElem?_map] at hx
  obtain ⟨a, ea, rfl⟩ := Option.map_eq_some_iff.mp hx
  have li := (List.getElem?_eq_some_iff.mp ea).1
  obtain ⟨t, et⟩ : ∃ t, ts[i]? = some t := ⟨_, List.getElem?_eq_getElem (by lia)⟩
  have ha := g _ _ (T.is i a t ea et)
  have lk : kvs.length <= ts.length := by
   rw [<- List.length_map (f := (·.1)) (as := kvs), ek, List.length_map]
   refine Nat.le_trans (few_of (uniq_ok _).1 (U := ts) fun x hx => ?_) (Nat.le_refl _)
   exact List.mem_of_mem_take (((uniq_ok _).2 x).mp hx)
  refine ⟨_, rfl, _, rfl, d, _, rfl, DPut.t ed (by rw [nk_kV]; exact ha) (by rw [sizeLine_eq]; lia), ?_⟩
  refine ⟨same_upd g hd, _, _, upd_same, ?_, rfl⟩
  rw [putK_keys ek, List.take_add_one, et]
  show _ = (uniq (ts.take i ++ [t])).map nk
  rw [uniq_snoc]
 ·obtain ⟨g, kvs, o, ed, ek, rfl⟩ := p
  rw [List.length_map, la, List.take_length] at ek
  have lu : (uniq ts).length < 64 := Nat.lt_of_le_of_lt (few_of un fun x hx => inU x ((um x).mp hx)) few
  refine ⟨_, rfl, d, rfl, d, kvs, uniq ts, rfl, ed, ek, lu, fun D bs us H2 g2 hD eD T2 perm pw => ?_⟩
  exact q D bs us H2 (g.trans g2) (g.free hD) eD T2 (fun x => (perm.mem_iff).trans (um x)) pw
end
def PicsAt (H : Hp) (l : Addr) (as : List Addr) (ws : TW) : Prop := H l = some (.lst (as.map .ref)) /\ as.length = ws.length /\ ∀ (j : Nat) (a : Addr) (p : List Nat × List Nat), as[j]? = some a -> ws[j]? = some p -> ∃ b c, c ≠ l /\ H a = some (.tup [.ref b, .ref c]) /\ H b = some (.tup (p.1.map nv)) /\ H c = some (.lst (p.2.map nv))
def spPictures (T : Addr) (pos : Pos) : Sp := fun vs H Q _ => ∃ (m : Addr) (ts : List (List Nat)) (n : Nat), vs = [.ref m] /\ Mach H m ts n /\ Tabs H /\
 ∀ l as ws H', Keeps H H' -> Tabs H' -> PicsAt H' l as ws -> Told (stepR ts) ts.length (List.range n) ws -> Q (.ref l) H'
def dtN (xs : List Nat) : List Dt := (xs.map fun (n : Nat) => (n : Int)).map Dt.int
theorem dtN_inj {xs ys : List Nat} (h : dtN xs = dtN ys) : xs = ys := dt_natsT.mp (congrArg Dt.tup h)
theorem range_setsU {n : Nat} (h : n <= 5) : List.range n ∈ setsU n := by
 have z : ∀ k : Fin 6, norm5 (List.range k) = List.range k := by decide +kernel
 exact mem_setsU.mpr ⟨z ⟨n, by lia⟩, fun r hr => List.mem_range.mp hr⟩
section
variable {P : Program} {w : World} {K : W.Frag} {mg : Str -> Option Value} {base : Heap} {f : Addr} {fd : FuncData}
theorem ok_pictures {T : Addr} (F : Fun K "pictures" "pictures" sPictures f fd) (c_still : Callee P w K mg base "still" 1 ["rooms"] spStill) (c_sets_reached : Callee P w K mg base "sets_reached" 10 ["machine", "rooms"] (spSetsReached T (⟨46, 40, 46, 93⟩ : Pos))) (m_len : mg "len" = none) (m_list : mg "list" = none) :
  FnOk P w K mg base CX0 12 f fd ["machine"] (spPictures T (⟨46, 40, 46, 93⟩ : Pos)) := by
 refine F.ok scPictures (fun vs H Q E h => ?_) (fun cdv A outer s H vs Q E hr h => ?_)
 ·obtain ⟨m, ts, n, rfl, _⟩ := h
  rfl
 obtain ⟨m, ts, n, rfl, M, hT, q⟩ := h
 have t1 := M.some1
 have n5 := M.n5
 obtain ⟨_, r0, b1, b2, b3, b4, b5, b6⟩ := M.at (l := 0) (by lia)
 refine ⟨_, (pss_cons (ps_set (i := 1) scPictures.nd rfl (Or.inl rfl) (pe_callD c_sets_reached (hr.mono (by decide)) rfl (pl_at (pl_cons (pv 0) (pl_cons (pe_callD c_still (hr.mono (by decide)) rfl (pa_cons (pe_callB call_len_seq rfl m_len boot_len (pa_cons (pe_ix ix_tup (pv 0) pe_int (fun _ _ => rfl)) pa_nil)) pa_nil)) pl_nil rfl) rfl)))) (pss_one (ps_ret (pe_callTy (call_list_items rfl) rfl m_list boot_list (pa_cons (pe_bm0 PySem.F.plainAttrs_dict PySem.F.slot_dict_items PySem.F.type_dict_items mt_items (pv 1)) pa_nil))))), ?_⟩
 refine ⟨_, rfl, _, rfl, m, _, _, _, rfl, rfl, SqT.of b1, b3, r0, _, rfl, .inr (SqT.of b4), ?_⟩
 try dsimp only
 rw [List.length_map, b5]
 refine ⟨n, rfl, by lia, fun st H1 g1 e1 => ⟨m, st, ts, n, List.range n, rfl, M.same g1, e1, range_setsU n5, hT.same g1, fun D ws as H2 k2 T2 W _ TT => ?_⟩⟩
 refine ⟨_, rfl, .inr (.inr (.inl ⟨rfl, .inr ⟨_, W.dict⟩⟩)), rfl, D, _, rfl, W.dict, fun v hv => ?_⟩
 have kv := same_new hv (ViewO v D)
 refine ⟨v, D, _, rfl, upd_same, kv _ _ W.dict, fun l ps H3 Ls => ?_⟩
 have k3 : Same (upd H2 v (ViewO v D)) H3 := fun b o hb => by
  rw [Ls.rest b (ne_of_none hb Ls.new) fun z => by rw [Ls.news b z] at hb; cases hb]
  exact hb
 have kk : Same H2 H3 := kv.trans k3
 refine q l ps ws H3 ((g1.keeps.trans k2).trans kk.keeps) (T2.same kk) ⟨Ls.lst, by rw [Ls.len, kvs_len W.len], fun j a p e1 e2 => ?_⟩ TT
 obtain ⟨k, x, b, f1, f2, f3⟩ := Ls.is j a e1
 obtain ⟨hj, _⟩ := List.getElem?_eq_some_iff.mp e2
 obtain ⟨c, ec⟩ : ∃ c, as[j]? = some c := ⟨_, List.getElem?_eq_getElem (by rw [W.len]; exact hj)⟩
 rw [kvs_at e2 ec] at f1
 cases f1
 have hc := kv _ _ (W.list j c p ec e2)
 rw [nk_kV] at f2
 exact ⟨b, c, ne_of_none hc Ls.new, f3, k3 _ _ f2, k3 _ _ hc⟩
end
theorem norm_cong {xs ys : List Nat} (h : ∀ r, r ∈ xs ↔ r ∈ ys) : norm5 xs = norm5 ys := by
 unfold norm5
 refine List.filter_congr fun i _ => ?_
 rw [Bool.eq_iff_iff, List.contains_iff_mem, List.contains_iff_mem]
 exact h i
theorem step_setsU {H : Hp} {m : Addr} {ts : List (List Nat)} {n : Nat} (M : Mach H m ts n) {x : List Nat} {l : Nat} (hx : x ∈ setsU n) (hl : l < ts.length) : stepR ts x l ∈ setsU n := by
 obtain ⟨x1, x2⟩ := mem_setsU.mp hx
 refine mem_setsU.mpr ⟨norm_norm _, fun r hr => ?_⟩
 obtain ⟨y, h4, rfl⟩ := List.mem_map.mp (norm_mem hr)
 exact lead_lt M [l] y (x2 y h4) fun z hz => by rw [List.mem_singleton.mp hz]; exact hl
theorem goes_norm {H : Hp} {m : Addr} {ts : List (List Nat)} {n : Nat} (M : Mach H m ts n) : ∀ (word : List Nat) (x : List Nat), x ∈ setsU n -> (∀ l ∈ word, l < ts.length) -> goes (stepR ts) x word = norm5 (leadsR ts x word)
 | [], x, hx, _ => by
  show x = norm5 (x.map fun r => lead ts r [])
  rw [show (fun r => lead ts r []) = id from rfl, List.map_id]
  exact (mem_setsU.mp hx).1.symm
 | l :: word, x, hx, h => by
  have hl := h l (List.mem_cons_self ..)
  have n5 := M.n5
  show goes (stepR ts) (stepR ts x l) word = _
  rw [goes_norm M word _ (step_setsU M hx hl) fun y hy => h y (List.mem_cons_of_mem _ hy)]
  refine norm_cong fun r => ?_
  unfold leadsR
  rw [List.mem_map, List.mem_map]
  constructor
  ·rintro ⟨y, hy, rfl⟩
   obtain ⟨z, hz, rfl⟩ := List.mem_map.mp (norm_mem hy)
   exact ⟨z, hz, rfl⟩
  ·rintro ⟨z, hz, rfl⟩
   have zl := lead_lt M [l] z ((mem_setsU.mp hx).2 z hz) fun y hy => by rw [List.mem_singleton.mp hy]; exact hl
   exact ⟨lead ts z [l], mem_norm (List.mem_map.mpr ⟨z, hz, rfl⟩) (by lia), rfl⟩
theorem list_choose {α : Type} {P : Nat -> α -> Prop} : ∀ {n : Nat}, (∀ j, j < n -> ∃ x, P j x) -> ∃ xs : List α, xs.length = n /\ ∀ (j : Nat) (x : α), xs[j]? = some x -> P j x
 | 0, _ => ⟨[], rfl, fun j x e => by simp at e⟩
 | n + 1, h => by
  obtain ⟨xs, h1, h2⟩ := list_choose (n := n) fun j hj => h j (by lia)
  obtain ⟨x, hx⟩ := h n (by lia)
  refine ⟨xs ++ [x], by simp [h1], fun j y e => ?_⟩
  by_cases hj : j < n
  ·rw [List.getElem?_append_left (by lia)] at e
   exact h2 j y e
  ·rw [List.getElem?_append_right (by lia)] at e
   have z : j - xs.length = 0 := by
    have := (List.getElem?_eq_some_iff.mp e).1
    simp at this
    lia
   rw [z] at e
   cases e
   have jn : j = n := by lia
   subst jn
   exact hx
structure Prs (H : Hp) (l : Addr) (as : List Addr) (bc : List (Addr × Addr)) (ws : TW) : Prop where
 lst : H l = some (.lst (as.map .ref))
 la : as.length = ws.length
 lb : bc.length = ws.length
 is : ∀ (j : Nat) (a : Addr) (q : Addr × Addr) (p : List Nat × List Nat), as[j]? = some a -> bc[j]? = some q -> ws[j]? = some p -> q.2 ≠ l /\ H a = some (.tup [.ref q.1, .ref q.2]) /\ H q.1 = some (.tup (p.1.map nv)) /\ H q.2 = some (.lst (p.2.map nv))
theorem PicsAt.prs {H : Hp} {l : Addr} {as : List Addr} {ws : TW} (h : PicsAt H l as ws) : ∃ bc, Prs H l as bc ws := by
 obtain ⟨h1, h2, h3⟩ := h
 obtain ⟨bc, e1, e2⟩ := list_choose (n := ws.length) (P := fun j (q : Addr × Addr) => ∀ a p, as[j]? = some a -> ws[j]? = some p -> q.2 ≠ l /\ H a = some (.tup [.ref q.1, .ref q.2]) /\ H q.1 = some (.tup (p.1.map nv)) /\ H q.2 = some (.lst (p.2.map nv))) fun j hj => by
  obtain ⟨a, ea⟩ : ∃ a, as[j]? = some a := ⟨_, List.getElem?_eq_getElem (by lia)⟩
  obtain ⟨p, ep⟩ : ∃ p, ws[j]? = some p := ⟨_, List.getElem?_eq_getElem hj⟩
  obtain ⟨b, c, f0, f1, f2, f3⟩ := h3 j a p ea ep
  refine ⟨(b, c), fun a' p' ea' ep' => ?_⟩
  rw [ea] at ea'
  rw [ep] at ep'
  cases ea'
  cases ep'
  exact ⟨f0, f1, f2, f3⟩
 exact ⟨bc, h1, h2, e1, fun j a q p ea eb ep => e2 j q eb a p ea ep⟩
theorem Prs.at {H : Hp} {l : Addr} {as : List Addr} {bc : List (Addr × Addr)} {ws : TW} (h : Prs H l as bc ws) {j : Nat} (hj : j < ws.length) : ∃ a q p, as[j]? = some a /\ bc[j]? = some q /\ ws[j]? = some p /\ q.2 ≠ l /\ H a = some (.tup [.ref q.1, .ref q.2]) /\ H q.1 = some (.tup (p.1.map nv)) /\ H q.2 = some (.lst (p.2.map nv)) := by
 have h1 := h.la
 have h2 := h.lb
 obtain ⟨a, ea⟩ : ∃ a, as[j]? = some a := ⟨_, List.getElem?_eq_getElem (by lia)⟩
 obtain ⟨q, eq⟩ : ∃ q, bc[j]? = some q := ⟨_, List.getElem?_eq_getElem (by lia)⟩
 obtain ⟨p, ep⟩ : ∃ p, ws[j]? = some p := ⟨_, List.getElem?_eq_getElem hj⟩
 exact ⟨a, q, p, ea, eq, ep, h.is j a q p ea eq ep⟩
def Pic (ts : List (List Nat)) (n : Nat) (x : List Nat) : Prop := ∃ word : List Nat, (∀ l ∈ word, l < ts.length) /\ goes (stepR ts) (List.range n) word = x
structure FamOf (ts : List (List Nat)) (n : Nat) (us : List (List Nat)) : Prop where
 up : us.Pairwise fun x y => byKey gl x y = true
 mem : ∀ x, x ∈ us ↔ (Pic ts n x ∨ ∃ r, r < n /\ x = [r])
theorem FamOf.uniq {ts : List (List Nat)} {n : Nat} {us vs : List (List Nat)} (h1 : FamOf ts n us) (h2 : FamOf ts n vs) : us = vs := in_order_eq (total_key gl us).irr (total_key gl us).trans h1.up h2.up fun x => (h1.mem x).trans (h2.mem x).symm
theorem pic_told {ts : List (List Nat)} {n : Nat} {ws : TW} (T : Told (stepR ts) ts.length (List.range n) ws) (x : List Nat) : x ∈ ws.map (·.1) ↔ Pic ts n x := by
 constructor
 ·intro h
  obtain ⟨p, hp, rfl⟩ := List.mem_map.mp h
  obtain ⟨r1, r2⟩ := T.run p hp
  exact ⟨p.2, r1, r2⟩
 ·rintro ⟨word, h1, rfl⟩
  obtain ⟨u, h2, _⟩ := T.least _ word rfl h1
  exact List.mem_map.mpr ⟨_, h2, rfl⟩
theorem one_in {n r : Nat} (n5 : n <= 5) (h : r < n) : [r] ∈ setsU n := by
 have z : ∀ k : Fin 5, norm5 [(k : Nat)] = [(k : Nat)] := by decide +kernel
 exact mem_setsU.mpr ⟨z ⟨r, by lia⟩, fun x hx => by rw [List.mem_singleton.mp hx]; exact h⟩
theorem pic_in {H : Hp} {m : Addr} {ts : List (List Nat)} {n : Nat} (M : Mach H m ts n) {x : List Nat} (h : Pic ts n x) : x ∈ setsU n := by
 obtain ⟨word, h1, rfl⟩ := h
 exact goes_in (range_setsU M.n5) (fun y hy l hl => step_setsU M hy hl) word h1
theorem setsU_few (n : Nat) : (setsU n).length <= 32 := Nat.le_trans (List.length_filter_le _ _) (by rw [List.length_map, List.length_range]; decide)
theorem FamOf.inU {H : Hp} {m : Addr} {ts : List (List Nat)} {n : Nat} {us : List (List Nat)} (M : Mach H m ts n) (h : FamOf ts n us) {x : List Nat} (hx : x ∈ us) : x ∈ setsU n := by
 rcases (h.mem x).mp hx with z | ⟨r, hr, rfl⟩
 ·exact pic_in M z
 ·exact one_in M.n5 hr
theorem FamOf.few {H : Hp} {m : Addr} {ts : List (List Nat)} {n : Nat} {us : List (List Nat)} (M : Mach H m ts n) (h : FamOf ts n us) : us.length <= 32 := by
 refine Nat.le_trans (few_of (U := setsU n) ?_ fun x hx => h.inU M hx) (setsU_few n)
 exact h.up.imp fun {a b} z e => by
  subst e
  rw [(total_key gl us).irr] at z
  cases z
theorem setsU_len {n : Nat} (n5 : n <= 5) {x : List Nat} (h : x ∈ setsU n) : x.length <= n := by
 obtain ⟨x1, x2⟩ := mem_setsU.mp h
 rw [<- x1, norm_range n5 x2]
 exact Nat.le_trans (List.length_filter_le _ _) (by simp)
theorem tups_off {H : Hp} {d : Addr} {o o' : HO} {bs : List Addr} {us : List (List Nat)} (T : TupsAt H bs us) (h : H d = some o) (no : ∀ xs, o ≠ .tup xs) : TupsAt (upd H d o') bs us := ⟨T.len, fun i b u e1 e2 => by
 have z := T.is i b u e1 e2
 rw [upd_ne (ne_of z h fun e => no _ e.symm)]
 exact z⟩
theorem tups_snoc {H : Hp} {bs : List Addr} {us : List (List Nat)} {p : Addr} {u : List Nat} (h : TupsAt H bs us) (hp : H p = some (.tup (u.map nv))) : TupsAt H (bs ++ [p]) (us ++ [u]) := by
 refine ⟨by simp [h.len], fun i b v e1 e2 => ?_⟩
 have l := h.len
 by_cases hi : i < us.length
 ·rw [List.getElem?_append_left (by lia)] at e1 e2
  exact h.is i b v e1 e2
 ·rw [List.getElem?_append_right (by lia)] at e1 e2
  have z : i - us.length = 0 := by
   have := (List.getElem?_eq_some_iff.mp e2).1
   simp at this
   lia
  rw [l, z] at e1
  rw [z] at e2
  cases e1
  cases e2
  exact hp
theorem tups_app {H : Hp} {bs cs : List Addr} {us vs : List (List Nat)} (h : TupsAt H bs us) (h' : TupsAt H cs vs) : TupsAt H (bs ++ cs) (us ++ vs) := by
 refine ⟨by simp [h.len, h'.len], fun i b v e1 e2 => ?_⟩
 have l := h.len
 by_cases hi : i < us.length
 ·rw [List.getElem?_append_left (by lia)] at e1 e2
  exact h.is i b v e1 e2
 ·rw [List.getElem?_append_right (by lia)] at e1 e2
  rw [l] at e1
  exact h'.is _ b v e1 e2
theorem rep_tups {K : W.Frag} {H : Hp} {l : Addr} {bs : List Addr} {us : List (List Nat)} (h1 : H l = some (.lst (bs.map .ref))) (T : TupsAt H bs us) : Rep K H 2 (.lst (us.map fun u => .tup (dtN u))) (.ref l) := by
 refine .lst (SqL.of h1) (by rw [List.length_map, List.length_map, T.len]) fun i d v e1 e2 => ?_
 rw [List.getElem?_map] at e1 e2
 obtain ⟨p, ep, rfl⟩ := Option.map_eq_some_iff.mp e1
 obtain ⟨a, ea, rfl⟩ := Option.map_eq_some_iff.mp e2
 exact repTn (SqT.of (T.is i a p ea ep))
theorem dts_inj {us vs : List (List Nat)} (h : (Dt.lst (us.map fun u => .tup (dtN u))) = Dt.lst (vs.map fun u => .tup (dtN u))) : us = vs := by
 injection h with h
 exact map_inj (fun a b e => by injection e with e; exact dtN_inj e) h
def spFamily (T : Addr) (pos : Pos) : Sp := fun vs H Q _ => ∃ (m : Addr) (ts : List (List Nat)) (n : Nat), vs = [.ref m] /\ Mach H m ts n /\ Tabs H /\
 ∀ D bs us H', Keeps H H' -> Tabs H' -> L2.noT H D = none -> H' D = some (.lst (bs.map .ref)) -> TupsAt H' bs us -> FamOf ts n us -> Q (.ref D) H'
section
variable {P : Program} {w : World} {K : W.Frag} {mg : Str -> Option Value} {base : Heap} {f : Addr} {fd : FuncData}
theorem ok_family {T : Addr} (F : Fun K "family" "family" sFamily f fd) (c_pictures : Callee P w K mg base "pictures" 12 ["machine"] (spPictures T (⟨46, 40, 46, 93⟩ : Pos))) (c_in_order : Callee P w K mg base "in_order" 5 ["sets"] spInOrder) (m_len : mg "len" = none) (m_range : mg "range" = none) : FnOk P w K mg base CX0 14 f fd ["machine"] (spFamily T (⟨46, 40, 46, 93⟩ : Pos)) := by
 refine F.ok scFamily (fun vs H Q E h => ?_) (fun cdv A outer s H vs Q E hr h => ?_)
 ·obtain ⟨m, ts, n, rfl, _⟩ := h
  rfl
 obtain ⟨m, ts, n, rfl, M, hT, q⟩ := h
 have t1 := M.some1
 have n1 := M.n1
 have n5 := M.n5
 obtain ⟨_, r0, b1, b2, b3, b4, b5, b6⟩ := M.at (l := 0) (by lia)
 refine ⟨_, (pss_cons (ps_setC1 (CompSc.to (N := ["machine", "singles"]) (osc := defScope sFamily) (vs := ["room"]) ⟨rfl, by decide +kernel, by decide +kernel, by decide +kernel, by decide +kernel, by decide +kernel, by decide +kernel⟩) rfl rfl scFamily.nd (j := 1) rfl rfl (pi_range1 rfl m_range (pa_cons (pe_callB call_len_seq rfl m_len boot_len (pa_cons (pe_ix ix_tup (pv 0) pe_int (fun _ _ => rfl)) pa_nil)) pa_nil)) (fun _ _ _ _ => pts_nil) (fun _ _ _ _ => (pe_tup (pa_cons (pv 0) pa_nil)))) (pss_one (ps_ret (pe_callD c_in_order (hr.mono (by decide)) rfl (pa_cons (pe_op op_catS (pe_comp (CompSc.to (N := ["machine", "singles"]) (osc := defScope sFamily) (vs := ["rooms", "word"]) ⟨rfl, by decide +kernel, by decide +kernel, by decide +kernel, by decide +kernel, by decide +kernel, by decide +kernel⟩) rfl (pi_list (pe_callD c_pictures (hr.mono (by decide)) rfl (pa_cons (pv 0) pa_nil))) (pg_own2 (CompSc.to (N := ["machine", "singles"]) (osc := defScope sFamily) (vs := ["rooms", "word"]) ⟨rfl, by decide +kernel, by decide +kernel, by decide +kernel, by decide +kernel, by decide +kernel, by decide +kernel⟩) rfl rfl rfl) (fun _ _ _ _ => pts_nil) (fun _ _ _ _ => (pv 0))) (pv 1)) pa_nil))))), ?_⟩
 refine ⟨_, rfl, m, _, _, _, rfl, rfl, SqT.of b1, b3, r0, _, rfl, .inr (SqT.of b4), (n : Int), by rw [List.length_map, b5], by lia, by lia, comp_range (fun i ys H' => Same H H' /\ ∃ rs, ys = rs.map V.ref /\ rs.length = i /\ TupsAt H' rs ((List.range i).map fun r => [r])) (by rw [Int.toNat_natCast]; exact small (by lia)) ⟨Same.refl _, [], rfl, rfl, rfl, fun i b u e => by simp at e⟩ (fun i ys H' _ p => ?_) (fun i ys H' hi p => ?_) (fun ys H1 p sg hsg => ?_)⟩
 ·obtain ⟨_, rs, rfl, e, _⟩ := p
  rw [List.length_map]
  lia
 ·obtain ⟨g, rs, rfl, e, T1⟩ := p
  have e0 : V.int (0 + (i : Int)) = nv i := by show V.int (0 + (i : Int)) = V.int (i : Int); rw [Int.zero_add]
  refine ⟨keep_one, yes_of ⟨_, rfl, by show 1 <= sizeLine; decide, fun p hp => ?_⟩⟩
  have k := same_new hp (.tup [V.int (0 + (i : Int))])
  refine ⟨g.trans k, rs ++ [p], by simp, by simp [e], ?_⟩
  rw [List.range_succ, List.map_append]
  refine tups_snoc (T1.same k) ?_
  rw [upd_same, e0]
  rfl
 obtain ⟨g1, rs, rfl, er, T1⟩ := p
 rw [Int.toNat_natCast] at T1 er
 have k1 := same_new hsg (.lst (rs.map V.ref))
 have esg : upd H1 sg (.lst (rs.map V.ref)) sg = some (.lst (rs.map V.ref)) := upd_same
 have T2 := T1.same k1
 have g2 := g1.trans k1
 generalize upd H1 sg (.lst (rs.map V.ref)) = H2 at k1 esg T2 g2 ⊢
 refine ⟨_, rfl, m, ts, n, rfl, M.same g2, hT.same g2, fun l as ws H3 k3 T3 pic TT => ?_⟩
 obtain ⟨bc, pr⟩ := pic.prs
 have fine := (M.same g2)
 have few : ws.length <= 32 := by
  rw [<- List.length_map (f := (·.1)) (as := ws)]
  exact Nat.le_trans (few_of TT.keys fun x hx => pic_in M ((pic_told TT x).mp hx)) (setsU_few n)
 refine ⟨l, rfl, ⟨_, SqL.of pr.lst⟩, comp_list (xs := as.map .ref) (fun i ys H' => H' = H3 /\ ∃ bs, ys = bs.map V.ref /\ bs.length = i /\ TupsAt H3 bs ((ws.take i).map (·.1))) (by rw [List.length_map, pr.la, sizeLine_eq]; lia) ⟨rfl, [], rfl, rfl, rfl, fun i b u e => by simp at e⟩ (fun i ys H' _ p => ?_) (fun i v ys H' hv p => ?_) (fun ys H' p c1 hc1 => ?_)⟩
 ·obtain ⟨rfl, bs, rfl, e, _⟩ := p
  exact ⟨SqL.of pr.lst, by rw [List.length_map]; lia⟩
 ·obtain ⟨rfl, bs, rfl, e, T4⟩ := p
  rw [List.getElem?_map] at hv
  obtain ⟨a1, ea, rfl⟩ := Option.map_eq_some_iff.mp hv
  obtain ⟨a', q', p', ea', eq', ep', f0, f1, f2, f3⟩ := pr.at (j := i) (by have := (List.getElem?_eq_some_iff.mp ea).1; rw [<- pr.la]; exact this)
  rw [ea] at ea'
  cases ea'
  refine ⟨a1, _, rfl, SqT.of f1, rfl, _, _, rfl, _, _, rfl, rfl, keep_two, yes_of ⟨_, rfl, rfl, bs ++ [q'.1], by simp, by simp [e], ?_⟩⟩
  rw [List.take_add_one, ep', List.map_append]
  exact tups_snoc T4 f2
 obtain ⟨rfl, bs, rfl, e, T4⟩ := p
 rw [List.length_map, pr.la, List.take_length] at T4
 have kc := same_new hc1 (.lst (bs.map V.ref))
 have esg3 := kc _ _ (k3 _ _ (noT_at esg fun _ e => nomatch e))
 have T5 : TupsAt (upd H' c1 (.lst (bs.map V.ref))) rs ((List.range n).map fun r => [r]) := ⟨T2.len, fun i b u e1 e2 => kc _ _ (k3 _ _ (noT_at (T2.is i b u e1 e2) fun _ e => nomatch e))⟩
 have lb : bs.length = ws.length := by rw [T4.len, List.length_map]
 refine ⟨_, rfl, c1, sg, _, _, rfl, rfl, SqL.of upd_same, SqL.of esg3, by rw [List.length_map, List.length_map, lb, er, sizeLine_eq]; lia, fun l2 hl2 => ?_⟩
 have k2 := same_new hl2 (.lst (bs.map V.ref ++ rs.map V.ref))
 have T6 := (tups_app (T4.same kc) T5).same k2
 refine ⟨l2, bs ++ rs, _, setsU n, rfl, by rw [upd_same, List.map_append], T6, fun t ht => ?_, Nat.lt_of_le_of_lt (setsU_few n) (by decide), by rw [List.length_append, List.length_map, List.length_map, List.length_range]; lia, fun D ds us H5 g5 hD eD T7 mem up => ?_⟩
 ·rcases List.mem_append.mp ht with z | z
  ·exact pic_in M ((pic_told TT t).mp z)
  ·obtain ⟨r, hr', rfl⟩ := List.mem_map.mp z
   exact one_in n5 (List.mem_range.mp hr')
 ·have kk : Keeps H H5 := ((g2.keeps.trans k3).trans (kc.trans k2).keeps).trans g5.keeps
  refine q D ds us H5 kk (T3.same ((kc.trans k2).trans g5)) ?_ eD T7 ⟨up, fun x => ?_⟩
  ·cases y : L2.noT H D with
   | none => rfl
   | some o =>
    have z := (kc.trans k2) _ _ ((g2.keeps.trans k3) _ _ y)
    rw [hD] at z
    cases z
  ·rw [mem x, List.mem_append, pic_told TT x]
   refine or_congr Iff.rfl ?_
   rw [List.mem_map]
   constructor
   ·rintro ⟨r, h1, rfl⟩
    exact ⟨r, List.mem_range.mp h1, rfl⟩
   ·rintro ⟨r, h1, rfl⟩
    exact ⟨r, List.mem_range.mpr h1, rfl⟩
end
def sub (x y : List Nat) : Bool := x.all fun r => y.contains r
def spSub : Sp := fun vs H Q _ => ∃ (a b : Addr) (x y : List Nat), vs = [.ref a, .ref b] /\ H a = some (.tup (x.map nv)) /\ H b = some (.tup (y.map nv)) /\ x.length <= 5 /\ ∀ H', Same H H' -> Q (.bl (sub x y)) H'
def inside (fam : List (List Nat)) (x : List Nat) : List (List Nat) := fam.filter fun u => decide (u ≠ x) && sub u x
def covered (us : List (List Nat)) (u : List Nat) : Bool := us.any fun v => decide (v ≠ u) && sub u v
def tilesOf (fam : List (List Nat)) (x : List Nat) : List (List Nat) := (inside fam x).filter fun u => !covered (inside fam x) u
def spCov : Sp := fun vs H Q _ => ∃ (a l : Addr) (x : List Nat) (bs : List Addr) (us : List (List Nat)), vs = [.ref a, .ref l] /\ H a = some (.tup (x.map nv)) /\ H l = some (.lst (bs.map .ref)) /\ TupsAt H bs us /\ x.length <= 5 /\ us.length <= 32 /\ ∀ H', Same H H' -> Q (.bl (covered us x)) H'
def spTiles (T : Addr) (pos : Pos) : Sp := fun vs H Q _ => ∃ (m p : Addr) (ts : List (List Nat)) (n : Nat) (x : List Nat), vs = [.ref m, .ref p] /\ Mach H m ts n /\ H p = some (.tup (x.map nv)) /\ Tabs H /\
 ∀ D bs us fam H', Keeps H H' -> Tabs H' -> L2.noT H D = none -> H' D = some (.lst (bs.map .ref)) -> TupsAt H' bs us -> FamOf ts n fam -> us = tilesOf fam x -> Q (.ref D) H'
theorem tups_take {H : Hp} {cs : List Addr} {us : List (List Nat)} {f : List Nat -> Bool} {i : Nat} {a : Addr} {t : List Nat} (T : TupsAt H cs ((us.take i).filter f)) (et : us[i]? = some t) (ha : H a = some (.tup (t.map nv))) : if f t = true then TupsAt H (cs ++ [a]) ((us.take (i + 1)).filter f) else TupsAt H cs ((us.take (i + 1)).filter f) := by
 have nx : (us.take (i + 1)).filter f = (us.take i).filter f ++ (if f t = true then [t] else []) := by
  rw [List.take_add_one, et, List.filter_append]
  cases c : f t with
  | true => simp [c]
  | false => simp [c]
 rw [nx]
 cases c : f t with
 | true => exact tups_snoc T ha
 | false =>
  rw [if_neg (by decide), if_neg (by decide), List.append_nil]
  exact T
section
variable {P : Program} {w : World} {K : W.Frag} {mg : Str -> Option Value} {base : Heap} {f : Addr} {fd : FuncData}
theorem ok_lies_in (F : Fun K "lies_in" "lies_in" sLiesIn f fd) (m_all : mg "all" = none) : FnOk P w K mg base CX0 1 f fd ["one", "other"] spSub := by
 refine F.ok scLiesIn (fun vs H Q E h => ?_) (fun cdv A outer s H vs Q E hr h => ?_)
 ·obtain ⟨a, b, x, y, rfl, _⟩ := h
  rfl
 obtain ⟨a, b, x, y, rfl, ha, hb, l5, q⟩ := h
 refine ⟨_, (pss_one (ps_ret (pe_callB (call_allL rfl) rfl m_all boot_all (pa_cons (pe_comp1 (CompSc.to (N := ["one", "other"]) (osc := defScope sLiesIn) (vs := ["room"]) ⟨rfl, by decide +kernel, by decide +kernel, by decide +kernel, by decide +kernel, by decide +kernel, by decide +kernel⟩) rfl rfl (pi_tup (pv 0)) (fun _ _ _ _ => pts_nil) (fun _ _ _ _ => (pe_cmpR (OpR.k (K := K) (fun K => rIn K false) op_in_seq rfl) (pv 0) (pv 2) (by with_unfolding_all rfl)))) pa_nil)))), ?_⟩
 refine ⟨_, rfl, a, rfl, ⟨_, SqT.of ha⟩, map_tup (f := fun v => match v with | .int i => .bl (y.contains i.toNat) | v => v) (by rw [List.length_map]; exact small (by lia)) (SqT.of ha) (fun v Q hv q => ?_) (fun l hl => ?_)⟩
 ·obtain ⟨r, h1, rfl⟩ := List.mem_map.mp hv
  refine ⟨_, rfl, _, rfl, b, _, rfl, .inr (SqT.of hb), rfl, flat_nv _, ?_⟩
  try dsimp only
  rw [in_nv]
  exact q
 ·have e : (x.map nv).map (fun v => match v with | .int i => V.bl (y.contains i.toNat) | v => v) = (x.map fun r => y.contains r).map V.bl := by
   rw [List.map_map, List.map_map]
   rfl
  try dsimp only
  rw [e]
  refine ⟨l, _, rfl, SqL.of upd_same, ?_⟩
  have e2 : (x.map fun r => y.contains r).all id = sub x y := by
   unfold sub
   rw [List.all_map]
   rfl
  try dsimp only
  rw [e2]
  exact q _ (same_new hl _)
theorem ok_covered (F : Fun K "is_covered" "is_covered" sIsCovered f fd) (c_lies_in : Callee P w K mg base "lies_in" 1 ["one", "other"] spSub) (m_any : mg "any" = none) : FnOk P w K mg base CX0 3 f fd ["part", "sets"] spCov := by
 refine F.ok scIsCovered (fun vs H Q E h => ?_) (fun cdv A outer s H vs Q E hr h => ?_)
 ·obtain ⟨a, l, x, bs, us, rfl, _⟩ := h
  rfl
 obtain ⟨a, l, x, bs, us, rfl, ha, hl, T, l5, few, q⟩ := h
 have hu := hr.units
 have lb := T.len
 refine ⟨_, (pss_one (ps_ret (pe_callB (call_anyL rfl) rfl m_any boot_any (pa_cons (pe_comp1 (CompSc.to (N := ["part", "sets"]) (osc := defScope sIsCovered) (vs := ["other"]) ⟨rfl, by decide +kernel, by decide +kernel, by decide +kernel, by decide +kernel, by decide +kernel, by decide +kernel⟩) rfl rfl (pi_list (pv 1)) (fun _ _ _ _ => pts_nil) (fun _ _ _ _ => (pe_and (pe_cmpR (OpR.k (K := K) (fun K => rEqD K true) (op_neD hu) rfl) (pv 0) (pv 1) (nomark _)) (pe_one (pe_callD c_lies_in (hr.mono (by decide)) rfl (pl_at (pl_cons (pv 1) (pl_cons (pv 0) pl_nil rfl) rfl))))))) pa_nil)))), ?_⟩
 refine ⟨_, rfl, l, rfl, ⟨_, SqL.of hl⟩, comp_list (xs := bs.map .ref) (fun i ys H' => Same H H' /\ ys = ((us.take i).map fun v => decide (v ≠ x) && sub x v).map V.bl) (by rw [List.length_map, sizeLine_eq]; lia) ⟨Same.refl _, rfl⟩ (fun i ys H' hi p => ?_) (fun i v ys H' hv p => ?_) (fun ys H' p c1 hc1 => ?_)⟩
 ·obtain ⟨g, rfl⟩ := p
  exact ⟨SqL.of (g _ _ hl), by simp; lia⟩
 ·obtain ⟨g, rfl⟩ := p
  rw [List.getElem?_map] at hv
  obtain ⟨b, eb, rfl⟩ := Option.map_eq_some_iff.mp hv
  have li := (List.getElem?_eq_some_iff.mp eb).1
  obtain ⟨u, eu⟩ : ∃ u, us[i]? = some u := ⟨_, List.getElem?_eq_getElem (by lia)⟩
  have hb := g _ _ (T.is i b u eb eu)
  have hx := g _ _ ha
  have nx : ((us.take (i + 1)).map fun v => decide (v ≠ x) && sub x v).map V.bl = ((us.take i).map fun v => decide (v ≠ x) && sub x v).map V.bl ++ [V.bl (decide (u ≠ x) && sub x u)] := by
   rw [List.take_add_one, eu, List.map_append, List.map_append]
   rfl
  refine ⟨keep_one, yes_of ?_⟩
  refine ⟨_, rfl, _, rfl, b, a, 0, _, _, rfl, rfl, repTn (SqT.of hb), repTn (SqT.of hx), by decide, fun c hc => ?_⟩
  by_cases e : u = x
  ·have hc' : c = true := hc.mpr (dt_natsT.mpr e)
   subst hc'
   refine ⟨_, rfl, iteF ⟨g, ?_⟩⟩
   rw [nx, decide_eq_false (fun z => z e)]
   rfl
  ·have hc' : c = false := by
    cases c with
    | false => rfl
    | true => exact absurd (dt_natsT.mp (hc.mp rfl)) e
   subst hc'
   refine ⟨_, rfl, iteT ⟨_, rfl, _, rfl, a, b, x, u, rfl, hx, hb, l5, fun H4 g4 => ⟨g.trans g4, ?_⟩⟩⟩
   rw [nx, decide_eq_true e, Bool.true_and]
 ·obtain ⟨g, rfl⟩ := p
  rw [List.length_map, lb, List.take_length]
  have e2 : (us.map fun v => decide (v ≠ x) && sub x v).any id = covered us x := by
   unfold covered
   rw [List.any_map]
   rfl
  refine ⟨c1, _, rfl, SqL.of upd_same, ?_⟩
  try dsimp only
  rw [e2]
  exact q _ (g.trans (same_new hc1 _))
theorem ok_tiles {T : Addr} (F : Fun K "tiles" "tiles" sTiles f fd) (c_family : Callee P w K mg base "family" 14 ["machine"] (spFamily T (⟨46, 40, 46, 93⟩ : Pos))) (c_lies_in : Callee P w K mg base "lies_in" 1 ["one", "other"] spSub) (c_is_covered : Callee P w K mg base "is_covered" 3 ["part", "sets"] spCov) : FnOk P w K mg base CX0 16 f fd ["machine", "rooms"] (spTiles T (⟨46, 40, 46, 93⟩ : Pos)) := by
 refine F.ok scTiles (fun vs H Q E h => ?_) (fun cdv A outer s H vs Q E hr h => ?_)
 ·obtain ⟨m, p, ts, n, x, rfl, _⟩ := h
  rfl
 obtain ⟨m, p, ts, n, x, rfl, M, hp, hT, q⟩ := h
 have hu := hr.units
 have n5 := M.n5
 refine ⟨_, (pss_cons (ps_set (i := 2) scTiles.nd rfl (Or.inr rfl) (pe_comp1 (CompSc.to (N := ["machine", "rooms", "within"]) (osc := defScope sTiles) (vs := ["part"]) ⟨rfl, by decide +kernel, by decide +kernel, by decide +kernel, by decide +kernel, by decide +kernel, by decide +kernel⟩) rfl rfl (pi_list (pe_callD c_family (hr.mono (by decide)) rfl (pa_cons (pv 0) pa_nil))) (fun _ _ _ _ => pts_one (PW.pt (pw_and (pt_cmpR (OpR.k (K := K) (fun K => rEqD K true) (op_neD hu) rfl) (pv 0) (pv 2) (nomark _)) (pw_and1 (pt_val (pe_callD c_lies_in (hr.mono (by decide)) rfl (pl_at (pl_cons (pv 0) (pl_cons (pv 2) pl_nil rfl) rfl)))))))) (fun _ _ _ _ => (pv 0)))) (pss_one (ps_ret (pe_comp1 (CompSc.to (N := ["machine", "rooms", "within"]) (osc := defScope sTiles) (vs := ["part"]) ⟨rfl, by decide +kernel, by decide +kernel, by decide +kernel, by decide +kernel, by decide +kernel, by decide +kernel⟩) rfl rfl (pi_list (pv 2)) (fun _ _ _ _ => pts_one (pt_not (pt_val (pe_callD c_is_covered (hr.mono (by decide)) rfl (pl_at (pl_cons (pv 0) (pl_cons (pv 3) pl_nil rfl) rfl)))))) (fun _ _ _ _ => (pv 0)))))), ?_⟩
 refine ⟨_, rfl, m, ts, n, rfl, M, hT, fun l bs fam H1 k1 T1 nl el Tf ff => ?_⟩
 have few := ff.few M
 have lb := Tf.len
 have hp1 := k1 _ _ (noT_at hp fun _ e => nomatch e)
 have l5 : ∀ u ∈ fam, u.length <= 5 := fun u h => Nat.le_trans (setsU_len n5 (ff.inU M h)) n5
 refine ⟨l, rfl, ⟨_, SqL.of el⟩, comp_list (xs := bs.map .ref) (fun i ys H' => Same H1 H' /\ ∃ cs, ys = cs.map V.ref /\ cs.length <= i /\ TupsAt H' cs ((fam.take i).filter fun u => decide (u ≠ x) && sub u x)) (by rw [List.length_map, sizeLine_eq]; lia) ⟨Same.refl _, [], rfl, Nat.le_refl _, rfl, fun i b u e => by simp at e⟩ (fun i ys H' hi p => ?_) (fun i v ys H' hv p => ?_) (fun ys H2 p wl hwl => ?_)⟩
 ·obtain ⟨g, cs, rfl, e, _⟩ := p
  exact ⟨SqL.of (g _ _ el), by rw [List.length_map]; exact e⟩
 ·obtain ⟨g, cs, rfl, e, Tc⟩ := p
  rw [List.getElem?_map] at hv
  obtain ⟨b, eb, rfl⟩ := Option.map_eq_some_iff.mp hv
  have li := (List.getElem?_eq_some_iff.mp eb).1
  obtain ⟨u, eu⟩ : ∃ u, fam[i]? = some u := ⟨_, List.getElem?_eq_getElem (by lia)⟩
  have hb := g _ _ (Tf.is i b u eb eu)
  have hx := g _ _ hp1
  refine ⟨keep_one, _, rfl, _, rfl, b, _, 0, _, _, rfl, rfl, repTn (SqT.of hb), repTn (SqT.of hx), by decide, fun c hc => ⟨_, rfl, ?_⟩⟩
  by_cases ex : u = x
  ·have hc' : c = true := hc.mpr (dt_natsT.mpr ex)
   subst hc'
   have z := tups_take Tc eu hb
   rw [decide_eq_false (fun z => z ex), Bool.false_and, if_neg (by decide)] at z
   refine iteF (iteF ⟨g, cs, rfl, by lia, z⟩)
  ·have hc' : c = false := by
    cases c with
    | false => rfl
    | true => exact absurd (dt_natsT.mp (hc.mp rfl)) ex
   subst hc'
   refine iteT ⟨_, rfl, _, rfl, b, _, u, x, rfl, hb, hx, l5 u (List.mem_of_getElem? eu), fun H4 g4 => ⟨_, rfl, ?_⟩⟩
   have z := tups_take (Tc.same g4) eu (g4 _ _ hb)
   rw [decide_eq_true ex, Bool.true_and] at z
   cases c2 : sub u x with
   | true =>
    rw [c2, if_pos rfl] at z
    exact iteT ⟨_, rfl, g.trans g4, cs ++ [b], by simp, by simp; exact e, z⟩
   | false =>
    rw [c2, if_neg (by decide)] at z
    exact iteF ⟨g.trans g4, cs, rfl, by lia, z⟩
 obtain ⟨g2, cs, rfl, _, Tc⟩ := p
 rw [List.length_map, lb, List.take_length] at Tc
 have Tw : TupsAt H2 cs (inside fam x) := Tc
 have kw := same_new hwl (.lst (cs.map V.ref))
 have ewl : upd H2 wl (.lst (cs.map V.ref)) wl = some (.lst (cs.map V.ref)) := upd_same
 have Tw3 := Tw.same kw
 have g3 := g2.trans kw
 generalize upd H2 wl (.lst (cs.map V.ref)) = H3 at kw ewl Tw3 g3 ⊢
 have lw : (inside fam x).length <= 32 := Nat.le_trans (List.length_filter_le _ _) few
 have lc := Tw.len
 have wfam : ∀ u ∈ inside fam x, u ∈ fam := fun u h => (List.mem_filter.mp h).1
 refine ⟨_, rfl, wl, rfl, ⟨_, SqL.of ewl⟩, comp_list (xs := cs.map .ref) (fun i ys H' => Same H3 H' /\ ∃ ds, ys = ds.map V.ref /\ ds.length <= i /\ TupsAt H' ds (((inside fam x).take i).filter fun u => !covered (inside fam x) u)) (by rw [List.length_map, sizeLine_eq]; lia) ⟨Same.refl _, [], rfl, Nat.le_refl _, rfl, fun i b u e => by simp at e⟩ (fun i ys H' hi p => ?_) (fun i v ys H' hv p => ?_) (fun ys H4 p D hD => ?_)⟩
 ·obtain ⟨g, ds, rfl, e, _⟩ := p
  exact ⟨SqL.of (g _ _ ewl), by rw [List.length_map]; exact e⟩
 ·obtain ⟨g, ds, rfl, e, Td⟩ := p
  rw [List.getElem?_map] at hv
  obtain ⟨b, eb, rfl⟩ := Option.map_eq_some_iff.mp hv
  have li := (List.getElem?_eq_some_iff.mp eb).1
  obtain ⟨u, eu⟩ : ∃ u, (inside fam x)[i]? = some u := ⟨_, List.getElem?_eq_getElem (by lia)⟩
  have hb := g _ _ (Tw3.is i b u eb eu)
  refine ⟨keep_one, _, rfl, _, rfl, b, wl, u, cs, inside fam x, rfl, hb, g _ _ ewl, Tw3.same g, l5 u (wfam u (List.mem_of_getElem? eu)), lw, fun H5 g5 => ⟨_, rfl, ?_⟩⟩
  have z := tups_take (Td.same g5) eu (g5 _ _ hb)
  cases c2 : covered (inside fam x) u with
  | true =>
   rw [c2, if_neg (by decide)] at z
   exact iteF ⟨g.trans g5, ds, rfl, by lia, z⟩
  | false =>
   rw [c2, if_pos (by decide)] at z
   exact iteT ⟨_, rfl, g.trans g5, ds ++ [b], by simp, by simp; exact e, z⟩
 obtain ⟨g4, ds, rfl, _, Td⟩ := p
 rw [List.length_map, lc, List.take_length] at Td
 have kD := same_new hD (.lst (ds.map V.ref))
 have gg := g3.trans (g4.trans kD)
 refine q D ds _ fam _ (k1.trans gg.keeps) (T1.same gg) ?_ upd_same (Td.same kD) ff rfl
 cases y : L2.noT H D with
 | none => rfl
 | some o =>
  have z := (g3.trans g4) _ _ (k1 _ _ y)
  rw [hD] at z
  cases z
end
def Rch (ts : List (List Nat)) (x y : List Nat) : Prop := ∃ word : List Nat, (∀ l ∈ word, l < ts.length) /\ goes (stepR ts) x word = y
open Classical in
noncomputable def rch (ts : List (List Nat)) (x y : List Nat) : Bool := decide (Rch ts x y)
theorem rch_iff {ts : List (List Nat)} {x y : List Nat} : rch ts x y = true ↔ Rch ts x y := by
 unfold rch
 exact @decide_eq_true_iff _ (Classical.propDecidable _)
theorem Rch.refl (ts : List (List Nat)) (x : List Nat) : Rch ts x x := ⟨[], fun _ h => (nomatch h), rfl⟩
theorem Rch.trans {ts : List (List Nat)} {x y z : List Nat} (a : Rch ts x y) (b : Rch ts y z) : Rch ts x z := by
 obtain ⟨u, h1, rfl⟩ := a
 obtain ⟨v, h2, rfl⟩ := b
 refine ⟨u ++ v, fun l hl => (List.mem_append.mp hl).elim (h1 l) (h2 l), ?_⟩
 unfold goes
 rw [List.foldl_append]
theorem told_rch {ts : List (List Nat)} {x : List Nat} {ws : TW} (T : Told (stepR ts) ts.length x ws) (y : List Nat) : y ∈ ws.map (·.1) ↔ Rch ts x y := by
 constructor
 ·intro h
  obtain ⟨p, hp, rfl⟩ := List.mem_map.mp h
  obtain ⟨r1, r2⟩ := T.run p hp
  exact ⟨p.2, r1, r2⟩
 ·rintro ⟨word, h1, rfl⟩
  obtain ⟨u, h2, _⟩ := T.least _ word rfl h1
  exact List.mem_map.mpr ⟨_, h2, rfl⟩
abbrev WE := Addr × TW × List Addr
def kvW (xs : List (List Nat)) (ys : List WE) : List (List Key × V) := kvsOf (xs.map fun x => (x, [])) (ys.map (·.1))
structure WB (H : Hp) (D : Addr) (ts : List (List Nat)) (xs : List (List Nat)) (ys : List WE) : Prop where
 len : ys.length = xs.length
 each : ∀ (i : Nat) (x : List Nat) (y : WE), xs[i]? = some x -> ys[i]? = some y -> WordsAt H y.1 y.2.1 y.2.2 /\ Told (stepR ts) ts.length x y.2.1 /\ y.1 ≠ D
 nd : xs.Nodup
theorem WB.same {H H' : Hp} {D : Addr} {ts xs : List (List Nat)} {ys : List WE} (h : WB H D ts xs ys) (g : Same H H') : WB H' D ts xs ys := ⟨h.len, fun i x y e1 e2 => let ⟨a, b⟩ := h.each i x y e1 e2; ⟨a.same g, b⟩, h.nd⟩
theorem words_keeps {H H' : Hp} {D : Addr} {ws : TW} {as : List Addr} (W : WordsAt H D ws as) (g : Keeps H H') : WordsAt H' D ws as := ⟨W.len, g _ _ (noT_at W.dict fun _ e => nomatch e), fun j a p h1 h2 => g _ _ (noT_at (W.list j a p h1 h2) fun _ e => nomatch e)⟩
theorem WB.keeps {H H' : Hp} {D : Addr} {ts xs : List (List Nat)} {ys : List WE} (h : WB H D ts xs ys) (g : Keeps H H') : WB H' D ts xs ys := ⟨h.len, fun i x y e1 e2 => let ⟨a, b⟩ := h.each i x y e1 e2; ⟨words_keeps a g, b⟩, h.nd⟩
theorem kvW_keys {xs : List (List Nat)} {ys : List WE} (h : ys.length = xs.length) : (kvW xs ys).map (·.1) = xs.map nk := by
 unfold kvW L2.kvsOf
 induction xs generalizing ys with
 | nil => rfl
 | cons x xs ih =>
  cases ys with
  | nil => simp at h
  | cons y ys =>
   have z := ih (ys := ys) (by simpa using h)
   simp only [List.map_cons, List.zipWith_cons_cons]
   rw [z]
theorem WB.off {H : Hp} {D : Addr} {ts xs : List (List Nat)} {ys : List WE} {kvs : List (List Key × V)} {o : HO} (h : WB H D ts xs ys) (hD : H D = some (.dT kvs)) : WB (upd H D o) D ts xs ys := by
 refine ⟨h.len, fun i x y e1 e2 => ?_, h.nd⟩
 obtain ⟨a, b, c⟩ := h.each i x y e1 e2
 refine ⟨⟨a.len, by rw [upd_ne c]; exact a.dict, fun j l p h1 h2 => ?_⟩, b, c⟩
 have z := a.list j l p h1 h2
 rw [upd_ne (ne_of z hD fun e => nomatch e)]
 exact z
theorem xs_keys (xs : List (List Nat)) : ((xs.map fun x => ((x, []) : List Nat × List Nat)).map (·.1)) = xs := by
 rw [List.map_map]
 exact List.map_id' xs
theorem WB.get {H : Hp} {D b : Addr} {ts xs : List (List Nat)} {ys : List WE} {x : List Nat} (h : WB H D ts xs ys) (hD : Rd H D (.dT (kvW xs ys))) (hx : x ∈ xs) (hb : H b = some (.tup (x.map nv))) : ∃ W ws as, DGet H D (.ref b) (some (.ref W)) /\ WordsAt H W ws as /\ Told (stepR ts) ts.length x ws /\ ∃ i : Nat, xs[i]? = some x /\ ys[i]? = some (W, ws, as) := by
 obtain ⟨i, ei⟩ := List.mem_iff_getElem?.mp hx
 have li := (List.getElem?_eq_some_iff.mp ei).1
 have hl := h.len
 obtain ⟨y, ey⟩ : ∃ y, ys[i]? = some y := ⟨_, List.getElem?_eq_getElem (by lia)⟩
 obtain ⟨a, t, _⟩ := h.each i x y ei ey
 have v : valV (kvW xs ys) (nk x) = some (.ref y.1) := val_at (p := (x, [])) (by rw [xs_keys]; exact h.nd) (by rw [List.getElem?_map, ei]; rfl) (by rw [List.getElem?_map, ey]; rfl)
 exact ⟨y.1, y.2.1, y.2.2, .inr ⟨_, _, b, hD, rfl, by rw [nk_kV]; exact hb, v.symm⟩, a, t, i, ei, ey⟩
theorem words_in {H : Hp} {W c : Addr} {ts : List (List Nat)} {ws : TW} {as : List Addr} {x y : List Nat} (a : WordsAt H W ws as) (t : Told (stepR ts) ts.length x ws) (hc : H c = some (.tup (y.map nv))) : ∃ o, DGet H W (.ref c) o /\ o.isSome = rch ts x y := by
 refine ⟨_, .inr ⟨_, nk y, c, .inl a.dict, rfl, by rw [nk_kV]; exact hc, rfl⟩, ?_⟩
 by_cases m : y ∈ ws.map (·.1)
 ·rw [rch_iff.mpr ((told_rch t y).mp m)]
  obtain ⟨p, hp, rfl⟩ := List.mem_map.mp m
  obtain ⟨l, e, _⟩ := a.word t.keys hp
  rw [e]
  rfl
 ·rw [val_no m]
  cases z : rch ts x y with
  | false => rfl
  | true => exact absurd ((told_rch t y).mpr (rch_iff.mp z)) m
noncomputable def alike (ts xs : List (List Nat)) (x : List Nat) : List (List Nat) := xs.filter fun y => rch ts x y && rch ts y x
noncomputable def classes (ts xs : List (List Nat)) : List (List (List Nat)) := (xs.filter fun x => (alike ts xs x).head? == some x).map (alike ts xs)
def big (fam : List (List Nat)) : List (List Nat) := fam.filter fun x => decide (1 < x.length)
def spWordsBetween (T : Addr) (pos : Pos) : Sp := fun vs H Q _ => ∃ (m : Addr) (ts : List (List Nat)) (n : Nat), vs = [.ref m] /\ Mach H m ts n /\ Tabs H /\
 ∀ D fam ys H', Keeps H H' -> Tabs H' -> L2.noT H D = none -> FamOf ts n fam -> H' D = some (.dT (kvW (big fam) ys)) -> WB H' D ts (big fam) ys -> (∀ y ∈ ys, ∀ b ∈ y.2.2, L2.noT H b = none) -> ys.Pairwise (fun p q => ∀ b ∈ p.2.2, b ∉ q.2.2) -> Q (.ref D) H'
def spAlike : Sp := fun vs H Q _ => ∃ (D p : Addr) (o : Obj) (ts xs : List (List Nat)) (ys : List WE) (x : List Nat), vs = [.ref D, .ref p] /\ H D = some (.frz o (.dT (kvW xs ys))) /\ WB H D ts xs ys /\ H p = some (.tup (x.map nv)) /\ x ∈ xs /\ xs.length <= 32 /\
 ∀ l bs H', Same H H' -> H l = none -> H' l = some (.lst (bs.map .ref)) -> TupsAt H' bs (alike ts xs x) -> Q (.ref l) H'
section
variable {P : Program} {w : World} {K : W.Frag} {mg : Str -> Option Value} {base : Heap} {f : Addr} {fd : FuncData}
theorem ok_words_between {T : Addr} (F : Fun K "words_between" "words_between" sWordsBetween f fd) (c_family : Callee P w K mg base "family" 14 ["machine"] (spFamily T (⟨46, 40, 46, 93⟩ : Pos))) (c_sets_reached : Callee P w K mg base "sets_reached" 10 ["machine", "rooms"] (spSetsReached T (⟨46, 40, 46, 93⟩ : Pos))) (m_len : mg "len" = none) : FnOk P w K mg base CX0 16 f fd ["machine"] (spWordsBetween T (⟨46, 40, 46, 93⟩ : Pos)) := by
 refine F.ok scWordsBetween (fun vs H Q E h => ?_) (fun cdv A outer s H vs Q E hr h => ?_)
 ·obtain ⟨m, ts, n, rfl, _⟩ := h
  rfl
 obtain ⟨m, ts, n, rfl, M, hT, q⟩ := h
 have hu := hr.units
 have hu1 := hu_of hr
 refine ⟨_, (pss_cons (ps_set (i := 1) scWordsBetween.nd rfl (Or.inl rfl) pe_dnewT) (pss_cons (ps_for PassesOwn.never rfl (pi_list (pe_callD c_family (hr.mono (by decide)) rfl (pa_cons (pv 0) pa_nil))) (pg_name (i := 2) scWordsBetween.nd rfl (Or.inl rfl)) (pss_one (ps_if (pt_cmpR op_gt (pe_callB call_len_seq rfl m_len boot_len (pa_cons (pv 2) pa_nil)) pe_int (nomark _)) (pss_one (ps_dput hu1 (pv 1) (pv 2) (pe_callD c_sets_reached (hr.mono (by decide)) rfl (pl_at (pl_cons (pv 0) (pl_cons (pv 2) pl_nil rfl) rfl))) rfl)) pss_nil))) (pss_one (ps_ret (pv 1))))), ?_⟩
 intro D hD
 have kD := same_new hD (.dT [])
 refine ⟨_, rfl, m, ts, n, rfl, M.same kD, hT.same kD, fun so fs fam H1 k1 T1 nso eso Tf ff => ?_⟩
 have eD1 := k1 _ _ (noT_at (upd_same : upd H D (.dT []) D = _) fun _ e => nomatch e)
 have k01 := kD.keeps.trans k1
 have lf := Tf.len
 have few := ff.few M
 have fnd : fam.Nodup := ff.up.imp fun {a b} z e => by
  subst e
  rw [(total_key gl fam).irr] at z
  cases z
 have nDT := noT_none hD
 let Pv : Nat -> L2.St -> Hp -> Prop := fun i σ H' => Keeps H H' /\ Tabs H' /\ H' so = some (.lst (fs.map .ref)) /\ TupsAt H' fs fam /\ ∃ ys o2, H' D = some (.dT (kvW (big (fam.take i)) ys)) /\ WB H' D ts (big (fam.take i)) ys /\ (∀ y ∈ ys, ∀ b ∈ y.2.2, L2.noT H b = none) /\ ys.Pairwise (fun p q => ∀ b ∈ p.2.2, b ∉ q.2.2) /\ σ = [some (.ref m), some (.ref D), o2]
 refine ⟨so, rfl, ⟨_, SqL.of eso⟩, for_list (xs := fs.map .ref) Pv ⟨k01, T1, eso, Tf, [], none, eD1, ⟨rfl, fun i x y e => by simp [big] at e, List.nodup_nil⟩, fun _ h => (nomatch h), .nil, rfl⟩ (fun i σ H' _ p => SqL.of p.2.2.1) (fun i v σ H2 hv p => ?_) (fun σ H2 p => ?_)⟩
 ·obtain ⟨k2, T2, es2, Tf2, ys, o2, eD2, wb, nw, ap, rfl⟩ := p
  rw [List.getElem?_map] at hv
  obtain ⟨b, eb, rfl⟩ := Option.map_eq_some_iff.mp hv
  have li := (List.getElem?_eq_some_iff.mp eb).1
  obtain ⟨x, ex⟩ : ∃ x, fam[i]? = some x := ⟨_, List.getElem?_eq_getElem (by lia)⟩
  have hb := Tf2.is i b x eb ex
  have mx := List.mem_of_getElem? ex
  have nx : big (fam.take (i + 1)) = big (fam.take i) ++ (if 1 < x.length then [x] else []) := by
   unfold big
   rw [List.take_add_one, ex, List.filter_append]
   by_cases c : 1 < x.length
   ·rw [if_pos c]
    simp [c]
   ·rw [if_neg c]
    simp [c]
  refine ⟨_, rfl, b, _, rfl, .inr (SqT.of hb), _, _, rfl, rfl, _, rfl, ite2 (fun c => ?_) (fun c => ?_)⟩
  ·have c1 : 1 < x.length := by
    have z := of_decide_eq_true c
    rw [List.length_map] at z
    lia
   rw [if_pos c1] at nx
   refine ⟨_, rfl, _, rfl, m, b, ts, n, x, rfl, M.keeps k2, hb, ff.inU M mx, T2, fun W ws as H3 k3 T3 Wd nw3 TT => ?_⟩
   have eD3 := k3 _ _ (noT_at eD2 fun _ e => nomatch e)
   have hb3 := k3 _ _ (noT_at hb fun _ e => nomatch e)
   have wb3 := wb.keeps k3
   have WD : W ≠ D := fun z => by
    subst z
    have z2 := nw3 W (List.mem_cons_self ..)
    rw [noT_at eD2 fun _ e => nomatch e] at z2
    cases z2
   have xn : x ∉ big (fam.take i) := fun h => by
    have h1 := (List.mem_filter.mp h).1
    obtain ⟨j, ej⟩ := List.mem_iff_getElem?.mp h1
    have lj := (List.getElem?_eq_some_iff.mp ej).1
    rw [List.length_take] at lj
    rw [List.getElem?_take_of_lt (by lia)] at ej
    have := (List.getElem?_inj (by lia) fnd).mp (ej.trans ex.symm)
    lia
   have vn : valV (kvW (big (fam.take i)) ys) (nk x) = none := val_no (by rw [xs_keys]; exact xn)
   have lk : (kvW (big (fam.take i)) ys).length < sizeLine := by
    rw [<- List.length_map (f := (·.1)), kvW_keys wb.len, List.length_map, sizeLine_eq]
    have z1 : (big (fam.take i)).length <= (fam.take i).length := List.length_filter_le _ _
    rw [List.length_take] at z1
    lia
   refine ⟨_, rfl, _, rfl, D, _, rfl, DPut.t eD3 (by rw [nk_kV]; exact hb3) lk, ?_⟩
   have es3 := k3 _ _ (noT_at es2 fun _ e => nomatch e)
   have Tf3 : TupsAt H3 fs fam := ⟨Tf2.len, fun i b u e1 e2 => k3 _ _ (noT_at (Tf2.is i b u e1 e2) fun _ e => nomatch e)⟩
   have ek : putK (kvW (big (fam.take i)) ys) (nk x) (.ref W) = kvW (big (fam.take (i + 1))) (ys ++ [(W, ws, as)]) := by
    rw [putK_new _ vn, nx]
    unfold kvW
    rw [List.map_append, List.map_append]
    exact (kvs_snoc (ws := (big (fam.take i)).map fun x => (x, [])) (as := ys.map (·.1)) (p := (x, [])) (a := W) (by simp [wb.len])).symm
   have wo := wb3.off (o := .dT (kvW (big (fam.take (i + 1))) (ys ++ [(W, ws, as)]))) eD3
   have Wo : WordsAt (upd H3 D (.dT (kvW (big (fam.take (i + 1))) (ys ++ [(W, ws, as)])))) W ws as := ⟨Wd.len, by rw [upd_ne WD]; exact Wd.dict, fun j l p h1 h2 => by
    have z := Wd.list j l p h1 h2
    rw [upd_ne (ne_of z eD3 fun e => nomatch e)]
    exact z⟩
   rw [ek]
   refine ⟨fun b' o hb' => ?_, ?_, ?_, ?_, ys ++ [(W, ws, as)], _, upd_same, ⟨?_, fun j x' y' e1 e2 => ?_, ?_⟩, ?_, ?_, rfl⟩
   ·rw [upd_ne fun z => ?_]
    ·exact (k2.trans k3) _ _ hb'
    ·subst z
     rw [nDT] at hb'
     cases hb'
   ·exact T3.most fun b' u nd _ hb' => by rw [upd_ne (ne_of hb' eD3 fun e => nd _ e)]; exact hb'
   ·rw [upd_ne (ne_of es3 eD3 fun e => nomatch e)]
    exact es3
   ·exact tups_off Tf3 eD3 fun _ e => nomatch e
   ·rw [nx, List.length_append, List.length_append, wb.len]
    rfl
   ·rw [nx] at e1
    have hl := wb.len
    by_cases hj : j < ys.length
    ·rw [List.getElem?_append_left (by lia)] at e1
     rw [List.getElem?_append_left hj] at e2
     exact wo.each j x' y' e1 e2
    ·rw [List.getElem?_append_right (by lia)] at e1 e2
     have z : j - ys.length = 0 := by
      have := (List.getElem?_eq_some_iff.mp e2).1
      simp at this
      lia
     rw [<- hl, z] at e1
     rw [z] at e2
     cases e1
     cases e2
     exact ⟨Wo, TT, WD⟩
   ·rw [nx, List.nodup_append]
    refine ⟨wb.nd, by simp, fun a ha c hc e => xn ?_⟩
    rw [List.mem_singleton.mp hc] at e
    rw [<- e]
    exact ha
   ·intro y hy b' hb'
    rcases List.mem_append.mp hy with h | h
    ·exact nw y h b' hb'
    ·rw [List.mem_singleton.mp h] at hb'
     have z := nw3 b' (.tail _ hb')
     cases y2 : L2.noT H b' with
     | none => rfl
     | some o =>
      have z3 := k2 _ _ y2
      rw [noT_at z3 (of_noT y2).2] at z
      cases z
   ·rw [List.pairwise_append]
    refine ⟨ap, List.pairwise_singleton _ _, fun p hp q' hq b' hb' hb2 => ?_⟩
    rw [List.mem_singleton.mp hq] at hb2
    have z := nw3 b' (.tail _ hb2)
    obtain ⟨j, ej⟩ := List.mem_iff_getElem?.mp hp
    have lj := (List.getElem?_eq_some_iff.mp ej).1
    have hl := wb.len
    obtain ⟨x', ex'⟩ : ∃ x', (big (fam.take i))[j]? = some x' := ⟨_, List.getElem?_eq_getElem (by lia)⟩
    obtain ⟨a', _⟩ := wb.each j x' p ex' ej
    obtain ⟨j2, ej2⟩ := List.mem_iff_getElem?.mp hb'
    have lj2 := (List.getElem?_eq_some_iff.mp ej2).1
    have z2 := a'.list j2 b' _ ej2 (List.getElem?_eq_getElem (by rw [<- a'.len]; exact lj2))
    rw [noT_at z2 fun _ e => nomatch e] at z
    cases z
  ·have c1 : ¬ 1 < x.length := by
    have z := of_decide_eq_false (Bool.eq_false_iff.mpr c)
    rw [List.length_map] at z
    lia
   rw [if_neg c1, List.append_nil] at nx
   refine ⟨k2, T2, es2, Tf2, ys, _, ?_, ?_, nw, ap, rfl⟩
   ·rw [nx]
    exact eD2
   ·rw [nx]
    exact wb
 ·obtain ⟨k2, T2, es2, Tf2, ys, o2, eD2, wb, nw, ap, rfl⟩ := p
  rw [List.length_map, lf, List.take_length] at eD2 wb
  exact ⟨_, rfl, q D fam ys H2 k2 T2 nDT ff eD2 wb nw ap⟩
theorem ok_alike (F : Fun K "alike_sets" "alike_sets" sAlikeSets f fd) : FnOk P w K mg base CX0 1 f fd ["words", "rooms"] spAlike := by
 refine F.ok scAlikeSets (fun vs H Q E h => ?_) (fun cdv A outer s H vs Q E hr h => ?_)
 ·obtain ⟨D, p, o, ts, xs, ys, x, rfl, _⟩ := h
  rfl
 obtain ⟨D, p, o, ts, xs, ys, x, rfl, hD, wb, hp, hx, few, q⟩ := h
 have hu := hr.units
 have hu1 := hu_of hr
 refine ⟨_, (pss_one (ps_ret (pe_comp1 (CompSc.to (N := ["words", "rooms"]) (osc := defScope sAlikeSets) (vs := ["other"]) ⟨rfl, by decide +kernel, by decide +kernel, by decide +kernel, by decide +kernel, by decide +kernel, by decide +kernel⟩) rfl rfl (pi_dict (pv 0)) (fun _ _ _ _ => pts_one (PW.pt (pw_and (pt_cmp (pc_din hu1 (pv 0) (pe_dget hu1 (pv 1) (pv 2) (fun _ _ => rfl)))) (pw_and1 (pt_cmp (pc_din hu1 (pv 2) (pe_dget hu1 (pv 1) (pv 0) (fun _ _ => rfl)))))))) (fun _ _ _ _ => (pv 0))))), ?_⟩
 refine ⟨_, rfl, D, _, xs, rfl, kvW_keys wb.len, .inr ⟨o, hD⟩, fun o' H2 fz => ?_⟩
 have e2 : o' = o /\ H2 = H := by
  rcases fz with ⟨e, rfl⟩ | ⟨e, _⟩
  ·rw [hD] at e
   injection e with e
   injection e with e _
   exact ⟨e.symm, rfl⟩
  ·rw [hD] at e
   cases e
 obtain ⟨rfl, rfl⟩ := e2
 have rd : Rd H2 D (.dT (kvW xs ys)) := .inr ⟨_, hD⟩
 refine comp_dict (kvW_keys wb.len) (fun i ys' H' => H' = H2 /\ ∃ cs, ys' = cs.map V.ref /\ cs.length <= i /\ TupsAt H2 cs ((xs.take i).filter fun y => rch ts x y && rch ts y x)) (by rw [sizeLine_eq]; lia) ⟨rfl, [], rfl, Nat.le_refl _, rfl, fun i b u e => by simp at e⟩ (fun i ys' H' _ p' => ?_) (fun i a t ys' H' et ha p' => ?_) (fun ys' H' p' c1 hc1 => ?_)
 ·obtain ⟨rfl, cs, rfl, e, _⟩ := p'
  exact ⟨hD, by rw [List.length_map]; exact e⟩
 ·obtain ⟨rfl, cs, rfl, e, Tc⟩ := p'
  have z := tups_take (f := fun y => rch ts x y && rch ts y x) Tc et ha
  obtain ⟨W, ws, as, dg, wa, tt, _⟩ := wb.get rd hx hp
  obtain ⟨o1, d1, s1⟩ := words_in wa tt ha
  have ht := List.mem_of_getElem? et
  obtain ⟨W2, ws2, as2, dg2, wa2, tt2, _⟩ := wb.get rd ht ha
  obtain ⟨o2, d2, s2⟩ := words_in wa2 tt2 hp
  refine ⟨keep_one, _, rfl, _, rfl, _, rfl, D, _, rfl, dg, W, o1, rfl, d1, _, rfl, ?_⟩
  rw [s1]
  cases c1 : rch ts x t with
  | false =>
   rw [c1, Bool.false_and, if_neg (by decide)] at z
   exact iteF (iteF ⟨rfl, cs, rfl, by lia, z⟩)
  | true =>
   rw [c1, Bool.true_and] at z
   refine iteT ⟨_, rfl, _, rfl, _, rfl, D, _, rfl, dg2, W2, o2, rfl, d2, _, rfl, ?_⟩
   rw [s2]
   cases c2 : rch ts t x with
   | true =>
    rw [c2, if_pos rfl] at z
    exact iteT ⟨_, rfl, rfl, cs ++ [a], by simp, by simp; exact e, z⟩
   | false =>
    rw [c2, if_neg (by decide)] at z
    exact iteF ⟨rfl, cs, rfl, by lia, z⟩
 ·obtain ⟨rfl, cs, rfl, _, Tc⟩ := p'
  rw [List.take_length] at Tc
  have kc := same_new hc1 (.lst (cs.map V.ref))
  exact q c1 cs _ kc hc1 upd_same (Tc.same kc)
end
structure LsAt (H : Hp) (as : List Addr) (cs : List (List (List Nat))) : Prop where
 len : as.length = cs.length
 is : ∀ (i : Nat) (a : Addr) (c : List (List Nat)), as[i]? = some a -> cs[i]? = some c -> ∃ bs : List Addr, H a = some (.lst (bs.map .ref)) /\ TupsAt H bs c
theorem LsAt.same {H H' : Hp} {as : List Addr} {cs : List (List (List Nat))} (h : LsAt H as cs) (g : Same H H') : LsAt H' as cs := ⟨h.len, fun i a c e1 e2 => let ⟨bs, h1, h2⟩ := h.is i a c e1 e2; ⟨bs, g _ _ h1, h2.same g⟩⟩
theorem LsAt.off {H : Hp} {l : Addr} {xs : List V} {o : HO} {as : List Addr} {cs : List (List (List Nat))} (h : LsAt H as cs) (hl : H l = some (.lst xs)) (no : l ∉ as) : LsAt (upd H l o) as cs := ⟨h.len, fun i a c e1 e2 => by
 obtain ⟨bs, h1, h2⟩ := h.is i a c e1 e2
 refine ⟨bs, ?_, tups_off h2 hl fun _ e => nomatch e⟩
 rw [upd_ne fun (z : a = l) => no (by rw [<- z]; exact List.mem_of_getElem? e1)]
 exact h1⟩
theorem LsAt.snoc {H : Hp} {as : List Addr} {cs : List (List (List Nat))} {a : Addr} {c : List (List Nat)} {bs : List Addr} (h : LsAt H as cs) (ha : H a = some (.lst (bs.map .ref))) (T : TupsAt H bs c) : LsAt H (as ++ [a]) (cs ++ [c]) := by
 refine ⟨by simp [h.len], fun i b v e1 e2 => ?_⟩
 have l := h.len
 by_cases hi : i < cs.length
 ·rw [List.getElem?_append_left (by lia)] at e1 e2
  exact h.is i b v e1 e2
 ·rw [List.getElem?_append_right (by lia)] at e1 e2
  have z : i - cs.length = 0 := by
   have := (List.getElem?_eq_some_iff.mp e2).1
   simp at this
   lia
  rw [l, z] at e1
  rw [z] at e2
  cases e1
  cases e2
  exact ⟨bs, ha, T⟩
theorem alike_self {ts xs : List (List Nat)} {x : List Nat} (hx : x ∈ xs) : x ∈ alike ts xs x := List.mem_filter.mpr ⟨hx, by rw [rch_iff.mpr (Rch.refl ts x)]; rfl⟩
def spSetsOf : Sp := fun vs H Q _ => ∃ (D : Addr) (ts xs : List (List Nat)) (ys : List WE), vs = [.ref D] /\ H D = some (.dT (kvW xs ys)) /\ WB H D ts xs ys /\ xs.length <= 32 /\
 ∀ l o as H', Same (upd H D (.frz o (.dT (kvW xs ys)))) H' -> H l = none -> H' l = some (.lst (as.map .ref)) -> LsAt H' as (classes ts xs) -> (∀ a ∈ as, H a = none) -> Q (.ref l) H'
section
variable {P : Program} {w : World} {K : W.Frag} {mg : Str -> Option Value} {base : Heap} {f : Addr} {fd : FuncData}
theorem ok_sets_of (F : Fun K "sets_of_levels" "sets_of_levels" sSetsOfLevels f fd) (c_alike_sets : Callee P w K mg base "alike_sets" 1 ["words", "rooms"] spAlike) : FnOk P w K mg base CX0 3 f fd ["words"] spSetsOf := by
 refine F.ok scSetsOfLevels (fun vs H Q E h => ?_) (fun cdv A outer s H vs Q E hr h => ?_)
 ·obtain ⟨D, ts, xs, ys, rfl, _⟩ := h
  rfl
 obtain ⟨D, ts, xs, ys, rfl, hD, wb, few, q⟩ := h
 have hu := hr.units
 have hu1 := hu_of hr
 refine ⟨_, (pss_cons (ps_set (i := 1) scSetsOfLevels.nd rfl (Or.inl rfl) (pe_lst pa_nil)) (pss_cons (ps_for PassesOwn.never rfl (pi_dict (pv 0)) (pg_name (i := 2) scSetsOfLevels.nd rfl (Or.inl rfl)) (pss_cons (ps_set (i := 3) scSetsOfLevels.nd rfl (Or.inl rfl) (pe_callD c_alike_sets (hr.mono (by decide)) rfl (pl_at (pl_cons (pv 0) (pl_cons (pv 2) pl_nil rfl) rfl)))) (pss_one (ps_if (pt_cmpR (op_eqD hu) (pe_ix ix_list (pv 3) pe_int (fun _ _ => rfl)) (pv 2) (nomark _)) (pss_one (ps_expr (pe_bm PySem.F.plainAttrs_list PySem.F.slot_list_append PySem.F.type_list_append mt_append (pv 1) (pa_cons (pv 3) pa_nil)))) pss_nil)))) (pss_one (ps_ret (pv 1))))), ?_⟩
 refine ⟨by show 0 <= sizeLine; decide, fun fo hfo => ?_⟩
 have kf := same_new hfo (.lst [])
 have hD1 := kf _ _ hD
 have foD : fo ≠ D := (ne_of_none hD hfo).symm
 refine ⟨_, rfl, D, _, xs, rfl, kvW_keys wb.len, .inl hD1, fun o H2 fz => ?_⟩
 have e2 : H2 = upd (upd H fo (.lst [])) D (.frz o (.dT (kvW xs ys))) := by
  rcases fz with ⟨e, _⟩ | ⟨_, e⟩
  ·rw [hD1] at e
   cases e
  ·exact e
 have gz : Same (upd H D (.frz o (.dT (kvW xs ys)))) H2 := fun b u hb => by
  rw [e2]
  by_cases z : b = D
  ·subst z
   rw [upd_same] at hb ⊢
   exact hb
  ·rw [upd_ne z] at hb ⊢
   exact kf _ _ hb
 have wz : WB (upd H D (.frz o (.dT (kvW xs ys)))) D ts xs ys := wb.off hD
 have foz : H2 fo = some (.lst []) := by rw [e2, upd_ne foD, upd_same]
 have nfo : upd H D (.frz o (.dT (kvW xs ys))) fo = none := by rw [upd_ne foD]; exact hfo
 clear e2 fz
 let Pv : Nat -> L2.St -> Hp -> Prop := fun i σ H' => Same (upd H D (.frz o (.dT (kvW xs ys)))) H' /\ ∃ as o2 o3, H' fo = some (.lst (as.map .ref)) /\ fo ∉ as /\ (∀ a ∈ as, H a = none) /\ as.length <= i /\ LsAt H' as (((xs.take i).filter fun x => (alike ts xs x).head? == some x).map (alike ts xs)) /\ σ = [some (.ref D), some (.ref fo), o2, o3]
 refine for_dict (kvW_keys wb.len) Pv ⟨gz, [], none, none, foz, by simp, (fun _ h => nomatch h), Nat.le_refl _, ⟨rfl, fun i a c e => by simp at e⟩, rfl⟩ (fun i σ H' _ p => p.1 _ _ upd_same) (fun i a x σ H3 ex ha p => ?_) (fun σ H3 p => ?_)
 ·obtain ⟨g3, as, o2, o3, fo3, nfa, fr3, lim, L3, rfl⟩ := p
  have mx := List.mem_of_getElem? ex
  refine ⟨_, rfl, _, rfl, D, a, o, ts, xs, ys, x, rfl, g3 _ _ upd_same, wz.same g3, ha, mx, few, fun l bs H4 g4 nl el Tl => ?_⟩
  have lb := Tl.len
  have self := alike_self (ts := ts) mx
  obtain ⟨y, rest, ea⟩ : ∃ y rest, alike ts xs x = y :: rest := by
   cases z : alike ts xs x with
   | nil => rw [z] at self; cases self
   | cons y rest => exact ⟨y, rest, rfl⟩
  have b1 : 0 < bs.length := by
   rw [lb, ea]
   simp
  obtain ⟨b, eb⟩ : ∃ b, bs[0]? = some b := ⟨_, List.getElem?_eq_getElem b1⟩
  have hb : H4 b = some (.tup (y.map nv)) := Tl.is 0 b y eb (by rw [ea]; rfl)
  have hat : atI (bs.map V.ref) ((0 : Nat) : Int) = some (.ref b) := atI_nat (by rw [List.getElem?_map, eb]; rfl)
  have nx : ((xs.take (i + 1)).filter fun x => (alike ts xs x).head? == some x).map (alike ts xs) = ((xs.take i).filter fun x => (alike ts xs x).head? == some x).map (alike ts xs) ++ (if y = x then [alike ts xs x] else []) := by
   rw [List.take_add_one, ex, List.filter_append, List.map_append]
   by_cases c : y = x
   ·rw [if_pos c]
    simp [ea, c]
   ·rw [if_neg c]
    simp [ea, c]
  refine ⟨_, rfl, l, _, _, _, rfl, rfl, SqL.of el, hat, _, rfl, b, a, 0, _, _, rfl, rfl, repTn (SqT.of hb), repTn (SqT.of (g4 _ _ ha)), by decide, fun c hc => ⟨_, rfl, ?_⟩⟩
  have fo4 := g4 _ _ fo3
  have lfo : l ≠ fo := (ne_of_none fo3 nl).symm
  have nlH : H l = none := by
   cases z : H l with
   | none => rfl
   | some u =>
    by_cases e : l = D
    ·have z2 := g3 _ _ (upd_same (H := H) (a := D) (o := .frz o (.dT (kvW xs ys))))
     rw [<- e, nl] at z2
     cases z2
    ·have z2 := g3 l u (by rw [upd_ne e]; exact z)
     rw [nl] at z2
     cases z2
  by_cases e : y = x
  ·have hc' : c = true := hc.mpr (dt_natsT.mpr e)
   subst hc'
   rw [if_pos e] at nx
   refine iteT ⟨_, rfl, .inl ⟨rfl, _, SqL.of fo4⟩, _, rfl, fo, _, _, rfl, rfl, fo4, by rw [List.length_map, sizeLine_eq]; have := (List.getElem?_eq_some_iff.mp ex).1; lia, ?_⟩
   have L4 := (L3.same g4).snoc el Tl
   have na : fo ∉ as ++ [l] := fun z => (List.mem_append.mp z).elim nfa fun z => lfo (List.mem_singleton.mp z).symm
   refine ⟨same_upd (g3.trans g4) nfo, as ++ [l], _, _, by rw [upd_same, List.map_append]; rfl, na, (fun a ha => (List.mem_append.mp ha).elim (fr3 a) fun z => by rw [List.mem_singleton.mp z]; exact nlH), by rw [List.length_append]; simp; lia, ?_, rfl⟩
   rw [nx]
   exact L4.off fo4 na
  ·have hc' : c = false := by
    cases c with
    | false => rfl
    | true => exact absurd (dt_natsT.mp (hc.mp rfl)) e
   subst hc'
   rw [if_neg e, List.append_nil] at nx
   refine iteF ⟨g3.trans g4, as, _, _, fo4, nfa, fr3, by lia, ?_, rfl⟩
   rw [nx]
   exact L3.same g4
 ·obtain ⟨g3, as, o2, o3, fo3, nfa, fr3, lim, L3, rfl⟩ := p
  rw [List.take_length] at L3
  exact ⟨_, rfl, q fo o as H3 g3 hfo fo3 L3 fr3⟩
end
noncomputable def ledTo (ts : List (List Nat)) (cs : List (List (List Nat))) (c : List (List Nat)) : Bool := cs.any fun d => decide (d ≠ c) && rch ts (d.headD []) (c.headD [])
theorem rep_sets {K : W.Frag} {H : Hp} {a : Addr} {bs : List Addr} {c : List (List Nat)} {n : Nat} (h1 : H a = some (.lst (bs.map .ref))) (T : TupsAt H bs c) : Rep K H (n + 2) (.lst (c.map fun u => .tup (dtN u))) (.ref a) := by
 refine .lst (SqL.of h1) (by rw [List.length_map, List.length_map, T.len]) fun i d v e1 e2 => ?_
 rw [List.getElem?_map] at e1 e2
 obtain ⟨p, ep, rfl⟩ := Option.map_eq_some_iff.mp e1
 obtain ⟨a, ea, rfl⟩ := Option.map_eq_some_iff.mp e2
 exact repTn (SqT.of (T.is i a p ea ep))
theorem first_at {H : Hp} {bs : List Addr} {c : List (List Nat)} (T : TupsAt H bs c) (ne : c ≠ []) : ∃ b, atI (bs.map V.ref) 0 = some (.ref b) /\ H b = some (.tup ((c.headD []).map nv)) /\ c.headD [] ∈ c := by
 have lb := T.len
 obtain ⟨y, rest, ea⟩ : ∃ y rest, c = y :: rest := by
  cases c with
  | nil => exact absurd rfl ne
  | cons y rest => exact ⟨y, rest, rfl⟩
 subst ea
 obtain ⟨b, eb⟩ : ∃ b, bs[0]? = some b := ⟨_, List.getElem?_eq_getElem (by rw [lb]; simp)⟩
 have z : atI (bs.map V.ref) ((0 : Nat) : Int) = some (.ref b) := atI_nat (by rw [List.getElem?_map, eb]; rfl)
 exact ⟨b, z, T.is 0 b y eb rfl, List.mem_cons_self ..⟩
def spLedTo : Sp := fun vs H Q _ => ∃ (D a l : Addr) (ts xs : List (List Nat)) (ys : List WE) (c : List (List Nat)) (cs : List (List (List Nat))) (bs as : List Addr), vs = [.ref D, .ref a, .ref l] /\ Rd H D (.dT (kvW xs ys)) /\ WB H D ts xs ys /\ H a = some (.lst (bs.map .ref)) /\ TupsAt H bs c /\ H l = some (.lst (as.map .ref)) /\ LsAt H as cs /\ c ≠ [] /\ (∀ d ∈ cs, d ≠ [] /\ ∀ x ∈ d, x ∈ xs) /\ cs.length <= 32 /\
 ∀ H', Same H H' -> Q (.bl (ledTo ts cs c)) H'
section
variable {P : Program} {w : World} {K : W.Frag} {mg : Str -> Option Value} {base : Heap} {f : Addr} {fd : FuncData}
theorem ok_is_led_to (F : Fun K "is_led_to" "is_led_to" sIsLedTo f fd) (m_any : mg "any" = none) : FnOk P w K mg base CX0 1 f fd ["words", "sets", "waiting"] spLedTo := by
 refine F.ok scIsLedTo (fun vs H Q E h => ?_) (fun cdv A outer s H vs Q E hr h => ?_)
 ·obtain ⟨D, a, l, ts, xs, ys, c, cs, bs, as, rfl, _⟩ := h
  rfl
 obtain ⟨D, a, l, ts, xs, ys, c, cs, bs, as, rfl, rd, wb, ha, Ta, hl, L, cne, csx, few, q⟩ := h
 have hu := hr.units
 have hu1 := hu_of hr
 have la := L.len
 obtain ⟨b0, at0, hb0, _⟩ := first_at Ta cne
 refine ⟨_, (pss_one (ps_ret (pe_callB (call_anyL rfl) rfl m_any boot_any (pa_cons (pe_comp1 (CompSc.to (N := ["words", "sets", "waiting"]) (osc := defScope sIsLedTo) (vs := ["other"]) ⟨rfl, by decide +kernel, by decide +kernel, by decide +kernel, by decide +kernel, by decide +kernel, by decide +kernel⟩) rfl rfl (pi_list (pv 2)) (fun _ _ _ _ => pts_nil) (fun _ _ _ _ => (pe_and (pe_cmpR (OpR.k (K := K) (fun K => rEqD K true) (op_neD hu) rfl) (pv 0) (pv 2) (nomark _)) (pe_one (pe_cmp (pc_din hu1 (pe_ix (IxR.k (K := K) rIxL ix_list rfl) (pv 2) pe_int (fun _ _ => rfl)) (pe_dget hu1 (pv 1) (pe_ix (IxR.k (K := K) rIxL ix_list rfl) (pv 0) pe_int (fun _ _ => rfl)) (fun _ _ => rfl)))))))) pa_nil)))), ?_⟩
 refine ⟨_, rfl, l, rfl, ⟨_, SqL.of hl⟩, comp_list (xs := as.map .ref) (fun i ys' H' => H' = H /\ ys' = ((cs.take i).map fun d => decide (d ≠ c) && rch ts (d.headD []) (c.headD [])).map V.bl) (by rw [List.length_map, sizeLine_eq]; lia) ⟨rfl, rfl⟩ (fun i ys' H' hi p => ?_) (fun i v ys' H' hv p => ?_) (fun ys' H' p c1 hc1 => ?_)⟩
 ·obtain ⟨rfl, rfl⟩ := p
  exact ⟨SqL.of hl, by simp; lia⟩
 ·obtain ⟨rfl, rfl⟩ := p
  rw [List.getElem?_map] at hv
  obtain ⟨e, ee, rfl⟩ := Option.map_eq_some_iff.mp hv
  have li := (List.getElem?_eq_some_iff.mp ee).1
  obtain ⟨d, ed⟩ : ∃ d, cs[i]? = some d := ⟨_, List.getElem?_eq_getElem (by lia)⟩
  obtain ⟨ds, he, Td⟩ := L.is i e d ee ed
  obtain ⟨dne, dx⟩ := csx d (List.mem_of_getElem? ed)
  obtain ⟨b1, at1, hb1, m1⟩ := first_at Td dne
  have nx : ((cs.take (i + 1)).map fun d => decide (d ≠ c) && rch ts (d.headD []) (c.headD [])).map V.bl = ((cs.take i).map fun d => decide (d ≠ c) && rch ts (d.headD []) (c.headD [])).map V.bl ++ [V.bl (decide (d ≠ c) && rch ts (d.headD []) (c.headD []))] := by
   rw [List.take_add_one, ed, List.map_append, List.map_append]
   rfl
  refine ⟨keep_one, yes_of ?_⟩
  refine ⟨_, rfl, _, rfl, e, a, 1, _, _, rfl, rfl, rep_sets he Td, rep_sets ha Ta, by decide, fun cc hc => ?_⟩
  by_cases ec : d = c
  ·have hc' : cc = true := hc.mpr (by rw [ec])
   subst hc'
   refine ⟨_, rfl, iteF ⟨rfl, ?_⟩⟩
   rw [nx, decide_eq_false (fun z => z ec)]
   rfl
  ·have hc' : cc = false := by
    cases cc with
    | false => rfl
    | true => exact absurd (dts_inj (hc.mp rfl)) ec
   subst hc'
   obtain ⟨W, ws, wa, dg, wt, tt, _⟩ := wb.get rd (dx _ m1) hb1
   obtain ⟨o1, d1, s1⟩ := words_in wt tt hb0
   refine ⟨_, rfl, iteT ⟨_, rfl, a, _, _, _, rfl, rfl, SqL.of ha, at0, _, rfl, _, rfl, e, _, _, _, rfl, rfl, SqL.of he, at1, D, _, rfl, dg, W, o1, rfl, d1, rfl, ?_⟩⟩
   rw [nx, decide_eq_true ec, Bool.true_and, s1]
 ·obtain ⟨rfl, rfl⟩ := p
  rw [List.length_map, la, List.take_length]
  have e2 : (cs.map fun d => decide (d ≠ c) && rch ts (d.headD []) (c.headD [])).any id = ledTo ts cs c := by
   unfold ledTo
   rw [List.any_map]
   rfl
  refine ⟨c1, _, rfl, SqL.of upd_same, ?_⟩
  try dsimp only
  rw [e2]
  exact q _ (same_new hc1 _)
end
inductive Ord (ts : List (List Nat)) : List (List (List Nat)) -> List (List (List Nat)) -> Prop
 | nil : Ord ts [] []
 | cons {cs told : List (List (List Nat))} {s : List (List Nat)} (h : (cs.filter fun c => !ledTo ts cs c).head? = some s) (r : Ord ts (cs.filter fun c => decide (c ≠ s)) told) : Ord ts cs (s :: told)
def Unlike (ts : List (List Nat)) (cs : List (List (List Nat))) : Prop := ∀ c ∈ cs, ∀ d ∈ cs, rch ts (c.headD []) (d.headD []) = true -> rch ts (d.headD []) (c.headD []) = true -> c = d
theorem count_lt {α : Type} {xs : List α} {p q : α -> Bool} (h : ∀ z ∈ xs, p z = true -> q z = true) (e : ∃ z ∈ xs, q z = true /\ p z = false) : xs.countP p < xs.countP q := by
 induction xs with
 | nil =>
  obtain ⟨z, hz, _⟩ := e
  cases hz
 | cons x xs ih =>
  rw [List.countP_cons, List.countP_cons]
  have mono : xs.countP p <= xs.countP q := List.countP_mono_left fun z hz hp => h z (.tail _ hz) hp
  obtain ⟨z, hz, h1, h2⟩ := e
  rcases List.mem_cons.mp hz with rfl | hz
  ·rw [h1, h2]
   simp
   lia
  ·have := ih (fun z hz => h z (.tail _ hz)) ⟨z, hz, h1, h2⟩
   have hx := h x (List.mem_cons_self ..)
   cases c1 : p x with
   | true =>
    rw [hx c1]
    simp
    lia
   | false =>
    simp
    split <;> lia
theorem free_one {ts : List (List Nat)} {cs : List (List (List Nat))} (un : Unlike ts cs) : ∀ (k : Nat) (s : List (List Nat)), s ∈ cs -> cs.countP (fun t => rch ts (t.headD []) (s.headD [])) <= k -> ∃ s ∈ cs, ledTo ts cs s = false
 | 0, s, hs, hk => by
  have z : 0 < cs.countP (fun t => rch ts (t.headD []) (s.headD [])) := List.countP_pos_iff.mpr ⟨s, hs, rch_iff.mpr (Rch.refl ts _)⟩
  lia
 | k + 1, s, hs, hk => by
  cases c : ledTo ts cs s with
  | false => exact ⟨s, hs, c⟩
  | true =>
   obtain ⟨d, hd, h1⟩ := List.any_eq_true.mp c
   rw [Bool.and_eq_true, decide_eq_true_iff] at h1
   obtain ⟨ne, r⟩ := h1
   have lt := count_lt (xs := cs) (p := fun t => rch ts (t.headD []) (d.headD [])) (q := fun t => rch ts (t.headD []) (s.headD [])) (fun z _ hz => rch_iff.mpr ((rch_iff.mp hz).trans (rch_iff.mp r))) ⟨s, hs, rch_iff.mpr (Rch.refl ts _), by
    cases z : rch ts (s.headD []) (d.headD []) with
    | false => rfl
    | true => exact absurd (un d hd s hs r z) ne⟩
   exact free_one un k d hd (by lia)
theorem ls_take {H : Hp} {es as : List Addr} {cs : List (List (List Nat))} {f : List (List Nat) -> Bool} {i : Nat} {a : Addr} {c : List (List Nat)} (L : LsAt H es ((cs.take i).filter f)) (ec : cs[i]? = some c) {bs : List Addr} (ha : H a = some (.lst (bs.map .ref))) (T : TupsAt H bs c) : if f c = true then LsAt H (es ++ [a]) ((cs.take (i + 1)).filter f) else LsAt H es ((cs.take (i + 1)).filter f) := by
 have nx : (cs.take (i + 1)).filter f = (cs.take i).filter f ++ (if f c = true then [c] else []) := by
  rw [List.take_add_one, ec, List.filter_append]
  cases z : f c with
  | true => simp [z]
  | false => simp [z]
 by_cases z : f c = true
 ·rw [if_pos z, nx, if_pos z]
  exact L.snoc ha T
 ·rw [if_neg z, nx, if_neg z, List.append_nil]
  exact L
def spLevelsIn : Sp := fun vs H Q _ => ∃ (D l : Addr) (ts xs : List (List Nat)) (ys : List WE) (cs : List (List (List Nat))) (as : List Addr), vs = [.ref D, .ref l] /\ Rd H D (.dT (kvW xs ys)) /\ WB H D ts xs ys /\ H l = some (.lst (as.map .ref)) /\ LsAt H as cs /\ (∀ d ∈ cs, d ≠ [] /\ ∀ x ∈ d, x ∈ xs) /\ Unlike ts cs /\ cs.length <= 32 /\
 ∀ l2 as2 told H', Same H H' -> H l2 = none -> H' l2 = some (.lst (as2.map .ref)) -> LsAt H' as2 told -> Ord ts cs told -> told.length <= 32 -> (∀ d ∈ told, d ∈ cs) -> (∀ a ∈ as2, a ∈ as) -> Q (.ref l2) H'
theorem rd_same {H H' : Hp} {a : Addr} {u : HO} (h : Rd H a u) (g : Same H H') : Rd H' a u := h.elim (fun e => .inl (g _ _ e)) fun ⟨o, e⟩ => .inr ⟨o, g _ _ e⟩
section
variable {P : Program} {w : World} {K : W.Frag} {mg : Str -> Option Value} {base : Heap} {f : Addr} {fd : FuncData}
theorem ok_levels_in_order (F : Fun K "levels_in_order" "levels_in_order" sLevelsInOrder f fd) (c_is_led_to : Callee P w K mg base "is_led_to" 1 ["words", "sets", "waiting"] spLedTo) : FnOk P w K mg base CX0 3 f fd ["words", "waiting"] spLevelsIn := by
 refine F.ok scLevelsInOrder (fun vs H Q E h => ?_) (fun cdv A outer s H vs Q E hr h => ?_)
 ·obtain ⟨D, l, ts, xs, ys, cs, as, rfl, _⟩ := h
  rfl
 obtain ⟨D, l0, ts, xs, ys, cs0, as0, rfl, rd, wb, hl0, L0, csx, un, few, q⟩ := h
 have hu := hr.units
 have hu1 := hu_of hr
 refine ⟨_, (pss_cons (ps_set (i := 2) scLevelsInOrder.nd rfl (Or.inl rfl) (pe_lst pa_nil)) (pss_cons (ps_while PassesOwn.never (pt_truth (pv 1) (fun _ => rfl)) (pss_cons (ps_set (i := 3) scLevelsInOrder.nd rfl (Or.inr rfl) (pe_comp1 (CompSc.to (N := ["words", "waiting", "told", "free"]) (osc := defScope sLevelsInOrder) (vs := ["sets"]) ⟨rfl, by decide +kernel, by decide +kernel, by decide +kernel, by decide +kernel, by decide +kernel, by decide +kernel⟩) rfl rfl (pi_list (pv 1)) (fun _ _ _ _ => pts_one (pt_not (pt_val (pe_callD c_is_led_to (hr.mono (by decide)) rfl (pl_at (pl_cons (pv 1) (pl_cons (pv 0) (pl_cons (pv 2) pl_nil rfl) rfl) rfl)))))) (fun _ _ _ _ => (pv 0)))) (pss_cons (ps_expr (pe_bm PySem.F.plainAttrs_list PySem.F.slot_list_append PySem.F.type_list_append mt_append (pv 2) (pa_cons (pe_ix ix_list (pv 3) pe_int (fun _ _ => rfl)) pa_nil))) (pss_one (ps_set (i := 1) scLevelsInOrder.nd rfl (Or.inr rfl) (pe_comp1 (CompSc.to (N := ["words", "waiting", "told", "free"]) (osc := defScope sLevelsInOrder) (vs := ["sets"]) ⟨rfl, by decide +kernel, by decide +kernel, by decide +kernel, by decide +kernel, by decide +kernel, by decide +kernel⟩) rfl rfl (pi_list (pv 1)) (fun _ _ _ _ => pts_one (pt_cmpR (OpR.k (K := K) (fun K => rEqD K true) (op_neD hu) rfl) (pv 0) (pe_ix (IxR.k (K := K) rIxL ix_list rfl) (pv 4) pe_int (fun _ _ => rfl)) (nomark _))) (fun _ _ _ _ => (pv 0)))))))) (pss_one (ps_ret (pv 2))))), ?_⟩
 refine ⟨by show 0 <= sizeLine; decide, fun fo hfo => ?_⟩
 have kf := same_new hfo (.lst [])
 have nfo0 : fo ∉ as0 := fun z => by
  obtain ⟨j, ej⟩ := List.mem_iff_getElem?.mp z
  have lj := (List.getElem?_eq_some_iff.mp ej).1
  obtain ⟨bs, e, _⟩ := L0.is j fo _ ej (List.getElem?_eq_getElem (by rw [<- L0.len]; exact lj))
  rw [hfo] at e
  cases e
 let Wv : Nat -> L2.St -> Hp -> Prop := fun m σ H' => Same H H' /\ ∃ l as cs as2 told o3, H' l = some (.lst (as.map .ref)) /\ LsAt H' as cs /\ l ≠ fo /\ fo ∉ as /\ (∀ c ∈ cs, c ∈ cs0) /\ H' fo = some (.lst (as2.map .ref)) /\ LsAt H' as2 told /\ fo ∉ as2 /\ (∀ c ∈ told, c ∈ cs0) /\ told.length + cs.length <= 32 /\ (∀ a ∈ as, a ∈ as0) /\ (∀ a ∈ as2, a ∈ as0) /\ (∀ rest, Ord ts cs rest -> Ord ts cs0 (told ++ rest)) /\ m = cs.length /\ σ = [some (.ref D), some (.ref l), some (.ref fo), o3]
 refine ⟨Wv, ⟨_, kf, l0, as0, cs0, [], [], none, kf _ _ hl0, L0.same kf, ne_of_none hl0 hfo, nfo0, fun c h => h, upd_same, ⟨rfl, fun i a c e => by simp at e⟩, by simp, fun c h => (nomatch h), by simpa using few, (fun _ h => h), (fun _ h => nomatch h), fun rest h => h, rfl, rfl⟩, fun m σ H1 p => ?_⟩
 obtain ⟨g1, l, as, cs, as2, told, o3, el, L, lfo, nfa, sub0, efo, L2', nf2, subT, lim, ia, ia2, cont, hm, rfl⟩ := p
 have la := L.len
 have la2 := L2'.len
 refine ⟨_, rfl, !(as.map V.ref).isEmpty, .inl ⟨_, SqL.of el, rfl⟩, ?_⟩
 by_cases hcs : cs = []
 ·subst hcs
  have e : as = [] := List.length_eq_zero_iff.mp la
  subst e
  rw [if_neg (by simp)]
  have od := cont [] .nil
  rw [List.append_nil] at od
  exact ⟨_, rfl, q fo as2 told H1 g1 hfo efo L2' od (by lia) subT ia2⟩
 have ne : as ≠ [] := fun z => hcs (List.length_eq_zero_iff.mp (by rw [<- la, z]; rfl))
 have c1 : (!(as.map V.ref).isEmpty) = true := by
  cases as with
  | nil => exact absurd rfl ne
  | cons => rfl
 rw [c1]
 refine iteT ?_
 refine ⟨fun σ' H' => ∃ m', m' < m /\ Wv m' σ' H', fun σ' H' h => h, ?_⟩
 have csx' : ∀ d ∈ cs, d ≠ [] /\ ∀ x ∈ d, x ∈ xs := fun d hd => csx d (sub0 d hd)
 have un' : Unlike ts cs := fun c hc d hd => un c (sub0 c hc) d (sub0 d hd)
 have wb1 := wb.same g1
 have rd1 := rd_same rd g1
 refine ⟨_, rfl, l, rfl, ⟨_, SqL.of el⟩, comp_list (xs := as.map .ref) (fun i ys' H' => Same H1 H' /\ ∃ es, ys' = es.map V.ref /\ es.length <= i /\ (∀ e ∈ es, e ∈ as) /\ LsAt H' es ((cs.take i).filter fun c => !ledTo ts cs c)) (by rw [List.length_map, sizeLine_eq]; lia) ⟨Same.refl _, [], rfl, Nat.le_refl _, fun _ h => (nomatch h), ⟨rfl, fun i a c e => by simp at e⟩⟩ (fun i ys' H' hi p => ?_) (fun i v ys' H' hv p => ?_) (fun ys' H2 p fr hfr => ?_)⟩
 ·obtain ⟨g, es, rfl, e, _⟩ := p
  exact ⟨SqL.of (g _ _ el), by rw [List.length_map]; exact e⟩
 ·obtain ⟨g, es, rfl, e, sb, Le⟩ := p
  rw [List.getElem?_map] at hv
  obtain ⟨a, ea, rfl⟩ := Option.map_eq_some_iff.mp hv
  have li := (List.getElem?_eq_some_iff.mp ea).1
  obtain ⟨c, ec⟩ : ∃ c, cs[i]? = some c := ⟨_, List.getElem?_eq_getElem (by lia)⟩
  obtain ⟨bs, ha, Ta⟩ := (L.same g).is i a c ea ec
  have mc := List.mem_of_getElem? ec
  refine ⟨keep_one, _, rfl, _, rfl, _, rfl, D, a, l, ts, xs, ys, c, cs, bs, as, rfl, rd_same rd1 g, wb1.same g, ha, Ta, g _ _ el, L.same g, (csx' c mc).1, csx', by lia, fun H4 g4 => ⟨_, rfl, ?_⟩⟩
  have z := ls_take (as := as) (f := fun c => !ledTo ts cs c) (Le.same g4) ec (g4 _ _ ha) (Ta.same g4)
  cases c2 : ledTo ts cs c with
  | false =>
   rw [c2, if_pos (show (!false) = true from rfl)] at z
   refine iteT ⟨_, rfl, g.trans g4, es ++ [a], by simp, by simp; exact e, fun e' he => ?_, z⟩
   exact (List.mem_append.mp he).elim (sb e') fun h => by rw [List.mem_singleton.mp h]; exact List.mem_of_getElem? ea
  | true =>
   rw [c2, if_neg (by decide)] at z
   exact iteF ⟨g.trans g4, es, rfl, by lia, sb, z⟩
 obtain ⟨g2, es, rfl, _, sb, Le⟩ := p
 rw [List.length_map, la, List.take_length] at Le
 have k3 := same_new hfr (.lst (es.map V.ref))
 have efr : upd H2 fr (.lst (es.map V.ref)) fr = some (.lst (es.map V.ref)) := upd_same
 have frfo : fr ≠ fo := (ne_of_none (g2 _ _ efo) hfr).symm
 have frl : fr ≠ l := (ne_of_none (g2 _ _ el) hfr).symm
 have g13 := g2.trans k3
 have Le3 := Le.same k3
 generalize upd H2 fr (.lst (es.map V.ref)) = H3 at k3 efr g13 Le3 ⊢
 obtain ⟨s0, ms0, fs0⟩ : ∃ s ∈ cs, ledTo ts cs s = false := by
  cases cs with
  | nil => exact absurd rfl hcs
  | cons c cs => exact free_one un' _ c (List.mem_cons_self ..) (Nat.le_refl _)
 have mf : s0 ∈ cs.filter fun c => !ledTo ts cs c := List.mem_filter.mpr ⟨ms0, by rw [fs0]; rfl⟩
 obtain ⟨s, hs⟩ : ∃ s, (cs.filter fun c => !ledTo ts cs c).head? = some s := by
  cases z : cs.filter fun c => !ledTo ts cs c with
  | nil => rw [z] at mf; cases mf
  | cons y ys => exact ⟨y, rfl⟩
 have ms : s ∈ cs := (List.mem_filter.mp (List.mem_of_mem_head? hs)).1
 have hs0 : (cs.filter fun c => !ledTo ts cs c)[0]? = some s := by rw [<- List.head?_eq_getElem?]; exact hs
 have le := Le3.len
 obtain ⟨a, ea⟩ : ∃ a, es[0]? = some a := ⟨_, List.getElem?_eq_getElem (by rw [le]; exact (List.getElem?_eq_some_iff.mp hs0).1)⟩
 have hat : atI (es.map V.ref) ((0 : Nat) : Int) = some (.ref a) := atI_nat (by rw [List.getElem?_map, ea]; rfl)
 obtain ⟨bs, ha, Ta⟩ := Le3.is 0 a s ea hs0
 have aas := sb a (List.mem_of_getElem? ea)
 have afo : a ≠ fo := fun z => nfa (z ▸ aas)
 have efo3 := g13 _ _ efo
 refine ⟨_, rfl, .inl ⟨rfl, _, SqL.of efo3⟩, _, rfl, fr, _, _, _, rfl, rfl, SqL.of efr, hat, fo, _, _, rfl, rfl, efo3, by rw [List.length_map, sizeLine_eq]; lia, ?_⟩
 have g4 : Same H (upd H3 fo (.lst (as2.map V.ref ++ [.ref a]))) := same_upd (g1.trans g13) hfo
 have na2 : fo ∉ as2 ++ [a] := fun z => (List.mem_append.mp z).elim nf2 fun z => afo (List.mem_singleton.mp z).symm
 have L4 := ((L2'.same g13).snoc ha Ta).off (o := .lst (as2.map V.ref ++ [.ref a])) efo3 na2
 have Lw4 := (L.same g13).off (o := .lst (as2.map V.ref ++ [.ref a])) efo3 nfa
 have efo4 : upd H3 fo (.lst (as2.map V.ref ++ [.ref a])) fo = some (.lst ((as2 ++ [a]).map V.ref)) := by rw [upd_same, List.map_append]; rfl
 have el4 : upd H3 fo (.lst (as2.map V.ref ++ [.ref a])) l = some (.lst (as.map V.ref)) := by
  rw [upd_ne lfo]
  exact g13 _ _ el
 have efr4 : upd H3 fo (.lst (as2.map V.ref ++ [.ref a])) fr = some (.lst (es.map V.ref)) := by
  rw [upd_ne frfo]
  exact efr
 have ha4 : upd H3 fo (.lst (as2.map V.ref ++ [.ref a])) a = some (.lst (bs.map V.ref)) := by
  rw [upd_ne afo]
  exact ha
 have Ta4 : TupsAt (upd H3 fo (.lst (as2.map V.ref ++ [.ref a]))) bs s := tups_off Ta efo3 fun _ e => nomatch e
 generalize upd H3 fo (.lst (as2.map V.ref ++ [.ref a])) = H4 at g4 L4 Lw4 efo4 el4 efr4 ha4 Ta4 ⊢
 refine ⟨_, rfl, l, rfl, ⟨_, SqL.of el4⟩, comp_list (xs := as.map .ref) (fun i ys' H' => H' = H4 /\ ∃ es, ys' = es.map V.ref /\ es.length <= i /\ (∀ e ∈ es, e ∈ as) /\ LsAt H4 es ((cs.take i).filter fun c => decide (c ≠ s))) (by rw [List.length_map, sizeLine_eq]; lia) ⟨rfl, [], rfl, Nat.le_refl _, fun _ h => (nomatch h), ⟨rfl, fun i a c e => by simp at e⟩⟩ (fun i ys' H' hi p => ?_) (fun i v ys' H' hv p => ?_) (fun ys' H5 p wl hwl => ?_)⟩
 ·obtain ⟨rfl, es, rfl, e, _⟩ := p
  exact ⟨SqL.of el4, by rw [List.length_map]; exact e⟩
 ·obtain ⟨rfl, es', rfl, e, sb', Le'⟩ := p
  rw [List.getElem?_map] at hv
  obtain ⟨b, eb, rfl⟩ := Option.map_eq_some_iff.mp hv
  have li := (List.getElem?_eq_some_iff.mp eb).1
  obtain ⟨c, ec⟩ : ∃ c, cs[i]? = some c := ⟨_, List.getElem?_eq_getElem (by lia)⟩
  obtain ⟨ds, hb, Tb⟩ := Lw4.is i b c eb ec
  have z := ls_take (as := as) (f := fun c => decide (c ≠ s)) Le' ec hb Tb
  refine ⟨keep_one, _, rfl, _, rfl, fr, _, _, _, rfl, rfl, SqL.of efr4, hat, b, a, 1, _, _, rfl, rfl, rep_sets hb Tb, rep_sets ha4 Ta4, by decide, fun cc hc => ⟨_, rfl, ?_⟩⟩
  by_cases ec2 : c = s
  ·have hc' : cc = true := hc.mpr (by rw [ec2])
   subst hc'
   rw [decide_eq_false (fun z => z ec2), if_neg (by decide)] at z
   exact iteF ⟨rfl, es', rfl, by lia, sb', z⟩
  ·have hc' : cc = false := by
    cases cc with
    | false => rfl
    | true => exact absurd (dts_inj (hc.mp rfl)) ec2
   subst hc'
   rw [decide_eq_true ec2, if_pos rfl] at z
   refine iteT ⟨_, rfl, rfl, es' ++ [b], by simp, by simp; exact e, fun e' he => ?_, z⟩
   exact (List.mem_append.mp he).elim (sb' e') fun h => by rw [List.mem_singleton.mp h]; exact List.mem_of_getElem? eb
 obtain ⟨rfl, es', rfl, _, sb', Le'⟩ := p
 rw [List.length_map, la, List.take_length] at Le'
 have k5 := same_new hwl (.lst (es'.map V.ref))
 have less : (cs.filter fun c => decide (c ≠ s)).length < cs.length := by
  rw [<- List.countP_eq_length_filter]
  have z := count_lt (xs := cs) (p := fun c => decide (c ≠ s)) (q := fun _ => true) (fun _ _ _ => rfl) ⟨s, ms, rfl, decide_eq_false fun z => z rfl⟩
  rw [List.countP_true] at z
  exact z
 refine ⟨(cs.filter fun c => decide (c ≠ s)).length, by lia, g4.trans k5, wl, es', cs.filter fun c => decide (c ≠ s), as2 ++ [a], told ++ [s], _, upd_same, Le'.same k5, (ne_of_none efo4 hwl).symm, fun z => nfa (sb' _ z), fun c hc => sub0 c (List.mem_filter.mp hc).1, k5 _ _ efo4, L4.same k5, na2, fun c hc => (List.mem_append.mp hc).elim (subT c) fun h => by rw [List.mem_singleton.mp h]; exact sub0 s ms, by rw [List.length_append]; simp only [List.length_singleton]; lia, (fun b hb => ia b (sb' b hb)), (fun b hb => (List.mem_append.mp hb).elim (ia2 b) fun z => by rw [List.mem_singleton.mp z]; exact ia a aas), fun rest hr' => ?_, rfl, rfl⟩
 rw [List.append_assoc]
 exact cont _ (.cons hs hr')
end
theorem rd_keeps {H H' : Hp} {a : Addr} {u : HO} (h : Rd H a u) (no : ∀ ps, u ≠ .tbl ps) (g : Keeps H H') : Rd H' a u := h.elim (fun e => .inl (g _ _ (noT_at e no))) fun ⟨o, e⟩ => .inr ⟨o, g _ _ (noT_at e fun _ z => nomatch z)⟩
theorem tups_keeps {H H' : Hp} {bs : List Addr} {us : List (List Nat)} (T : TupsAt H bs us) (g : Keeps H H') : TupsAt H' bs us := ⟨T.len, fun i b u e1 e2 => g _ _ (noT_at (T.is i b u e1 e2) fun _ e => nomatch e)⟩
theorem LsAt.keeps {H H' : Hp} {as : List Addr} {cs : List (List (List Nat))} (h : LsAt H as cs) (g : Keeps H H') : LsAt H' as cs := ⟨h.len, fun i a c e1 e2 => let ⟨bs, h1, h2⟩ := h.is i a c e1 e2; ⟨bs, g _ _ (noT_at h1 fun _ e => nomatch e), tups_keeps h2 g⟩⟩
theorem WB.off2 {H : Hp} {D l : Addr} {ts xs : List (List Nat)} {ys : List WE} {us : List V} {o : HO} (h : WB H D ts xs ys) (hl : H l = some (.lst us)) (no : ∀ y ∈ ys, l ∉ y.2.2) : WB (upd H l o) D ts xs ys := by
 refine ⟨h.len, fun i x y e1 e2 => ?_, h.nd⟩
 obtain ⟨a, b, c⟩ := h.each i x y e1 e2
 refine ⟨⟨a.len, by rw [upd_ne (ne_of a.dict hl fun e => nomatch e)]; exact a.dict, fun j b' p h1 h2 => ?_⟩, b, c⟩
 rw [upd_ne fun (z : b' = l) => no y (List.mem_of_getElem? e2) (by rw [<- z]; exact List.mem_of_getElem? h1)]
 exact a.list j b' p h1 h2
theorem class_facts {ts xs : List (List Nat)} {c : List (List Nat)} (h : c ∈ classes ts xs) : c ≠ [] /\ c = alike ts xs (c.headD []) /\ c.headD [] ∈ xs /\ ∀ x ∈ c, x ∈ xs /\ Rch ts (c.headD []) x /\ Rch ts x (c.headD []) := by
 obtain ⟨x, hx, rfl⟩ := List.mem_map.mp h
 obtain ⟨h1, h2⟩ := List.mem_filter.mp hx
 have e : (alike ts xs x).headD [] = x := by
  have z : (alike ts xs x).head? = some x := eq_of_beq h2
  cases y : alike ts xs x with
  | nil => rw [y] at z; cases z
  | cons a as =>
   rw [y] at z
   injection z with z
 refine ⟨fun z => ?_, by rw [e], by rw [e]; exact h1, fun y hy => ?_⟩
 ·have s := alike_self (ts := ts) h1
  rw [z] at s
  cases s
 ·obtain ⟨h3, h4⟩ := List.mem_filter.mp hy
  rw [Bool.and_eq_true] at h4
  rw [e]
  exact ⟨h3, rch_iff.mp h4.1, rch_iff.mp h4.2⟩
theorem classes_unlike (ts xs : List (List Nat)) : Unlike ts (classes ts xs) := fun c hc d hd r1 r2 => by
 obtain ⟨_, e1, _⟩ := class_facts hc
 obtain ⟨_, e2, _⟩ := class_facts hd
 rw [e1, e2]
 generalize c.headD [] = x at r1 r2
 generalize d.headD [] = y at r1 r2
 refine List.filter_congr fun z _ => ?_
 have go : ∀ {x y : List Nat}, rch ts x y = true -> rch ts y x = true -> (rch ts x z && rch ts z x) = true -> (rch ts y z && rch ts z y) = true := fun {x y} a b h => by
  rw [Bool.and_eq_true] at h ⊢
  exact ⟨rch_iff.mpr ((rch_iff.mp b).trans (rch_iff.mp h.1)), rch_iff.mpr ((rch_iff.mp h.2).trans (rch_iff.mp a))⟩
 rw [Bool.eq_iff_iff]
 exact ⟨go r1 r2, go r2 r1⟩
def LevAt (H : Hp) (l : Addr) (ts fam : List (List Nat)) (xs : List (List Nat)) (ys : List WE) (a : Addr) (c : List (List Nat)) : Prop := ∃ (s t v : Addr) (bs ds cs : List Addr) (i : Nat) (y : WE), H a = some (.tup [.ref s, .ref t, .ref v]) /\ s ≠ l /\ t ≠ l /\ v ≠ l /\ l ∉ cs /\ H s = some (.lst (bs.map .ref)) /\ TupsAt H bs c /\ H t = some (.lst (ds.map .ref)) /\ TupsAt H ds (tilesOf fam (c.headD [])) /\ H v = some (.lst (cs.map .ref)) /\ cs.length = c.length /\ xs[i]? = some (c.headD []) /\ ys[i]? = some y /\ Told (stepR ts) ts.length (c.headD []) y.2.1 /\
 (∀ b ∈ cs, b ∈ y.2.2) /\ ∀ (k : Nat) (x : List Nat) (b : Addr), c[k]? = some x -> cs[k]? = some b -> ∃ word, (x, word) ∈ y.2.1 /\ H b = some (.lst (word.map nv))
theorem LevAt.keeps {H H' : Hp} {l : Addr} {ts fam xs : List (List Nat)} {ys : List WE} {a : Addr} {c : List (List Nat)} (h : LevAt H l ts fam xs ys a c) (g : Keeps H H') : LevAt H' l ts fam xs ys a c := by
 obtain ⟨s, t, v, bs, ds, cs, i, y, h1, h2, h3, h4, h5, h6, h7, h8, h9, h10, h11, h12, h13, h14, h15, h16⟩ := h
 refine ⟨s, t, v, bs, ds, cs, i, y, g _ _ (noT_at h1 fun _ e => nomatch e), h2, h3, h4, h5, g _ _ (noT_at h6 fun _ e => nomatch e), tups_keeps h7 g, g _ _ (noT_at h8 fun _ e => nomatch e), tups_keeps h9 g, g _ _ (noT_at h10 fun _ e => nomatch e), h11, h12, h13, h14, h15, fun k x b e1 e2 => ?_⟩
 obtain ⟨word, z1, z2⟩ := h16 k x b e1 e2
 exact ⟨word, z1, g _ _ (noT_at z2 fun _ e => nomatch e)⟩
theorem LevAt.off {H : Hp} {l : Addr} {ts fam xs : List (List Nat)} {ys : List WE} {a : Addr} {c : List (List Nat)} {us : List V} {o : HO} (h : LevAt H l ts fam xs ys a c) (hl : H l = some (.lst us)) : LevAt (upd H l o) l ts fam xs ys a c := by
 obtain ⟨s, t, v, bs, ds, cs, i, y, h1, h2, h3, h4, h5, h6, h7, h8, h9, h10, h11, h12, h13, h14, h15, h16⟩ := h
 refine ⟨s, t, v, bs, ds, cs, i, y, by rw [upd_ne (ne_of h1 hl fun e => nomatch e)]; exact h1, h2, h3, h4, h5, by rw [upd_ne h2]; exact h6, tups_off h7 hl (fun _ e => nomatch e), by rw [upd_ne h3]; exact h8, tups_off h9 hl (fun _ e => nomatch e), by rw [upd_ne h4]; exact h10, h11, h12, h13, h14, h15, fun k x b e1 e2 => ?_⟩
 obtain ⟨word, z1, z2⟩ := h16 k x b e1 e2
 refine ⟨word, z1, ?_⟩
 rw [upd_ne fun (z : b = l) => h5 (by rw [<- z]; exact List.mem_of_getElem? e2)]
 exact z2
structure LevsAt (H : Hp) (l : Addr) (ts fam xs : List (List Nat)) (ys : List WE) (as : List Addr) (told : List (List (List Nat))) : Prop where
 len : as.length = told.length
 is : ∀ (i : Nat) (a : Addr) (c : List (List Nat)), as[i]? = some a -> told[i]? = some c -> LevAt H l ts fam xs ys a c
def NewLev (H H' : Hp) (a : Addr) : Prop := ∃ s t v, H' a = some (.tup [.ref s, .ref t, .ref v]) /\ L2.noT H s = none /\ L2.noT H t = none /\ L2.noT H v = none
def spLevels (T : Addr) (pos : Pos) : Sp := fun vs H Q _ => ∃ (m : Addr) (ts : List (List Nat)) (n : Nat), vs = [.ref m] /\ Mach H m ts n /\ Tabs H /\
 ∀ l as told fam ys H', Keeps H H' -> Tabs H' -> L2.noT H l = none -> H' l = some (.lst (as.map .ref)) -> FamOf ts n fam -> Ord ts (classes ts (big fam)) told -> (∀ c ∈ told, c ∈ classes ts (big fam)) -> told.length <= 32 -> LevsAt H' l ts fam (big fam) ys as told -> (∀ y ∈ ys, ∀ b ∈ y.2.2, L2.noT H b = none) -> ys.Pairwise (fun p q => ∀ b ∈ p.2.2, b ∉ q.2.2) -> (∀ a ∈ as, NewLev H H' a) -> Q (.ref l) H'
section
variable {P : Program} {w : World} {K : W.Frag} {mg : Str -> Option Value} {base : Heap} {f : Addr} {fd : FuncData}
theorem ok_levels {T : Addr} (F : Fun K "levels" "levels" sLevels f fd) (c_words_between : Callee P w K mg base "words_between" 16 ["machine"] (spWordsBetween T (⟨46, 40, 46, 93⟩ : Pos))) (c_sets_of_levels : Callee P w K mg base "sets_of_levels" 3 ["words"] spSetsOf) (c_levels_in_order : Callee P w K mg base "levels_in_order" 3 ["words", "waiting"] spLevelsIn) (c_tiles : Callee P w K mg base "tiles" 16 ["machine", "rooms"] (spTiles T (⟨46, 40, 46, 93⟩ : Pos))) : FnOk P w K mg base CX0 18 f fd ["machine"] (spLevels T (⟨46, 40, 46, 93⟩ : Pos)) := by
 refine F.ok scLevels (fun vs H Q E h => ?_) (fun cdv A outer s H vs Q E hr h => ?_)
 ·obtain ⟨m, ts, n, rfl, _⟩ := h
  rfl
 obtain ⟨m, ts, n, rfl, M, hT, q⟩ := h
 have hu := hr.units
 have hu1 := hu_of hr
 refine ⟨_, (pss_cons (ps_set (i := 1) scLevels.nd rfl (Or.inr rfl) (pe_callD c_words_between (hr.mono (by decide)) rfl (pa_cons (pv 0) pa_nil))) (pss_cons (ps_set (i := 2) scLevels.nd rfl (Or.inl rfl) (pe_lst pa_nil)) (pss_cons (ps_for PassesOwn.never rfl (pi_list (pe_callD c_levels_in_order (hr.mono (by decide)) rfl (pl_at (pl_cons (pv 1) (pl_cons (pe_callD c_sets_of_levels (hr.mono (by decide)) rfl (pa_cons (pv 1) pa_nil)) pl_nil rfl) rfl)))) (pg_name (i := 3) scLevels.nd rfl (Or.inl rfl)) (pss_cons (ps_set (i := 4) scLevels.nd rfl (Or.inr rfl) (pe_ix ix_list (pv 3) pe_int (fun _ _ => rfl))) (pss_cons (ps_setC1 (CompSc.to (N := ["machine", "words", "told", "sets", "face", "ways"]) (osc := defScope sLevels) (vs := ["rooms"]) ⟨rfl, by decide +kernel, by decide +kernel, by decide +kernel, by decide +kernel, by decide +kernel, by decide +kernel⟩) rfl rfl scLevels.nd (j := 5) rfl rfl (pi_list (pv 3)) (fun _ _ _ _ => pts_nil) (fun _ _ _ _ => (pe_dget hu1 (pe_dget hu1 (pv 2) (pv 5) (fun _ _ => rfl)) (pv 0) (fun _ _ => rfl)))) (pss_one (ps_expr (pe_bm PySem.F.plainAttrs_list PySem.F.slot_list_append PySem.F.type_list_append mt_append (pv 2) (pa_cons (pe_tup (pl_at (pl_cons (pv 3) (pl_cons (pe_callD c_tiles (hr.mono (by decide)) rfl (pl_at (pl_cons (pv 0) (pl_cons (pv 4) pl_nil rfl) rfl))) (pl_cons (pv 5) pl_nil rfl) rfl) rfl))) pa_nil))))))) (pss_one (ps_ret (pv 2)))))), ?_⟩
 refine ⟨_, rfl, m, ts, n, rfl, M, hT, fun D fam ys H1 k1 T1 nD ff eD wb nw ap => ?_⟩
 have few := ff.few M
 have fewB : (big fam).length <= 32 := Nat.le_trans (List.length_filter_le _ _) few
 refine ⟨by show 0 <= sizeLine; decide, fun to hto => ?_⟩
 have kt := same_new hto (.lst [])
 have nto : ∀ y ∈ ys, to ∉ y.2.2 := fun y hy hb => by
  obtain ⟨j, ej⟩ := List.mem_iff_getElem?.mp hy
  have lj := (List.getElem?_eq_some_iff.mp ej).1
  have hl := wb.len
  obtain ⟨x', ex'⟩ : ∃ x', (big fam)[j]? = some x' := ⟨_, List.getElem?_eq_getElem (by lia)⟩
  obtain ⟨a', _⟩ := wb.each j x' y ex' ej
  obtain ⟨j2, ej2⟩ := List.mem_iff_getElem?.mp hb
  have lj2 := (List.getElem?_eq_some_iff.mp ej2).1
  have z2 := a'.list j2 to _ ej2 (List.getElem?_eq_getElem (by rw [<- a'.len]; exact lj2))
  rw [hto] at z2
  cases z2
 have toD : to ≠ D := (ne_of_none eD hto).symm
 have eD2 := kt _ _ eD
 refine ⟨_, rfl, _, rfl, D, ts, big fam, ys, rfl, eD2, wb.same kt, fewB, fun wl o as H3 g3 nwl ewl Lw fras => ?_⟩
 have eD3 : H3 D = some (.frz o (.dT (kvW (big fam) ys))) := g3 _ _ upd_same
 have wb3 : WB H3 D ts (big fam) ys := ((wb.same kt).off eD2).same g3
 have k13 : ∀ {b : Addr} {u : HO}, b ≠ D -> upd H1 to (.lst []) b = some u -> H3 b = some u := fun nb hb => g3 _ _ (by rw [upd_ne nb]; exact hb)
 have eto3 : H3 to = some (.lst []) := k13 toD upd_same
 have noD : ∀ {b : Addr} {u : HO}, L2.noT H b = some u -> b ≠ D := fun hb z => by
  subst z
  rw [nD] at hb
  cases hb
 have kH3 : Keeps H H3 := fun b u hb => k13 (noD hb) (kt _ _ (k1 _ _ hb))
 have T3 : Tabs H3 := (T1.same kt).most fun b u nd _ hb => k13 (ne_of hb eD2 fun e => nd _ e) hb
 have clx : ∀ d ∈ classes ts (big fam), d ≠ [] /\ ∀ x ∈ d, x ∈ big fam := fun d hd => ⟨(class_facts hd).1, fun x hx => ((class_facts hd).2.2.2 x hx).1⟩
 have fewC : (classes ts (big fam)).length <= 32 := by
  unfold classes
  rw [List.length_map]
  exact Nat.le_trans (List.length_filter_le _ _) fewB
 refine ⟨D, wl, ts, big fam, ys, _, as, rfl, .inr ⟨o, eD3⟩, wb3, ewl, Lw, clx, classes_unlike ts _, fewC, fun ol as2 told H4 g4 nol eol Lo od lim sub ia2 => ?_⟩
 have lo := Lo.len
 have tool : ol ≠ to := (ne_of_none eto3 nol).symm
 have nol2 : to ∉ as2 := fun z => by
  obtain ⟨j, ej⟩ := List.mem_iff_getElem?.mp z
  have lj := (List.getElem?_eq_some_iff.mp ej).1
  obtain ⟨bs, e, _⟩ := Lo.is j to _ ej (List.getElem?_eq_getElem (by rw [<- lo]; exact lj))
  have ec := List.getElem_mem (show j < told.length by lia)
  have z1 := g4 _ _ eto3
  rw [e] at z1
  injection z1 with z1
  injection z1 with z1
  have z2 : bs = [] := List.map_eq_nil_iff.mp z1
  obtain ⟨bs', e', Tb'⟩ := Lo.is j to _ ej (List.getElem?_eq_getElem (by lia))
  rw [e] at e'
  injection e' with e'
  injection e' with e'
  rw [z2] at e'
  have z3 : bs' = [] := List.map_eq_nil_iff.mp e'.symm
  have z4 := Tb'.len
  rw [z3] at z4
  exact (class_facts (sub _ ec)).1 (List.length_eq_zero_iff.mp z4.symm)
 have kH4 : Keeps H H4 := kH3.trans g4.keeps
 have T4 := T3.same g4
 have eto4 := g4 _ _ eto3
 have nTo : L2.noT H to = none := by
  cases z : L2.noT H to with
  | none => rfl
  | some u =>
   have z2 := k1 _ _ z
   rw [hto] at z2
   cases z2
 let Pv : Nat -> L2.St -> Hp -> Prop := fun i σ H' => Keeps H H' /\ Tabs H' /\ H' ol = some (.lst (as2.map .ref)) /\ LsAt H' as2 told /\ Rd H' D (.dT (kvW (big fam) ys)) /\ WB H' D ts (big fam) ys /\ ∃ ls o3 o4 o5, H' to = some (.lst (ls.map .ref)) /\ LevsAt H' to ts fam (big fam) ys ls (told.take i) /\ (∀ a ∈ ls, NewLev H H' a) /\ σ = [some (.ref m), some (.ref D), some (.ref to), o3, o4, o5]
 refine ⟨ol, rfl, ⟨_, SqL.of eol⟩, for_list (xs := as2.map .ref) Pv ⟨kH4, T4, eol, Lo, .inr ⟨o, g4 _ _ eD3⟩, wb3.same g4, [], none, none, none, eto4, ⟨rfl, fun i a c e => by simp at e⟩, (fun _ h => nomatch h), rfl⟩ (fun i σ H' _ p => SqL.of p.2.2.1) (fun i v σ H5 hv p => ?_) (fun σ H5 p => ?_)⟩
 ·obtain ⟨k5, T5, eol5, Lo5, rd5, wb5, ls, o3, o4, o5, eto5, Lv5, nl5, rfl⟩ := p
  rw [List.getElem?_map] at hv
  obtain ⟨a, ea, rfl⟩ := Option.map_eq_some_iff.mp hv
  have li := (List.getElem?_eq_some_iff.mp ea).1
  obtain ⟨c, ec⟩ : ∃ c, told[i]? = some c := ⟨_, List.getElem?_eq_getElem (by lia)⟩
  obtain ⟨bs, ha, Ta⟩ := Lo5.is i a c ea ec
  obtain ⟨cne, _, cx, call⟩ := class_facts (sub c (List.mem_of_getElem? ec))
  obtain ⟨b0, at0, hb0, m0⟩ := first_at Ta cne
  have lbs := Ta.len
  have c32 : c.length <= 32 := by
   rw [(class_facts (sub c (List.mem_of_getElem? ec))).2.1]
   exact Nat.le_trans (List.length_filter_le _ _) fewB
  have ato : a ≠ to := fun z => nol2 (z ▸ List.mem_of_getElem? ea)
  obtain ⟨W, ws, wa, dg, wt, tt, ix, ex, ey⟩ := wb5.get rd5 cx hb0
  refine ⟨_, rfl, a, _, _, _, rfl, rfl, SqL.of ha, at0, ?_⟩
  refine ⟨_, rfl, a, rfl, ⟨_, SqL.of ha⟩, comp_list (xs := bs.map .ref) (fun j ys' H' => H' = H5 /\ ∃ cs : List Addr, ys' = cs.map V.ref /\ cs.length = j /\ (∀ b ∈ cs, b ∈ wa) /\ ∀ (k : Nat) (x : List Nat) (b : Addr), c[k]? = some x -> cs[k]? = some b -> ∃ word, (x, word) ∈ ws /\ H5 b = some (.lst (word.map nv))) (by rw [List.length_map, sizeLine_eq]; lia) ⟨rfl, [], rfl, rfl, fun _ h => (nomatch h), fun k x b _ e => by simp at e⟩ (fun j ys' H' hi p => ?_) (fun j v ys' H' hv p => ?_) (fun ys' H' p wy hwy => ?_)⟩
  ·obtain ⟨rfl, cs, rfl, e, _⟩ := p
   exact ⟨SqL.of ha, by rw [List.length_map]; lia⟩
  ·obtain ⟨rfl, cs, rfl, e, sb, al⟩ := p
   rw [List.getElem?_map] at hv
   obtain ⟨b, eb, rfl⟩ := Option.map_eq_some_iff.mp hv
   have lj := (List.getElem?_eq_some_iff.mp eb).1
   obtain ⟨x, exj⟩ : ∃ x, c[j]? = some x := ⟨_, List.getElem?_eq_getElem (by lia)⟩
   have hb := Ta.is j b x eb exj
   obtain ⟨_, r1, _⟩ := call x (List.mem_of_getElem? exj)
   obtain ⟨⟨x', u⟩, hp, e'⟩ := List.mem_map.mp ((told_rch tt x).mpr r1)
   have e2 : x' = x := e'
   subst e2
   obtain ⟨wl', v1, v2⟩ := wt.word tt.keys hp
   have dg2 : DGet H' W (.ref b) (some (.ref wl')) := .inr ⟨_, nk x', b, .inl wt.dict, rfl, by rw [nk_kV]; exact hb, v1.symm⟩
   refine ⟨keep_one, yes_of ⟨_, rfl, _, rfl, D, _, rfl, dg, _, rfl, W, _, rfl, dg2, rfl, cs ++ [wl'], by simp, by simp [e], fun b' hb' => ?_, fun k x b' e1 e2 => ?_⟩⟩
   ·exact (List.mem_append.mp hb').elim (sb b') fun h => by rw [List.mem_singleton.mp h]; exact val_mem v1
   ·by_cases hk : k < cs.length
    ·rw [List.getElem?_append_left hk] at e2
     exact al k x b' e1 e2
    ·rw [List.getElem?_append_right (by lia)] at e2
     have z : k - cs.length = 0 := by
      have := (List.getElem?_eq_some_iff.mp e2).1
      simp at this
      lia
     rw [z] at e2
     cases e2
     have kj : k = j := by lia
     subst kj
     rw [exj] at e1
     cases e1
     exact ⟨u, hp, v2⟩
  ·obtain ⟨rfl, cs, rfl, ecs, sb, al⟩ := p
   rw [List.length_map] at ecs
   have kw := same_new hwy (.lst (cs.map V.ref))
   have wyto : wy ≠ to := (ne_of_none eto5 hwy).symm
   have ewy : upd H' wy (.lst (cs.map V.ref)) wy = some (.lst (cs.map V.ref)) := upd_same
   generalize upd H' wy (.lst (cs.map V.ref)) = H6 at kw ewy ⊢
   have eto6 := kw _ _ eto5
   refine ⟨_, rfl, .inl ⟨rfl, _, SqL.of eto6⟩, _, rfl, _, rfl, _, rfl, m, b0, ts, n, c.headD [], rfl, (M.keeps k5).same kw, kw _ _ hb0, T5.same kw, fun tl ds us fam1 H7 k7 T7 ntl etl Td ff1 eus => ?_⟩
   have ef : fam1 = fam := ff1.uniq ff
   subst ef
   subst eus
   have eto7 := k7 _ _ (noT_at eto6 fun _ e => nomatch e)
   have tlto : tl ≠ to := fun z => by
    subst z
    rw [noT_at eto6 fun _ e => nomatch e] at ntl
    cases ntl
   refine ⟨_, rfl, by show 3 <= sizeLine; decide, fun lv hlv => ?_⟩
   have kl := same_new hlv (.tup [.ref a, .ref tl, .ref wy])
   have elv : upd H7 lv (.tup [.ref a, .ref tl, .ref wy]) lv = some (.tup [.ref a, .ref tl, .ref wy]) := upd_same
   have kk : Keeps H' (upd H7 lv (.tup [.ref a, .ref tl, .ref wy])) := (kw.keeps.trans k7).trans kl.keeps
   have k6l : Keeps H6 (upd H7 lv (.tup [.ref a, .ref tl, .ref wy])) := k7.trans kl.keeps
   have etl8 := kl _ _ etl
   have Td8 := Td.same kl
   have T8 := T7.same kl
   have eto8 := kl _ _ eto7
   generalize upd H7 lv (.tup [.ref a, .ref tl, .ref wy]) = H8 at kl elv kk k6l etl8 Td8 T8 eto8 ⊢
   have lls := Lv5.len
   rw [List.length_take] at lls
   refine ⟨to, _, _, rfl, rfl, eto8, by rw [List.length_map, sizeLine_eq]; lia, ?_⟩
   have at1 : ∀ {b : Addr} {u : HO}, H' b = some u -> (∀ ps, u ≠ .tbl ps) -> H8 b = some u := fun hb no => kk _ _ (noT_at hb no)
   refine ⟨fun b u hb => ?_, ?_, ?_, ?_, ?_, ?_, ls ++ [lv], _, _, _, by rw [upd_same, List.map_append]; rfl, ⟨?_, fun j a' c' e1 e2 => ?_⟩, fun a' ha' => ?_, rfl⟩
   ·rw [upd_ne fun (z : b = to) => by subst z; rw [nTo] at hb; cases hb]
    exact (k5.trans kk) _ _ hb
   ·exact T8.most fun b' u _ nl hb' => by rw [upd_ne (ne_of hb' eto8 fun e => nl _ e)]; exact hb'
   ·rw [upd_ne tool]
    exact at1 eol5 fun _ e => nomatch e
   ·exact (Lo5.keeps kk).off eto8 nol2
   ·rcases rd_keeps rd5 (fun _ e => nomatch e) kk with z | ⟨o', z⟩
    ·exact .inl (by rw [upd_ne (ne_of z eto8 fun e => nomatch e)]; exact z)
    ·exact .inr ⟨o', by rw [upd_ne (ne_of z eto8 fun e => nomatch e)]; exact z⟩
   ·exact (wb5.keeps kk).off2 eto8 nto
   ·rw [List.length_append, List.length_take]
    simp only [List.length_singleton]
    lia
   ·have lt' : told.take (i + 1) = told.take i ++ [c] := by rw [List.take_add_one, ec]; rfl
    rw [lt'] at e2
    by_cases hj : j < ls.length
    ·rw [List.getElem?_append_left hj] at e1
     rw [List.getElem?_append_left (by rw [List.length_take]; lia)] at e2
     exact ((Lv5.is j a' c' e1 e2).keeps kk).off eto8
    ·rw [List.getElem?_append_right (by lia)] at e1
     rw [List.getElem?_append_right (by rw [List.length_take]; lia)] at e2
     have z : j - ls.length = 0 := by
      have := (List.getElem?_eq_some_iff.mp e1).1
      simp at this
      lia
     have z' : j - (told.take i).length = 0 := by rw [List.length_take]; lia
     rw [z] at e1
     rw [z'] at e2
     cases e1
     cases e2
     refine LevAt.off ⟨a, tl, wy, bs, ds, cs, ix, (W, ws, wa), elv, ato, tlto, wyto, fun z => nto _ (List.mem_of_getElem? ey) (sb _ z), at1 ha (fun _ e => nomatch e), tups_keeps Ta kk, etl8, Td8, k6l _ _ (noT_at ewy fun _ e => nomatch e), by lia, ex, ey, tt, sb, fun k x b e1 e2 => ?_⟩ eto8
     obtain ⟨word, z1, z2⟩ := al k x b e1 e2
     exact ⟨word, z1, at1 z2 fun _ e => nomatch e⟩
   ·rcases List.mem_append.mp ha' with z | z
    ·obtain ⟨s', t', v', z1, z2⟩ := nl5 a' z
     exact ⟨s', t', v', (by rw [upd_ne (ne_of (at1 z1 fun _ e => nomatch e) eto8 fun e => nomatch e)]; exact at1 z1 fun _ e => nomatch e), z2⟩
    ·rw [List.mem_singleton.mp z]
     refine ⟨a, tl, wy, by rw [upd_ne (ne_of elv eto8 fun e => nomatch e)]; exact elv, ?_, ?_, ?_⟩
     ·have z1 := fras a (ia2 a (List.mem_of_getElem? ea))
      cases y : L2.noT H a with
      | none => rfl
      | some u =>
       rw [kt _ _ (k1 _ _ y)] at z1
       cases z1
     ·cases y : L2.noT H tl with
      | none => rfl
      | some u =>
       have z1 := kw _ _ (k5 _ _ y)
       rw [noT_at z1 (of_noT y).2] at ntl
       cases ntl
     ·cases y : L2.noT H wy with
      | none => rfl
      | some u =>
       rw [k5 _ _ y] at hwy
       cases hwy
 ·obtain ⟨k5, T5, eol5, Lo5, rd5, wb5, ls, o3, o4, o5, eto5, Lv5, nl5, rfl⟩ := p
  rw [List.length_map, lo, List.take_length] at Lv5
  exact ⟨_, rfl, q to ls told fam ys H5 k5 T5 nTo eto5 ff od sub lim Lv5 nw ap nl5⟩
end
theorem sub_iff {x y : List Nat} : sub x y = true ↔ ∀ r ∈ x, r ∈ y := by
 unfold sub
 rw [List.all_eq_true]
 exact ⟨fun h r hr => List.contains_iff_mem.mp (h r hr), fun h r hr => List.contains_iff_mem.mpr (h r hr)⟩
theorem sub_longer {n : Nat} {u v : List Nat} (hu : u ∈ setsU n) (hv : v ∈ setsU n) (h : sub u v = true) (ne : u ≠ v) : u.length < v.length := by
 obtain ⟨u1, _⟩ := mem_setsU.mp hu
 obtain ⟨v1, _⟩ := mem_setsU.mp hv
 have s := sub_iff.mp h
 have e : ∃ z ∈ List.range 5, u.contains z = false /\ v.contains z = true := by
  refine Classical.byContradiction fun no => ne ?_
  rw [<- u1, <- v1]
  unfold norm5
  refine List.filter_congr fun z hz => ?_
  rw [Bool.eq_iff_iff]
  constructor
  ·exact fun q => List.contains_iff_mem.mpr (s z (List.contains_iff_mem.mp q))
  ·intro q
   cases c : u.contains z with
   | true => rfl
   | false => exact absurd ⟨z, hz, c, q⟩ no
 have z := count_less (xs := List.range 5) (p := fun i => u.contains i) (q := fun i => v.contains i) (fun z _ q => List.contains_iff_mem.mpr (s z (List.contains_iff_mem.mp q))) e
 rw [List.countP_eq_length_filter, List.countP_eq_length_filter] at z
 unfold norm5 at u1 v1
 rw [u1, v1] at z
 exact z
structure TileFacts (fam : List (List Nat)) (x : List Nat) (us : List (List Nat)) : Prop where
 mem : ∀ u ∈ us, u ∈ fam /\ u ≠ x /\ sub u x = true
 apart : ∀ u ∈ us, ∀ v ∈ us, u ≠ v -> sub u v = false
 up : us.Pairwise fun a b => byKey gl a b = true
 all : ∀ u ∈ fam, u ≠ x -> sub u x = true -> ∃ t ∈ us, sub u t = true
 few : us.length <= 32
 few2 : fam.length <= 32
 l5 : ∀ u ∈ fam, u.length <= 5
theorem tile_facts {H : Hp} {m : Addr} {ts : List (List Nat)} {n : Nat} {fam : List (List Nat)} (M : Mach H m ts n) (ff : FamOf ts n fam) (x : List Nat) : TileFacts fam x (tilesOf fam x) := by
 have few := ff.few M
 have ins : ∀ u, u ∈ inside fam x ↔ u ∈ fam /\ u ≠ x /\ sub u x = true := fun u => by
  unfold inside
  rw [List.mem_filter, Bool.and_eq_true, decide_eq_true_iff]
 have cov : ∀ u, covered (inside fam x) u = true ↔ ∃ v ∈ inside fam x, v ≠ u /\ sub u v = true := fun u => by
  unfold covered
  rw [List.any_eq_true]
  constructor
  ·rintro ⟨v, h1, h2⟩
   rw [Bool.and_eq_true, decide_eq_true_iff] at h2
   exact ⟨v, h1, h2⟩
  ·rintro ⟨v, h1, h2⟩
   exact ⟨v, h1, by rw [Bool.and_eq_true, decide_eq_true_iff]; exact h2⟩
 have til : ∀ u, u ∈ tilesOf fam x ↔ u ∈ inside fam x /\ covered (inside fam x) u = false := fun u => by
  unfold tilesOf
  rw [List.mem_filter]
  refine and_congr Iff.rfl ?_
  cases covered (inside fam x) u <;> simp
 have lu : ∀ u ∈ fam, u.length <= 5 := fun u h => Nat.le_trans (setsU_len M.n5 (ff.inU M h)) M.n5
 have climb : ∀ (d : Nat) (u : List Nat), u ∈ inside fam x -> 5 - u.length <= d -> ∃ t ∈ tilesOf fam x, sub u t = true := by
  intro d
  induction d with
  | zero =>
   intro u hu hd
   cases c : covered (inside fam x) u with
   | false => exact ⟨u, (til u).mpr ⟨hu, c⟩, sub_iff.mpr fun r hr => hr⟩
   | true =>
    obtain ⟨v, hv, h1, h2⟩ := (cov u).mp c
    have := sub_longer (ff.inU M ((ins u).mp hu).1) (ff.inU M ((ins v).mp hv).1) h2 (Ne.symm h1)
    have := lu v ((ins v).mp hv).1
    lia
  | succ d ih =>
   intro u hu hd
   cases c : covered (inside fam x) u with
   | false => exact ⟨u, (til u).mpr ⟨hu, c⟩, sub_iff.mpr fun r hr => hr⟩
   | true =>
    obtain ⟨v, hv, h1, h2⟩ := (cov u).mp c
    have := sub_longer (ff.inU M ((ins u).mp hu).1) (ff.inU M ((ins v).mp hv).1) h2 (Ne.symm h1)
    obtain ⟨t, ht, h3⟩ := ih v hv (by lia)
    exact ⟨t, ht, sub_iff.mpr fun r hr => sub_iff.mp h3 r (sub_iff.mp h2 r hr)⟩
 refine ⟨fun u hu => (ins u).mp ((til u).mp hu).1, fun u hu v hv ne => ?_, ?_, fun u h1 h2 h3 => climb 5 u ((ins u).mpr ⟨h1, h2, h3⟩) (by lia), ?_, few, lu⟩
 ·cases c : sub u v with
  | false => rfl
  | true =>
   have z := (cov u).mpr ⟨v, ((til v).mp hv).1, Ne.symm ne, c⟩
   rw [((til u).mp hu).2] at z
   cases z
 ·exact (ff.up.filter _).filter _
 ·exact Nat.le_trans (List.length_filter_le _ _) (Nat.le_trans (List.length_filter_le _ _) few)
theorem byKey_irr (x : List Nat) : byKey gl x x = false := (total_key gl [x]).irr x
theorem tuples_in {K : W.Frag} {H : Hp} {fs : List Addr} {fam : List (List Nat)} {n : Nat} (T : TupsAt H fs fam) (i : Nat) (d : Dt) (v : V) (e1 : (fam.map fun u => Dt.tup (dtN u))[i]? = some d) (e2 : (fs.map V.ref)[i]? = some v) : Rep K H (n + 1) d v := by
 rw [List.getElem?_map] at e1 e2
 obtain ⟨p, ep, rfl⟩ := Option.map_eq_some_iff.mp e1
 obtain ⟨a, ea, rfl⟩ := Option.map_eq_some_iff.mp e2
 exact repTn (SqT.of (T.is i a p ea ep))
theorem in_fam {u : List Nat} {fam : List (List Nat)} : Dt.tup (dtN u) ∈ fam.map (fun u => Dt.tup (dtN u)) ↔ u ∈ fam := by
 rw [List.mem_map]
 constructor
 ·rintro ⟨v, h1, h2⟩
  injection h2 with h2
  rw [<- dtN_inj h2]
  exact h1
 ·exact fun h => ⟨u, h, rfl⟩
def itr (f : Nat -> Nat) : Nat -> Nat -> Nat
 | 0, r => r
 | k + 1, r => itr f k (f r)
theorem itr_add (f : Nat -> Nat) : ∀ (a b r : Nat), itr f (a + b) r = itr f b (itr f a r)
 | 0, b, r => by rw [Nat.zero_add]; rfl
 | a + 1, b, r => by
  rw [Nat.add_right_comm]
  exact itr_add f a b (f r)
theorem itr_mul {f : Nat -> Nat} {d r : Nat} (h : itr f d r = r) : ∀ k, itr f (d * k) r = r
 | 0 => rfl
 | k + 1 => by rw [Nat.mul_succ, itr_add, itr_mul h k, h]
theorem lead_app (ts : List (List Nat)) (r : Nat) (u v : List Nat) : lead ts r (u ++ v) = lead ts (lead ts r u) v := by
 unfold lead
 rw [List.foldl_append]
def repW (u : List Nat) : Nat -> List Nat
 | 0 => []
 | k + 1 => u ++ repW u k
theorem lead_rep (ts : List (List Nat)) (u : List Nat) : ∀ (k r : Nat), lead ts r (repW u k) = itr (fun r => lead ts r u) k r
 | 0, _ => rfl
 | k + 1, r => by
  show lead ts r (u ++ repW u k) = _
  rw [lead_app, lead_rep ts u k]
  rfl
theorem repW_mem {u : List Nat} {l : Nat} : ∀ {k : Nat}, l ∈ repW u k -> l ∈ u
 | 0, h => nomatch h
 | k + 1, h => (List.mem_append.mp h).elim id repW_mem
theorem goes_app (ts : List (List Nat)) (x u v : List Nat) : goes (stepR ts) x (u ++ v) = goes (stepR ts) (goes (stepR ts) x u) v := by
 unfold goes
 rw [List.foldl_append]
theorem setsU_ext {n : Nat} {x y : List Nat} (hx : x ∈ setsU n) (hy : y ∈ setsU n) (h : ∀ r, r ∈ x ↔ r ∈ y) : x = y := by
 rw [<- (mem_setsU.mp hx).1, <- (mem_setsU.mp hy).1]
 exact norm_cong h
theorem setsU_nodup {n : Nat} {x : List Nat} (hx : x ∈ setsU n) : x.Nodup := by
 rw [<- (mem_setsU.mp hx).1]
 unfold norm5
 exact List.Nodup.sublist List.filter_sublist List.nodup_range
theorem mem_goes {H : Hp} {m : Addr} {ts : List (List Nat)} {n : Nat} (M : Mach H m ts n) {x word : List Nat} (hx : x ∈ setsU n) (hw : ∀ l ∈ word, l < ts.length) {r : Nat} : r ∈ goes (stepR ts) x word ↔ ∃ r0 ∈ x, lead ts r0 word = r := by
 have n5 := M.n5
 rw [goes_norm M word x hx hw]
 constructor
 ·intro h
  obtain ⟨r0, h1, h2⟩ := List.mem_map.mp (norm_mem h)
  exact ⟨r0, h1, h2⟩
 ·rintro ⟨r0, h1, rfl⟩
  have := lead_lt M word r0 ((mem_setsU.mp hx).2 r0 h1) hw
  exact mem_norm (List.mem_map.mpr ⟨r0, h1, rfl⟩) (by lia)
theorem goes_setsU {H : Hp} {m : Addr} {ts : List (List Nat)} {n : Nat} (M : Mach H m ts n) {x word : List Nat} (hx : x ∈ setsU n) (hw : ∀ l ∈ word, l < ts.length) : goes (stepR ts) x word ∈ setsU n := goes_in hx (fun y hy l hl => step_setsU M hy hl) word hw
structure Bij (ts : List (List Nat)) (x y w p : List Nat) : Prop where
 to : goes (stepR ts) x w = y
 fro : goes (stepR ts) y p = x
 lw : ∀ l ∈ w, l < ts.length
 lp : ∀ l ∈ p, l < ts.length
 here : ∀ r ∈ x, lead ts (lead ts r w) p = r
 there : ∀ r ∈ y, lead ts (lead ts r p) w = r
theorem Bij.symm {ts : List (List Nat)} {x y w p : List Nat} (b : Bij ts x y w p) : Bij ts y x p w := ⟨b.fro, b.to, b.lp, b.lw, b.there, b.here⟩
theorem onto_inj {x : List Nat} {f : Nat -> Nat} (nd : x.Nodup) (on : ∀ r ∈ x, ∃ r0 ∈ x, f r0 = r) : ∀ a ∈ x, ∀ b ∈ x, f a = f b -> a = b := fun a ha b hb e => by
 by_cases ne : a = b
 ·exact ne
 have z := List.Nodup.length_le_of_subset (l₂ := (x.erase a).map f) nd fun r hr => by
  obtain ⟨r0, h1, h2⟩ := on r hr
  by_cases ra : r0 = a
  ·exact List.mem_map.mpr ⟨b, (List.mem_erase_of_ne (Ne.symm ne)).mpr hb, by rw [<- e, <- ra, h2]⟩
  ·exact List.mem_map.mpr ⟨r0, (List.mem_erase_of_ne ra).mpr h1, h2⟩
 rw [List.length_map, List.length_erase_of_mem ha] at z
 have := List.length_pos_of_mem ha
 lia
theorem itr_in {x : List Nat} {f : Nat -> Nat} (cl : ∀ r ∈ x, f r ∈ x) : ∀ (k r : Nat), r ∈ x -> itr f k r ∈ x
 | 0, _, h => h
 | k + 1, r, h => itr_in cl k (f r) (cl r h)
theorem itr_inj {x : List Nat} {f : Nat -> Nat} (cl : ∀ r ∈ x, f r ∈ x) (inj : ∀ a ∈ x, ∀ b ∈ x, f a = f b -> a = b) : ∀ (k : Nat), ∀ a ∈ x, ∀ b ∈ x, itr f k a = itr f k b -> a = b
 | 0, _, _, _, _, e => e
 | k + 1, a, ha, b, hb, e => inj a ha b hb (itr_inj cl inj k (f a) (cl a ha) (f b) (cl b hb) e)
theorem round {x : List Nat} {f : Nat -> Nat} (l5 : x.length <= 5) (cl : ∀ r ∈ x, f r ∈ x) (inj : ∀ a ∈ x, ∀ b ∈ x, f a = f b -> a = b) (r : Nat) (hr : r ∈ x) : itr f 60 r = r := by
 have : ∃ d, 1 <= d /\ d <= 5 /\ itr f d r = r := by
  by_cases h : ∃ i j, i < j /\ j <= 5 /\ itr f i r = itr f j r
  ·obtain ⟨i, j, h1, h2, h3⟩ := h
   refine ⟨j - i, by lia, by lia, ?_⟩
   have e : j = (j - i) + i := by lia
   rw [e, itr_add] at h3
   exact (itr_inj cl inj i r hr _ (itr_in cl (j - i) r hr) h3).symm
  ·have nd : ((List.range 6).map fun i => itr f i r).Nodup := by
    rw [List.nodup_iff_pairwise_ne, List.pairwise_map]
    refine List.Pairwise.imp_of_mem ?_ List.pairwise_lt_range
    intro i j hi hj lt e
    exact h ⟨i, j, lt, by have := List.mem_range.mp hj; lia, e⟩
   have z := List.Nodup.length_le_of_subset (l₂ := x) nd fun y hy => by
    obtain ⟨i, _, rfl⟩ := List.mem_map.mp hy
    exact itr_in cl i r hr
   rw [List.length_map, List.length_range] at z
   lia
 obtain ⟨d, h1, h2, h3⟩ := this
 have : d = 1 ∨ d = 2 ∨ d = 3 ∨ d = 4 ∨ d = 5 := by lia
 rcases this with rfl | rfl | rfl | rfl | rfl
 ·exact itr_mul h3 60
 ·exact itr_mul h3 30
 ·exact itr_mul h3 20
 ·exact itr_mul h3 15
 ·exact itr_mul h3 12
theorem bij_of {H : Hp} {m : Addr} {ts : List (List Nat)} {n : Nat} (M : Mach H m ts n) {x y w : List Nat} (hx : x ∈ setsU n) (lw : ∀ l ∈ w, l < ts.length) (e : goes (stepR ts) x w = y) (back : Rch ts y x) : ∃ p, Bij ts x y w p := by
 obtain ⟨v, lv, ev⟩ := back
 have hy : y ∈ setsU n := by rw [<- e]; exact goes_setsU M hx lw
 have lwv : ∀ l ∈ w ++ v, l < ts.length := fun l hl => (List.mem_append.mp hl).elim (lw l) (lv l)
 have ex : goes (stepR ts) x (w ++ v) = x := by rw [goes_app, e, ev]
 have cl : ∀ r ∈ x, lead ts r (w ++ v) ∈ x := fun r hr => by
  have z := (mem_goes M hx lwv).mpr ⟨r, hr, rfl⟩
  rw [ex] at z
  exact z
 have on : ∀ r ∈ x, ∃ r0 ∈ x, lead ts r0 (w ++ v) = r := fun r hr => (mem_goes M hx lwv).mp (by rw [ex]; exact hr)
 have inj := onto_inj (setsU_nodup hx) on
 have rd := round (f := fun r => lead ts r (w ++ v)) (Nat.le_trans (setsU_len M.n5 hx) M.n5) cl inj
 have here : ∀ r ∈ x, lead ts (lead ts r w) (v ++ repW (w ++ v) 59) = r := fun r hr => by
  rw [<- lead_app, <- List.append_assoc, lead_app, lead_rep]
  exact rd r hr
 have lp : ∀ l ∈ v ++ repW (w ++ v) 59, l < ts.length := fun l hl => (List.mem_append.mp hl).elim (lv l) fun h => lwv l (repW_mem h)
 have there : ∀ r ∈ y, lead ts (lead ts r (v ++ repW (w ++ v) 59)) w = r := fun r hr => by
  rw [<- e] at hr
  obtain ⟨r0, h1, rfl⟩ := (mem_goes M hx lw).mp hr
  rw [here r0 h1]
 refine ⟨v ++ repW (w ++ v) 59, e, setsU_ext (goes_setsU M hy lp) hx fun r => ?_, lw, lp, here, there⟩
 rw [mem_goes M hy lp]
 constructor
 ·rintro ⟨r0, h1, rfl⟩
  rw [<- e] at h1
  obtain ⟨r1, h2, rfl⟩ := (mem_goes M hx lw).mp h1
  rw [here r1 h2]
  exact h2
 ·intro h
  exact ⟨lead ts r w, by rw [<- e]; exact (mem_goes M hx lw).mpr ⟨r, h, rfl⟩, here r h⟩
theorem Bij.back {H : Hp} {m : Addr} {ts : List (List Nat)} {n : Nat} (M : Mach H m ts n) {x y w p u : List Nat} (b : Bij ts x y w p) (hu : u ∈ setsU n) (s : sub u x = true) : goes (stepR ts) (goes (stepR ts) u w) p = u := by
 have s' := sub_iff.mp s
 have h1 := goes_setsU M hu b.lw
 refine setsU_ext (goes_setsU M h1 b.lp) hu fun r => ?_
 rw [mem_goes M h1 b.lp]
 constructor
 ·rintro ⟨r0, z1, rfl⟩
  obtain ⟨r1, z2, rfl⟩ := (mem_goes M hu b.lw).mp z1
  rw [b.here r1 (s' r1 z2)]
  exact z2
 ·intro z
  exact ⟨lead ts r w, (mem_goes M hu b.lw).mpr ⟨r, z, rfl⟩, b.here r (s' r z)⟩
theorem goes_sub {H : Hp} {m : Addr} {ts : List (List Nat)} {n : Nat} (M : Mach H m ts n) {u v w : List Nat} (hu : u ∈ setsU n) (hv : v ∈ setsU n) (lw : ∀ l ∈ w, l < ts.length) (s : sub u v = true) : sub (goes (stepR ts) u w) (goes (stepR ts) v w) = true := by
 refine sub_iff.mpr fun r hr => ?_
 obtain ⟨r0, z1, rfl⟩ := (mem_goes M hu lw).mp hr
 exact (mem_goes M hv lw).mpr ⟨r0, sub_iff.mp s r0 z1, rfl⟩
theorem fam_go {H : Hp} {m : Addr} {ts : List (List Nat)} {n : Nat} {fam : List (List Nat)} (M : Mach H m ts n) (ff : FamOf ts n fam) {u w : List Nat} (hu : u ∈ fam) (lw : ∀ l ∈ w, l < ts.length) : goes (stepR ts) u w ∈ fam := by
 have n5 := M.n5
 refine (ff.mem _).mpr ?_
 rcases (ff.mem u).mp hu with ⟨w0, h1, h2⟩ | ⟨r, hr, rfl⟩
 ·refine .inl ⟨w0 ++ w, fun l hl => (List.mem_append.mp hl).elim (h1 l) (lw l), ?_⟩
  rw [goes_app, h2]
 ·have lt := lead_lt M w r hr lw
  refine .inr ⟨lead ts r w, lt, setsU_ext (goes_setsU M (one_in n5 hr) lw) (one_in n5 lt) fun r' => ?_⟩
  rw [mem_goes M (one_in n5 hr) lw]
  constructor
  ·rintro ⟨r0, z1, rfl⟩
   rw [List.mem_singleton.mp z1]
   exact List.mem_singleton.mpr rfl
  ·intro z
   exact ⟨r, List.mem_singleton.mpr rfl, (List.mem_singleton.mp z).symm⟩
theorem sub_anti {n : Nat} {u v : List Nat} (hu : u ∈ setsU n) (hv : v ∈ setsU n) (a : sub u v = true) (b : sub v u = true) : u = v := setsU_ext hu hv fun r => ⟨sub_iff.mp a r, sub_iff.mp b r⟩
theorem sub_trans {u v w : List Nat} (a : sub u v = true) (b : sub v w = true) : sub u w = true := sub_iff.mpr fun r hr => sub_iff.mp b r (sub_iff.mp a r hr)
theorem tile_iff {H : Hp} {m : Addr} {ts : List (List Nat)} {n : Nat} {fam : List (List Nat)} (M : Mach H m ts n) (ff : FamOf ts n fam) {x u : List Nat} : u ∈ tilesOf fam x ↔ u ∈ fam /\ u ≠ x /\ sub u x = true /\ ∀ v ∈ fam, v ≠ x -> sub v x = true -> sub u v = true -> v = u := by
 have tf := tile_facts M ff x
 constructor
 ·intro hu
  obtain ⟨h1, h2, h3⟩ := tf.mem u hu
  refine ⟨h1, h2, h3, fun v hv v1 v2 v3 => ?_⟩
  obtain ⟨t, ht, st⟩ := tf.all v hv v1 v2
  have ut : u = t := by
   by_cases e : u = t
   ·exact e
   ·have z := tf.apart u hu t ht e
    rw [sub_trans v3 st] at z
    cases z
  subst ut
  exact sub_anti (ff.inU M hv) (ff.inU M h1) st v3
 ·rintro ⟨h1, h2, h3, h4⟩
  obtain ⟨t, ht, st⟩ := tf.all u h1 h2 h3
  obtain ⟨t1, t2, t3⟩ := tf.mem t ht
  rw [<- h4 t t1 t2 t3 st]
  exact ht
theorem tile_go {H : Hp} {m : Addr} {ts : List (List Nat)} {n : Nat} {fam : List (List Nat)} (M : Mach H m ts n) (ff : FamOf ts n fam) {x y w p u : List Nat} (hx : x ∈ setsU n) (b : Bij ts x y w p) (hu : u ∈ tilesOf fam x) : goes (stepR ts) u w ∈ tilesOf fam y := by
 obtain ⟨h1, h2, h3, h4⟩ := (tile_iff M ff).mp hu
 have hy : y ∈ setsU n := by rw [<- b.to]; exact goes_setsU M hx b.lw
 have uU := ff.inU M h1
 have gU := goes_setsU M uU b.lw
 have su : sub (goes (stepR ts) u w) y = true := by
  have z := goes_sub M uU hx b.lw h3
  rw [b.to] at z
  exact z
 refine (tile_iff M ff).mpr ⟨fam_go M ff h1 b.lw, fun e => h2 ?_, su, fun v hv v1 v2 v3 => ?_⟩
 ·rw [<- b.back M uU h3, e, b.fro]
 ·have vU := ff.inU M hv
  have bs := b.symm
  have z1 := fam_go M ff hv b.lp
  have z2 : goes (stepR ts) v p ≠ x := fun e => v1 (by rw [<- bs.back M vU v2, e, b.to])
  have z3 : sub (goes (stepR ts) v p) x = true := by
   have z := goes_sub M vU hy b.lp v2
   rw [b.fro] at z
   exact z
  have z4 : sub u (goes (stepR ts) v p) = true := by
   have z := goes_sub M gU vU b.lp v3
   rw [b.back M uU h3] at z
   exact z
  rw [<- bs.back M vU v2, h4 _ z1 z2 z3 z4]
def LvH (H : Hp) (a : Addr) (c us : List (List Nat)) (wds : List (List Nat)) : Prop := ∃ (s t v : Addr) (bs ds cs : List Addr), H a = some (.tup [.ref s, .ref t, .ref v]) /\ H s = some (.lst (bs.map .ref)) /\ TupsAt H bs c /\ H t = some (.lst (ds.map .ref)) /\ TupsAt H ds us /\ H v = some (.lst (cs.map .ref)) /\ cs.length = wds.length /\ ∀ (k : Nat) (b : Addr) (wd : List Nat), cs[k]? = some b -> wds[k]? = some wd -> H b = some (.lst (wd.map nv))
theorem LvH.same {H H' : Hp} {a : Addr} {c us wds : List (List Nat)} (h : LvH H a c us wds) (g : Same H H') : LvH H' a c us wds := by
 obtain ⟨s, t, v, bs, ds, cs, h1, h2, h3, h4, h5, h6, h7, h8⟩ := h
 exact ⟨s, t, v, bs, ds, cs, g _ _ h1, g _ _ h2, h3.same g, g _ _ h4, h5.same g, g _ _ h6, h7, fun k b wd e1 e2 => g _ _ (h8 k b wd e1 e2)⟩
structure LvP (ts fam : List (List Nat)) (c us wds : List (List Nat)) : Prop where
 cls : c ∈ classes ts (big fam)
 tl : us = tilesOf fam (c.headD [])
 len : wds.length = c.length
 go : ∀ (k : Nat) (x wd : List Nat), c[k]? = some x -> wds[k]? = some wd -> (∀ l ∈ wd, l < ts.length) /\ goes (stepR ts) (c.headD []) wd = x
theorem LevAt.lv {H : Hp} {l : Addr} {ts fam : List (List Nat)} {ys : List WE} {a : Addr} {c : List (List Nat)} (h : LevAt H l ts fam (big fam) ys a c) (hc : c ∈ classes ts (big fam)) : ∃ wds, LvH H a c (tilesOf fam (c.headD [])) wds /\ LvP ts fam c (tilesOf fam (c.headD [])) wds := by
 obtain ⟨s, t, v, bs, ds, cs, i, y, h1, h2, h3, h4, h5, h6, h7, h8, h9, h10, h11, h12, h13, h14, h15, h16⟩ := h
 obtain ⟨wds, l1, l2⟩ := list_choose (n := c.length) (P := fun k wd => ∃ x b, c[k]? = some x /\ cs[k]? = some b /\ (x, wd) ∈ y.2.1 /\ H b = some (.lst (wd.map nv))) fun k hk => by
  obtain ⟨x, ex⟩ : ∃ x, c[k]? = some x := ⟨_, List.getElem?_eq_getElem hk⟩
  obtain ⟨b, eb⟩ : ∃ b, cs[k]? = some b := ⟨_, List.getElem?_eq_getElem (by lia)⟩
  obtain ⟨wd, z1, z2⟩ := h16 k x b ex eb
  exact ⟨wd, x, b, ex, eb, z1, z2⟩
 refine ⟨wds, ⟨s, t, v, bs, ds, cs, h1, h6, h7, h8, h9, h10, by lia, fun k b wd e1 e2 => ?_⟩, hc, rfl, l1, fun k x wd e1 e2 => ?_⟩
 ·obtain ⟨x', b', _, z2, _, z4⟩ := l2 k wd e2
  rw [e1] at z2
  cases z2
  exact z4
 ·obtain ⟨x', b', z1, _, z3, _⟩ := l2 k wd e2
  rw [e1] at z1
  cases z1
  exact h14.run _ z3
def spTile : Sp := fun vs H Q _ => ∃ (m a : Addr) (k j : Nat) (ts : List (List Nat)) (n : Nat) (c us wds : List (List Nat)) (u wd : List Nat), vs = [.ref m, .ref a, nv k, nv j] /\ Mach H m ts n /\ LvH H a c us wds /\ us[j]? = some u /\ wds[k]? = some wd /\ u ∈ setsU n /\ (∀ l ∈ wd, l < ts.length) /\ NewT H ((goes (stepR ts) u wd).map nv) Q
def spTilesOf : Sp := fun vs H Q _ => ∃ (m a : Addr) (k : Nat) (ts : List (List Nat)) (n : Nat) (c us wds : List (List Nat)) (wd : List Nat), vs = [.ref m, .ref a, nv k] /\ Mach H m ts n /\ LvH H a c us wds /\ wds[k]? = some wd /\ (∀ u ∈ us, u ∈ setsU n) /\ us.length <= 32 /\ (∀ l ∈ wd, l < ts.length) /\
 ∀ l es H', Same H H' -> H' l = some (.lst (es.map .ref)) -> TupsAt H' es (us.map fun u => goes (stepR ts) u wd) -> Q (.ref l) H'
def TurnedBy (ts us : List (List Nat)) (wd wd2 : List Nat) (l : Nat) (js : List Nat) : Prop := js.length = us.length /\ ∀ (j : Nat) (u : List Nat) (j' : Nat), us[j]? = some u -> js[j]? = some j' -> ∃ u', us[j']? = some u' /\ goes (stepR ts) u' wd2 = stepR ts (goes (stepR ts) u wd) l
def spTurned : Sp := fun vs H Q _ => ∃ (m a : Addr) (k l : Nat) (ts : List (List Nat)) (n : Nat) (fam c us wds : List (List Nat)) (x wd : List Nat), vs = [.ref m, .ref a, nv k, nv l] /\ Mach H m ts n /\ FamOf ts n fam /\ LvH H a c us wds /\ LvP ts fam c us wds /\ c[k]? = some x /\ wds[k]? = some wd /\ l < ts.length /\
 (stepR ts x l ∉ c -> ∀ H', Same H H' -> Q .non H') /\ ∀ (k' : Nat) (wd' : List Nat), c[k']? = some (stepR ts x l) -> wds[k']? = some wd' -> ∀ p js H', Same H H' -> H' p = some (.tup (js.map nv)) -> TurnedBy ts us wd wd' l js -> Q (.ref p) H'
theorem first_idx {α : Type} {d : α} : ∀ {ds : List α}, d ∈ ds -> ∃ j : Nat, ds[j]? = some d /\ ∀ i : Nat, i < j -> ds[i]? ≠ some d
 | [], h => nomatch h
 | e :: ds, h => by
  by_cases z : e = d
  ·exact ⟨0, by rw [z]; rfl, fun i hi => absurd hi (Nat.not_lt_zero i)⟩
  ·obtain ⟨j, h1, h2⟩ := first_idx (ds := ds) ((List.mem_cons.mp h).resolve_left fun e' => z e'.symm)
   refine ⟨j + 1, h1, fun i hi => ?_⟩
   cases i with
   | zero => exact fun e' => z (by injection e')
   | succ i => exact h2 i (by lia)
theorem in_dts {u : List Nat} {fam : List (List Nat)} : Dt.tup (dtN u) ∈ fam.map (fun u => Dt.tup (dtN u)) ↔ u ∈ fam := in_fam
theorem at_dts {u : List Nat} {fam : List (List Nat)} {j : Nat} : (fam.map fun u => Dt.tup (dtN u))[j]? = some (Dt.tup (dtN u)) ↔ fam[j]? = some u := by
 rw [List.getElem?_map]
 constructor
 ·intro h
  obtain ⟨v, e1, e2⟩ := Option.map_eq_some_iff.mp h
  injection e2 with e2
  rw [<- dtN_inj e2]
  exact e1
 ·intro h
  rw [h]
  rfl
theorem LvP.bij {H : Hp} {m : Addr} {ts : List (List Nat)} {n : Nat} {fam c us wds : List (List Nat)} (M : Mach H m ts n) (ff : FamOf ts n fam) (lp : LvP ts fam c us wds) {k : Nat} {x wd : List Nat} (ex : c[k]? = some x) (ew : wds[k]? = some wd) : ∃ p, Bij ts (c.headD []) x wd p := by
 obtain ⟨_, _, cx, call⟩ := class_facts lp.cls
 obtain ⟨l1, l2⟩ := lp.go k x wd ex ew
 exact bij_of M (ff.inU M (List.mem_filter.mp cx).1) l1 l2 (call x (List.mem_of_getElem? ex)).2.2
theorem turned_in {H : Hp} {m : Addr} {ts : List (List Nat)} {n : Nat} {fam c us wds : List (List Nat)} (M : Mach H m ts n) (ff : FamOf ts n fam) (lp : LvP ts fam c us wds) {k k' l : Nat} {x wd wd' : List Nat} (ex : c[k]? = some x) (ew : wds[k]? = some wd) (ll : l < ts.length) (ey : c[k']? = some (stepR ts x l)) (ew' : wds[k']? = some wd') {u : List Nat} (hu : u ∈ us) : stepR ts (goes (stepR ts) u wd) l ∈ us.map fun u => goes (stepR ts) u wd' := by
 obtain ⟨_, _, cx, call⟩ := class_facts lp.cls
 have fU := ff.inU M (List.mem_filter.mp cx).1
 obtain ⟨p, b1⟩ := lp.bij M ff ex ew
 obtain ⟨p', b3⟩ := lp.bij M ff ey ew'
 obtain ⟨xb, rx1, rx2⟩ := call x (List.mem_of_getElem? ex)
 obtain ⟨yb, ry1, ry2⟩ := call _ (List.mem_of_getElem? ey)
 have xU := ff.inU M (List.mem_filter.mp xb).1
 have yU := ff.inU M (List.mem_filter.mp yb).1
 obtain ⟨p2, b2⟩ := bij_of M (w := [l]) xU (fun z hz => by rw [List.mem_singleton.mp hz]; exact ll) rfl (ry2.trans rx1)
 have hu' := hu
 rw [lp.tl] at hu'
 have t1 := tile_go M ff fU b1 hu'
 have t2 : stepR ts (goes (stepR ts) u wd) l ∈ tilesOf fam (stepR ts x l) := tile_go M ff xU b2 t1
 obtain ⟨f1, f2, f3, _⟩ := (tile_iff M ff).mp t2
 have t3 := tile_go M ff yU b3.symm t2
 rw [<- lp.tl] at t3
 exact List.mem_map.mpr ⟨_, t3, b3.symm.back M (ff.inU M f1) f3⟩
theorem LvP.nd {ts : List (List Nat)} {n : Nat} {fam c us wds : List (List Nat)} (ff : FamOf ts n fam) (lp : LvP ts fam c us wds) : c.Nodup := by
 have fnd : fam.Nodup := ff.up.imp fun {a b} z e => by
  subst e
  rw [(total_key gl fam).irr] at z
  cases z
 rw [(class_facts lp.cls).2.1]
 exact List.Nodup.sublist (List.filter_sublist.trans List.filter_sublist) fnd
theorem LvP.inU {H : Hp} {m : Addr} {ts : List (List Nat)} {n : Nat} {fam c us wds : List (List Nat)} (M : Mach H m ts n) (ff : FamOf ts n fam) (lp : LvP ts fam c us wds) : (∀ u ∈ us, u ∈ setsU n) /\ us.length <= 32 := by
 have tf := tile_facts M ff (c.headD [])
 rw [<- lp.tl] at tf
 exact ⟨fun u hu => ff.inU M (tf.mem u hu).1, tf.few⟩
section
variable {P : Program} {w : World} {K : W.Frag} {mg : Str -> Option Value} {base : Heap} {f : Addr} {fd : FuncData}
theorem ok_tile (F : Fun K "tile" "tile" sTile f fd) (c_carried : Callee P w K mg base "carried" 3 ["machine", "rooms", "word"] (spCarried K)) : FnOk P w K mg base CX0 5 f fd ["machine", "level", "k", "j"] spTile := by
 refine F.ok scTile (fun vs H Q E h => ?_) (fun cdv A outer s H vs Q E hr h => ?_)
 ·obtain ⟨m, a, k, j, ts, n, c, us, wds, u, wd, rfl, _⟩ := h
  rfl
 obtain ⟨m, a, k, j, ts, n, c, us, wds, u, wd, rfl, M, lv, eu, ew, hU, lw, q⟩ := h
 have hu := hr.units
 obtain ⟨s', t', v', bs, ds, cs, h1, h2, h3, h4, h5, h6, h7, h8⟩ := lv
 have l5 := h5.len
 have lj := (List.getElem?_eq_some_iff.mp eu).1
 have lk := (List.getElem?_eq_some_iff.mp ew).1
 obtain ⟨d, ed⟩ : ∃ d, ds[j]? = some d := ⟨_, List.getElem?_eq_getElem (by lia)⟩
 obtain ⟨b, eb⟩ : ∃ b, cs[k]? = some b := ⟨_, List.getElem?_eq_getElem (by lia)⟩
 have hd := h5.is j d u ed eu
 have hb := h8 k b wd eb ew
 refine ⟨_, (pss_one (ps_ret (pe_callD c_carried (hr.mono (by decide)) rfl (pl_at (pl_cons (pv 0) (pl_cons (pe_ix ix_list (pe_ix ix_tup (pv 1) pe_int (fun _ _ => rfl)) (pv 3) (fun _ _ => rfl)) (pl_cons (pe_ix ix_list (pe_ix ix_tup (pv 1) pe_int (fun _ _ => rfl)) (pv 2) (fun _ _ => rfl)) pl_nil rfl) rfl) rfl))))), ?_⟩
 refine ⟨_, rfl, _, rfl, a, _, _, _, rfl, rfl, SqT.of h1, rfl, _, rfl, t', _, _, _, rfl, rfl, SqL.of h4, atI_nat (by rw [List.getElem?_map, ed]; rfl), _, rfl, a, _, _, _, rfl, rfl, SqT.of h1, rfl, _, rfl, v', _, _, _, rfl, rfl, SqL.of h6, atI_nat (by rw [List.getElem?_map, eb]; rfl), m, d, b, ts, n, u, wd, rfl, M, SqT.of hd, Nat.le_trans (setsU_len M.n5 hU) M.n5, (mem_setsU.mp hU).2, SqL.of hb, lw, fun p H2 g2 e2 => ?_⟩
 rw [<- goes_norm M wd u hU lw] at e2
 exact q p H2 g2 e2
end
section
variable {P : Program} {w : World} {K : W.Frag} {mg : Str -> Option Value} {base : Heap} {f : Addr} {fd : FuncData}
theorem ok_tiles_of_set (F : Fun K "tiles_of_set" "tiles_of_set" sTilesOfSet f fd) (c_tile : Callee P w K mg base "tile" 5 ["machine", "level", "k", "j"] spTile) (m_len : mg "len" = none) (m_range : mg "range" = none) : FnOk P w K mg base CX0 7 f fd ["machine", "level", "k"] spTilesOf := by
 refine F.ok scTilesOfSet (fun vs H Q E h => ?_) (fun cdv A outer s H vs Q E hr h => ?_)
 ·obtain ⟨m, a, k, ts, n, c, us, wds, wd, rfl, _⟩ := h
  rfl
 obtain ⟨m, a, k, ts, n, c, us, wds, wd, rfl, M, lv, ew, uU, few, lw, q⟩ := h
 have hu := hr.units
 obtain ⟨s', t', v', bs, ds, cs, h1, h2, h3, h4, h5, h6, h7, h8⟩ := id lv
 have l5 := h5.len
 refine ⟨_, (pss_one (ps_ret (pe_comp1 (CompSc.to (N := ["machine", "level", "k"]) (osc := defScope sTilesOfSet) (vs := ["j"]) ⟨rfl, by decide +kernel, by decide +kernel, by decide +kernel, by decide +kernel, by decide +kernel, by decide +kernel⟩) rfl rfl (pi_range1 rfl m_range (pa_cons (pe_callB call_len_seq rfl m_len boot_len (pa_cons (pe_ix ix_tup (pv 1) pe_int (fun _ _ => rfl)) pa_nil)) pa_nil)) (fun _ _ _ _ => pts_nil) (fun _ _ _ _ => (pe_callD c_tile (hr.mono (by decide)) rfl (pl_at (pl_cons (pv 1) (pl_cons (pv 2) (pl_cons (pv 3) (pl_cons (pv 0) pl_nil rfl) rfl) rfl) rfl))))))), ?_⟩
 refine ⟨_, rfl, a, _, _, _, rfl, rfl, SqT.of h1, rfl, t', _, rfl, .inl (SqL.of h4), (us.length : Int), by rw [List.length_map, l5], by lia, by lia, comp_range (fun i ys H' => Same H H' /\ ∃ es, ys = es.map V.ref /\ es.length = i /\ TupsAt H' es ((us.take i).map fun u => goes (stepR ts) u wd)) (by rw [Int.toNat_natCast]; exact small (by lia)) ⟨Same.refl _, [], rfl, rfl, rfl, fun i b u e => by simp at e⟩ (fun i ys H' _ p => ?_) (fun i ys H' hi p => ?_) (fun ys H1 p sg hsg => ?_)⟩
 ·obtain ⟨_, es, rfl, e, _⟩ := p
  rw [List.length_map]
  lia
 ·obtain ⟨g, es, rfl, e, T1⟩ := p
  have e0 : V.int (0 + (i : Int)) = nv i := by show V.int (0 + (i : Int)) = V.int (i : Int); rw [Int.zero_add]
  have hi' : i < us.length := by simpa using hi
  obtain ⟨u, eu⟩ : ∃ u, us[i]? = some u := ⟨_, List.getElem?_eq_getElem hi'⟩
  rw [e0]
  refine ⟨keep_one, yes_of ⟨_, rfl, _, rfl, _, rfl, _, rfl, m, a, k, i, ts, n, c, us, wds, u, wd, rfl, M.same g, lv.same g, eu, ew, uU u (List.mem_of_getElem? eu), lw, fun p H2 g2 e2 => ?_⟩⟩
  refine ⟨g.trans g2, es ++ [p], by simp, by simp [e], ?_⟩
  rw [List.take_add_one, eu, List.map_append]
  exact tups_snoc (T1.same g2) e2
 obtain ⟨g1, es, rfl, er, T1⟩ := p
 rw [Int.toNat_natCast, List.take_length] at T1
 have k1 := same_new hsg (.lst (es.map V.ref))
 exact q sg es _ (g1.trans k1) upd_same (T1.same k1)
theorem ok_tiles_turned (F : Fun K "tiles_turned" "tiles_turned" sTilesTurned f fd) (c_carried : Callee P w K mg base "carried" 3 ["machine", "rooms", "word"] (spCarried K)) (c_tiles_of_set : Callee P w K mg base "tiles_of_set" 7 ["machine", "level", "k"] spTilesOf) (m_tuple : mg "tuple" = none) : FnOk P w K mg base CX0 9 f fd ["machine", "level", "k", "letter"] spTurned := by
 refine F.ok scTilesTurned (fun vs H Q E h => ?_) (fun cdv A outer s H vs Q E hr h => ?_)
 ·obtain ⟨m, a, k, l, ts, n, fam, c, us, wds, x, wd, rfl, _⟩ := h
  rfl
 obtain ⟨m, a, k, l, ts, n, fam, c, us, wds, x, wd, rfl, M, ff, lv, lp, ex, ew, ll, q1, q2⟩ := h
 have hu := hr.units
 obtain ⟨s', t', v', bs, ds, cs, h1, h2, h3, h4, h5, h6, h7, h8⟩ := id lv
 obtain ⟨cne, ceq, cx, call⟩ := class_facts lp.cls
 have lb := h3.len
 have lk := (List.getElem?_eq_some_iff.mp ex).1
 obtain ⟨b, eb⟩ : ∃ b, bs[k]? = some b := ⟨_, List.getElem?_eq_getElem (by lia)⟩
 have hb := h3.is k b x eb ex
 have bigU : ∀ y ∈ big fam, y ∈ setsU n := fun y hy => ff.inU M (List.mem_filter.mp hy).1
 have mx := List.mem_of_getElem? ex
 have hU := bigU x (call x mx).1
 refine ⟨_, (pss_cons (ps_set (i := 4) scTilesTurned.nd rfl (Or.inl rfl) (pe_callD c_carried (hr.mono (by decide)) rfl (pl_at (pl_cons (pv 0) (pl_cons (pe_ix ix_list (pe_ix ix_tup (pv 1) pe_int (fun _ _ => rfl)) (pv 2) (fun _ _ => rfl)) (pl_cons (pe_lst (pa_cons (pv 3) pa_nil)) pl_nil rfl) rfl) rfl)))) (pss_cons (ps_if (pt_cmpR (op_notInD hu) (pv 4) (pe_ix ix_tup (pv 1) pe_int (fun _ _ => rfl)) (by with_unfolding_all rfl)) (pss_one (ps_ret pe_non)) pss_nil) (pss_cons (ps_set (i := 5) scTilesTurned.nd rfl (Or.inr rfl) (pe_callD c_tiles_of_set (hr.mono (by decide)) rfl (pl_at (pl_cons (pv 0) (pl_cons (pv 1) (pl_cons (pe_bm PySem.F.plainAttrs_list PySem.F.slot_list_index PySem.F.type_list_index (mt_indexD hu) (pe_ix ix_tup (pv 1) pe_int (fun _ _ => rfl)) (pa_cons (pv 4) pa_nil)) pl_nil rfl) rfl) rfl)))) (pss_one (ps_ret (pe_callTy call_tuple_of rfl m_tuple boot_tuple (pa_cons (pe_comp1 (CompSc.to (N := ["machine", "level", "k", "letter", "there", "ends"]) (osc := defScope sTilesTurned) (vs := ["part"]) ⟨rfl, by decide +kernel, by decide +kernel, by decide +kernel, by decide +kernel, by decide +kernel, by decide +kernel⟩) rfl rfl (pi_list (pe_callD c_tiles_of_set (hr.mono (by decide)) rfl (pl_at (pl_cons (pv 0) (pl_cons (pv 1) (pl_cons (pv 2) pl_nil rfl) rfl) rfl)))) (fun _ _ _ _ => pts_nil) (fun _ _ _ _ => (pe_bm_k (K := K) rIndexD rfl (pe_bm PySem.F.plainAttrs_list PySem.F.slot_list_index PySem.F.type_list_index (mt_indexD hu) (pv 6) (pa_cons (pe_callD c_carried (hr.mono (by decide)) rfl (pl_at (pl_cons (pv 1) (pl_cons (pv 0) (pl_cons (pe_lst (pa_cons (pv 4) pa_nil)) pl_nil rfl) rfl) rfl))) pa_nil))))) pa_nil))))))), ?_⟩
 obtain ⟨uU, few⟩ := lp.inU M ff
 have lwd := (lp.go k x wd ex ew).1
 have l1 : ∀ z ∈ [l], z < ts.length := fun z hz => by rw [List.mem_singleton.mp hz]; exact ll
 refine ⟨_, rfl, _, rfl, a, _, _, _, rfl, rfl, SqT.of h1, rfl, _, rfl, s', _, _, _, rfl, rfl, SqL.of h2, atI_nat (by rw [List.getElem?_map, eb]; rfl), _, rfl, by show 1 <= sizeLine; decide, fun p1 hp1 => ?_⟩
 have kp := same_new hp1 (.lst [nv l])
 refine ⟨m, b, p1, ts, n, x, [l], rfl, M.same kp, SqT.of (kp _ _ hb), Nat.le_trans (setsU_len M.n5 hU) M.n5, (mem_setsU.mp hU).2, SqL.of upd_same, l1, fun th H2 g2' e2 => ?_⟩
 have g2 := kp.trans g2'
 have e2' : H2 th = some (.tup ((stepR ts x l).map nv)) := e2
 generalize hy : stepR ts x l = y at e2' q1 q2
 have lvc := g2 _ _ h2
 refine ⟨_, rfl, _, rfl, a, _, _, _, rfl, rfl, SqT.of (g2 _ _ h1), rfl, s', 1, .tup (dtN y), c.map fun u => Dt.tup (dtN u), _, rfl, SqL.of lvc, by rw [List.length_map, List.length_map, lb], repTn (SqT.of e2'), tuples_in (h3.same g2), by decide, fun cc hc => ⟨_, rfl, ?_⟩⟩
 by_cases my : y ∈ c
 ·have hc' : cc = true := hc.mpr (in_dts.mpr my)
  subst hc'
  refine iteF ?_
  obtain ⟨k', ey, no⟩ := first_idx my
  have lk' := (List.getElem?_eq_some_iff.mp ey).1
  obtain ⟨wd', ew'⟩ : ∃ wd', wds[k']? = some wd' := ⟨_, List.getElem?_eq_getElem (by rw [lp.len]; exact lk')⟩
  have lwd' := (lp.go k' y wd' ey ew').1
  refine ⟨_, rfl, _, rfl, _, rfl, a, _, _, _, rfl, rfl, SqT.of (g2 _ _ h1), rfl, .inl ⟨rfl, _, SqL.of lvc⟩, _, rfl, s', _, 1, .tup (dtN y), c.map fun u => Dt.tup (dtN u), _, k', rfl, rfl, SqL.of lvc, by rw [List.length_map, List.length_map, lb], repTn (SqT.of e2'), tuples_in (h3.same g2), by decide, at_dts.mpr ey, fun i hi e => no i hi (at_dts.mp e), ?_⟩
  refine ⟨m, a, k', ts, n, c, us, wds, wd', rfl, M.same g2, lv.same g2, ew', uU, few, lwd', fun en es H3 g3' een Ten => ?_⟩
  have g3 := g2.trans g3'
  have len := Ten.len
  rw [List.length_map] at len
  refine ⟨_, rfl, _, rfl, _, rfl, m, a, k, ts, n, c, us, wds, wd, rfl, M.same g3, lv.same g3, ew, uU, few, lwd, fun pl ps H4 g4' epl Tps => ?_⟩
  have g4 := g3.trans g4'
  have lps := Tps.len
  rw [List.length_map] at lps
  refine ⟨pl, rfl, ⟨_, SqL.of epl⟩, comp_list (xs := ps.map .ref) (fun i ys' H' => Same H4 H' /\ ∃ js : List Nat, ys' = js.map nv /\ js.length = i /\ ∀ (j : Nat) (u : List Nat) (j' : Nat), us[j]? = some u -> js[j]? = some j' -> ∃ u', us[j']? = some u' /\ goes (stepR ts) u' wd' = stepR ts (goes (stepR ts) u wd) l) (by rw [List.length_map, sizeLine_eq]; lia) ⟨Same.refl _, [], rfl, rfl, fun j u j' _ e => by simp at e⟩ (fun i ys' H' hi p => ?_) (fun i v ys' H' hv p => ?_) (fun ys' H5 p tl htl => ?_)⟩
  ·obtain ⟨g, js, rfl, e, _⟩ := p
   exact ⟨SqL.of (g _ _ epl), by rw [List.length_map]; lia⟩
  ·obtain ⟨g, js, rfl, e, al⟩ := p
   rw [List.getElem?_map] at hv
   obtain ⟨d, ed, rfl⟩ := Option.map_eq_some_iff.mp hv
   have li := (List.getElem?_eq_some_iff.mp ed).1
   obtain ⟨u, eu⟩ : ∃ u, us[i]? = some u := ⟨_, List.getElem?_eq_getElem (by lia)⟩
   have mu := List.mem_of_getElem? eu
   have hd := g _ _ (Tps.is i d _ ed (by rw [List.getElem?_map, eu]; rfl))
   have guU := goes_setsU M (uU u mu) lwd
   have gH := g4.trans g
   refine ⟨keep_one, yes_of ⟨_, rfl, .inl ⟨rfl, _, SqL.of ((g4'.trans g) _ _ een)⟩, _, rfl, _, rfl, _, rfl, by show 1 <= sizeLine; decide, fun p1 hp1 => ?_⟩⟩
   have kp := same_new hp1 (.lst [nv l])
   refine ⟨m, d, p1, ts, n, _, [l], rfl, M.same (gH.trans kp), SqT.of (kp _ _ hd), Nat.le_trans (setsU_len M.n5 guU) M.n5, (mem_setsU.mp guU).2, SqL.of upd_same, l1, fun ca H6 g6' e6 => ?_⟩
   have e6' : H6 ca = some (.tup ((stepR ts (goes (stepR ts) u wd) l).map nv)) := e6
   have g6 := (g4'.trans g).trans (kp.trans g6')
   have mi := turned_in M ff lp ex ew ll (by rw [hy]; exact ey) ew' mu
   obtain ⟨j0, ej0, no0⟩ := first_idx mi
   refine ⟨en, _, 1, .tup (dtN (stepR ts (goes (stepR ts) u wd) l)), (us.map fun u => goes (stepR ts) u wd').map fun u => Dt.tup (dtN u), _, j0, rfl, rfl, SqL.of (g6 _ _ een), by rw [List.length_map, List.length_map, List.length_map, len], repTn (SqT.of e6'), tuples_in (Ten.same g6), by decide, at_dts.mpr ej0, fun i hi e => no0 i hi (at_dts.mp e), ?_⟩
   refine ⟨g.trans (kp.trans g6'), js ++ [j0], by simp, by simp [e], fun j u2 j' e1 e2 => ?_⟩
   by_cases hj : j < js.length
   ·rw [List.getElem?_append_left hj] at e2
    exact al j u2 j' e1 e2
   ·rw [List.getElem?_append_right (by lia)] at e2
    have z : j - js.length = 0 := by
     have := (List.getElem?_eq_some_iff.mp e2).1
     simp at this
     lia
    rw [z] at e2
    cases e2
    have ji : j = i := by lia
    subst ji
    rw [eu] at e1
    cases e1
    rw [List.getElem?_map] at ej0
    obtain ⟨u', f1, f2⟩ := Option.map_eq_some_iff.mp ej0
    exact ⟨u', f1, f2⟩
  ·obtain ⟨g5, js, rfl, ej, al⟩ := p
   rw [List.length_map] at ej
   have kt := same_new htl (.lst (js.map nv))
   refine ⟨tl, _, rfl, .inl ⟨SqL.of upd_same, fun r hr' => ?_⟩⟩
   have kr := same_new hr' (.tup (js.map nv))
   exact q2 k' wd' ey ew' r js _ (((g4.trans g5).trans kt).trans kr) upd_same ⟨by lia, al⟩
 ·have hc' : cc = false := by
   cases cc with
   | false => rfl
   | true => exact absurd (in_dts.mp (hc.mp rfl)) my
  subst hc'
  exact iteT (q1 my H2 g2)
end
theorem hqT0 : (tabsL[0]'(by decide)) ∈ tabsL := List.getElem_mem _
theorem hqT1 : (tabsL[1]'(by decide)) ∈ tabsL := List.getElem_mem _
def img (t u : List Nat) : List Nat := norm5 (u.map fun r => t.getD r 0)
theorem mem_nrm {xs : List Nat} {r : Nat} : r ∈ norm5 xs ↔ r < 5 /\ r ∈ xs := by
 unfold norm5
 rw [List.mem_filter, List.mem_range, List.contains_iff_mem]
theorem nrm_eq {xs ys : List Nat} (h : ∀ r, r ∈ xs ↔ r ∈ ys) : norm5 xs = norm5 ys := by
 unfold norm5
 refine List.filter_congr fun i _ => ?_
 rw [Bool.eq_iff_iff, List.contains_iff_mem, List.contains_iff_mem]
 exact h i
theorem getD_map {f : Nat -> Nat} {n r : Nat} (h : r < n) : ((List.range n).map f).getD r 0 = f r := by
 rw [List.getD_eq_getElem?_getD, List.getElem?_map, List.getElem?_range h]
 rfl
theorem img_goes {H : Hp} {m : Addr} {ts : List (List Nat)} {n : Nat} (M : Mach H m ts n) {u w : List Nat} (hu : u ∈ setsU n) (lw : ∀ l ∈ w, l < ts.length) : goes (stepR ts) u w = img (leads ts n w) u := by
 rw [goes_norm M w u hu lw]
 unfold img leadsR leads
 congr 1
 refine List.map_congr_left fun r hr => ?_
 rw [getD_map ((mem_setsU.mp hu).2 r hr)]
theorem leads_maps {H : Hp} {m : Addr} {ts : List (List Nat)} {n : Nat} (M : Mach H m ts n) {w : List Nat} (lw : ∀ l ∈ w, l < ts.length) : leads ts n w ∈ mapsU n n := by
 refine mem_mapsU.mpr ⟨leads_len ts n w, fun r hr => ?_⟩
 obtain ⟨x, hx, rfl⟩ := List.mem_map.mp hr
 exact lead_lt M w x (List.mem_range.mp hx) lw
def ixl (us : List (List Nat)) (x : List Nat) : Nat := us.findIdx fun y => decide (y = x)
theorem ixl_at {us : List (List Nat)} {x : List Nat} (h : x ∈ us) : ixl us x < us.length /\ us[ixl us x]? = some x := by
 have l : ixl us x < us.length := List.findIdx_lt_length_of_exists ⟨x, h, decide_eq_true rfl⟩
 refine ⟨l, ?_⟩
 rw [List.getElem?_eq_getElem l]
 have z : decide (us[ixl us x] = x) = true := List.findIdx_getElem (p := fun y => decide (y = x)) (w := l)
 rw [of_decide_eq_true z]
theorem ixl_of {us : List (List Nat)} {x : List Nat} {j : Nat} (nd : us.Nodup) (h : us[j]? = some x) : ixl us x = j := by
 obtain ⟨l, e⟩ := ixl_at (List.mem_of_getElem? h)
 exact (List.getElem?_inj l nd).mp (e.trans h.symm)
def ind (us : List (List Nat)) (t : List Nat) : List Nat := us.map fun u => ixl us (img t u)
def gU (us : List (List Nat)) (n : Nat) : List (List Nat) := ((mapsU n n).filter fun t => us.all fun u => us.contains (img t u)).map (ind us)
theorem mem_gU {us : List (List Nat)} {n : Nat} {x : List Nat} : x ∈ gU us n ↔ ∃ t ∈ mapsU n n, (∀ u ∈ us, img t u ∈ us) /\ x = ind us t := by
 unfold gU
 rw [List.mem_map]
 constructor
 ·rintro ⟨t, ht, rfl⟩
  obtain ⟨h1, h2⟩ := List.mem_filter.mp ht
  exact ⟨t, h1, fun u hu => List.contains_iff_mem.mp (List.all_eq_true.mp h2 u hu), rfl⟩
 ·rintro ⟨t, h1, h2, rfl⟩
  exact ⟨t, List.mem_filter.mpr ⟨h1, List.all_eq_true.mpr fun u hu => List.contains_iff_mem.mpr (h2 u hu)⟩, rfl⟩
theorem gU_few {us : List (List Nat)} {n : Nat} (h : n <= 5) : (gU us n).length <= 4000 := by
 unfold gU
 rw [List.length_map]
 exact Nat.le_trans (List.length_filter_le _ _) (mapsU_few h)
theorem gU_lt {us : List (List Nat)} {n : Nat} {x : List Nat} (h : x ∈ gU us n) : x.length = us.length /\ ∀ r ∈ x, r < us.length := by
 obtain ⟨t, _, g, rfl⟩ := mem_gU.mp h
 refine ⟨by simp [ind], fun r hr => ?_⟩
 obtain ⟨u, hu, rfl⟩ := List.mem_map.mp hr
 exact (ixl_at (g u hu)).1
theorem gU_start {us : List (List Nat)} {n : Nat} (nd : us.Nodup) (hU : ∀ u ∈ us, u ∈ setsU n) : List.range us.length ∈ gU us n := by
 have id1 : ∀ u ∈ us, img (List.range n) u = u := fun u hu => by
  obtain ⟨h1, h2⟩ := mem_setsU.mp (hU u hu)
  unfold img
  have : u.map (fun r => (List.range n).getD r 0) = u.map id := List.map_congr_left fun r hr => by
   rw [List.getD_eq_getElem?_getD, List.getElem?_range (h2 r hr)]
   rfl
  rw [this, List.map_id, h1]
 refine mem_gU.mpr ⟨List.range n, range_mapsU n, fun u hu => by rw [id1 u hu]; exact hu, ?_⟩
 refine List.ext_getElem? fun j => ?_
 unfold ind
 rw [List.getElem?_map]
 by_cases h : j < us.length
 ·rw [List.getElem?_range h, List.getElem?_eq_getElem h]
  show some j = some (ixl us (img (List.range n) us[j]))
  rw [id1 _ (List.getElem_mem h), ixl_of nd (List.getElem?_eq_getElem h)]
 ·rw [List.getElem?_eq_none (by simp; lia), List.getElem?_eq_none (by lia)]
  rfl
theorem img_img {n : Nat} {t t2 u : List Nat} (n5 : n <= 5) (ht : t ∈ mapsU n n) (hu : u ∈ setsU n) : img t2 (img t u) = img (beh t t2) u := by
 obtain ⟨t1, t3⟩ := mem_mapsU.mp ht
 obtain ⟨_, u2⟩ := mem_setsU.mp hu
 unfold img
 refine nrm_eq fun r => ?_
 have e : ∀ x ∈ u, (beh t t2).getD x 0 = t2.getD (t.getD x 0) 0 := fun x hx => by
  have hl : x < t.length := by rw [t1]; exact u2 x hx
  unfold beh
  rw [List.getD_eq_getElem?_getD, List.getElem?_map, List.getElem?_eq_getElem hl, List.getD_eq_getElem?_getD (l := t), List.getElem?_eq_getElem hl]
  rfl
 have lt5 : ∀ x ∈ u, t.getD x 0 < 5 := fun x hx => by
  have := getD_lt t3 (by rw [t1]; exact u2 x hx)
  lia
 rw [List.mem_map, List.mem_map]
 constructor
 ·rintro ⟨y, hy, rfl⟩
  obtain ⟨_, hy⟩ := mem_nrm.mp hy
  obtain ⟨x, hx, rfl⟩ := List.mem_map.mp hy
  exact ⟨x, hx, e x hx⟩
 ·rintro ⟨x, hx, rfl⟩
  exact ⟨t.getD x 0, mem_nrm.mpr ⟨lt5 x hx, List.mem_map.mpr ⟨x, hx, rfl⟩⟩, (e x hx).symm⟩
theorem beh_mapsU {n : Nat} {t t2 : List Nat} (h : t ∈ mapsU n n) (h2 : t2 ∈ mapsU n n) : beh t t2 ∈ mapsU n n := by
 obtain ⟨a1, a2⟩ := mem_mapsU.mp h
 obtain ⟨b1, b2⟩ := mem_mapsU.mp h2
 refine mem_mapsU.mpr ⟨by unfold beh; rw [List.length_map, a1], fun r hr => ?_⟩
 obtain ⟨x, hx, rfl⟩ := List.mem_map.mp hr
 exact getD_lt b2 (by rw [b1]; exact a2 x hx)
theorem gU_step {us : List (List Nat)} {n : Nat} {x y : List Nat} (n5 : n <= 5) (hU : ∀ u ∈ us, u ∈ setsU n) (hx : x ∈ gU us n) (hy : y ∈ gU us n) : beh x y ∈ gU us n := by
 obtain ⟨t, h1, g1, rfl⟩ := mem_gU.mp hx
 obtain ⟨t2, h2, g2, rfl⟩ := mem_gU.mp hy
 have e : ∀ u ∈ us, img (beh t t2) u = img t2 (img t u) := fun u hu => (img_img n5 h1 (hU u hu)).symm
 refine mem_gU.mpr ⟨beh t t2, beh_mapsU h1 h2, fun u hu => by rw [e u hu]; exact g2 _ (g1 u hu), ?_⟩
 unfold ind
 show (us.map fun u => ixl us (img t u)).map (fun x => (us.map fun u => ixl us (img t2 u)).getD x 0) = _
 rw [List.map_map]
 refine List.map_congr_left fun u hu => ?_
 obtain ⟨l, ev⟩ := ixl_at (g1 u hu)
 show (us.map fun u => ixl us (img t2 u)).getD (ixl us (img t u)) 0 = ixl us (img (beh t t2) u)
 rw [List.getD_eq_getElem?_getD, List.getElem?_map, ev, e u hu]
 rfl
theorem tiles_nd {H : Hp} {m : Addr} {ts : List (List Nat)} {n : Nat} {fam c us wds : List (List Nat)} (M : Mach H m ts n) (ff : FamOf ts n fam) (lp : LvP ts fam c us wds) : us.Nodup := by
 have tf := tile_facts M ff (c.headD [])
 rw [<- lp.tl] at tf
 exact tf.up.imp fun {a b} z e => by
  subst e
  rw [byKey_irr] at z
  cases z
theorem turned_gU {H : Hp} {m : Addr} {ts : List (List Nat)} {n : Nat} {fam c us wds : List (List Nat)} (M : Mach H m ts n) (ff : FamOf ts n fam) (lp : LvP ts fam c us wds) {k k' l : Nat} {x wd wd' js : List Nat} (ex : c[k]? = some x) (ew : wds[k]? = some wd) (ll : l < ts.length) (ey : c[k']? = some (stepR ts x l)) (ew' : wds[k']? = some wd') (tb : TurnedBy ts us wd wd' l js) :
  js ∈ gU us n := by
 obtain ⟨uU, _⟩ := lp.inU M ff
 have nd := tiles_nd M ff lp
 have lwd := (lp.go k x wd ex ew).1
 obtain ⟨p, b⟩ := lp.bij M ff ey ew'
 have tf := tile_facts M ff (c.headD [])
 rw [<- lp.tl] at tf
 have lw : ∀ z ∈ wd ++ [l] ++ p, z < ts.length := fun z hz => by
  rcases List.mem_append.mp hz with h | h
  ·rcases List.mem_append.mp h with h | h
   ·exact lwd z h
   ·rw [List.mem_singleton.mp h]
    exact ll
  ·exact b.lp z h
 have at1 : ∀ (j : Nat) (u : List Nat) (j' : Nat), us[j]? = some u -> js[j]? = some j' -> us[j']? = some (img (leads ts n (wd ++ [l] ++ p)) u) := fun j u j' eu ej => by
  obtain ⟨u', f1, f2⟩ := tb.2 j u j' eu ej
  have hu' := List.mem_of_getElem? f1
  rw [<- img_goes M (uU u (List.mem_of_getElem? eu)) lw, goes_app, goes_app]
  show us[j']? = some (goes (stepR ts) (stepR ts (goes (stepR ts) u wd) l) p)
  rw [<- f2, b.back M (uU u' hu') (tf.mem u' hu').2.2]
  exact f1
 have lj := tb.1
 refine mem_gU.mpr ⟨_, leads_maps M lw, fun u hu => ?_, ?_⟩
 ·obtain ⟨j, ej⟩ := List.getElem?_of_mem hu
  obtain ⟨j', ej'⟩ : ∃ j', js[j]? = some j' := ⟨_, List.getElem?_eq_getElem (by rw [lj]; exact (List.getElem?_eq_some_iff.mp ej).1)⟩
  exact List.mem_of_getElem? (at1 j u j' ej ej')
 ·refine List.ext_getElem? fun j => ?_
  unfold ind
  rw [List.getElem?_map]
  cases ej : us[j]? with
  | none =>
   have := List.getElem?_eq_none_iff.mp ej
   rw [List.getElem?_eq_none (by lia)]
   rfl
  | some u =>
   have := (List.getElem?_eq_some_iff.mp ej).1
   obtain ⟨j', ej'⟩ : ∃ j', js[j]? = some j' := ⟨_, List.getElem?_eq_getElem (by lia)⟩
   rw [ej']
   exact congrArg some (ixl_of nd (at1 j u j' ej ej')).symm
theorem turned_uniq {H : Hp} {m : Addr} {ts : List (List Nat)} {n : Nat} {fam c us wds : List (List Nat)} (M : Mach H m ts n) (ff : FamOf ts n fam) (lp : LvP ts fam c us wds) {k' l : Nat} {y wd wd' js js' : List Nat} (ey : c[k']? = some y) (ew' : wds[k']? = some wd') (tb : TurnedBy ts us wd wd' l js) (tb' : TurnedBy ts us wd wd' l js') : js = js' := by
 obtain ⟨uU, _⟩ := lp.inU M ff
 have nd := tiles_nd M ff lp
 obtain ⟨p, b⟩ := lp.bij M ff ey ew'
 have tf := tile_facts M ff (c.headD [])
 rw [<- lp.tl] at tf
 refine ext_items (by rw [tb.1, tb'.1]) fun j a a' e1 e2 => ?_
 obtain ⟨u, eu⟩ : ∃ u, us[j]? = some u := ⟨_, List.getElem?_eq_getElem (by rw [<- tb.1]; exact (List.getElem?_eq_some_iff.mp e1).1)⟩
 obtain ⟨v, f1, f2⟩ := tb.2 j u a eu e1
 obtain ⟨v', g1, g2⟩ := tb'.2 j u a' eu e2
 have hv := List.mem_of_getElem? f1
 have hv' := List.mem_of_getElem? g1
 have e : v = v' := by
  rw [<- b.back M (uU v hv) (tf.mem v hv).2.2, <- b.back M (uU v' hv') (tf.mem v' hv').2.2, f2, g2]
 subst e
 exact (List.getElem?_inj (List.getElem?_eq_some_iff.mp f1).1 nd).mp (f1.trans g1.symm)
theorem tiles_some {H : Hp} {m : Addr} {ts : List (List Nat)} {n : Nat} {fam c us wds : List (List Nat)} (M : Mach H m ts n) (ff : FamOf ts n fam) (lp : LvP ts fam c us wds) : 0 < us.length := by
 obtain ⟨_, _, cx, _⟩ := class_facts lp.cls
 obtain ⟨h1, h2⟩ := List.mem_filter.mp cx
 have tf := tile_facts M ff (c.headD [])
 rw [<- lp.tl] at tf
 obtain ⟨_, u2⟩ := mem_setsU.mp (ff.inU M h1)
 cases e : c.headD [] with
 | nil =>
  rw [e] at h2
  cases h2
 | cons r rs =>
  rw [e] at tf u2 h2
  obtain ⟨t, ht, _⟩ := tf.all [r] ((ff.mem [r]).mpr (.inr ⟨r, u2 r (List.mem_cons_self ..), rfl⟩)) (fun z => by
   have z2 := congrArg List.length z
   have h2 := of_decide_eq_true h2
   rw [<- z2] at h2
   simp at h2) (by simp [sub])
  exact List.length_pos_of_mem ht
structure Makers (ts c us wds mk : List (List Nat)) : Prop where
 mem : ∀ t ∈ mk, ∃ (k l k' : Nat) (x wd wd' : List Nat), c[k]? = some x /\ wds[k]? = some wd /\ l < ts.length /\ c[k']? = some (stepR ts x l) /\ wds[k']? = some wd' /\ TurnedBy ts us wd wd' l t
 all : ∀ (k l : Nat) (x wd : List Nat), c[k]? = some x -> wds[k]? = some wd -> l < ts.length -> stepR ts x l ∈ c -> ∃ (k' : Nat) (wd' t : List Nat), t ∈ mk /\ c[k']? = some (stepR ts x l) /\ wds[k']? = some wd' /\ TurnedBy ts us wd wd' l t
theorem kvsOf_keys : ∀ {ws : TW} {as : List Addr}, as.length = ws.length -> (kvsOf ws as).map (·.1) = (ws.map (·.1)).map nk
 | [], [], _ => rfl
 | p :: ws, a :: as, h => congrArg (nk p.1 :: ·) (kvsOf_keys (ws := ws) (as := as) (Nat.succ.inj h))
def stepG (mk : List (List Nat)) (x : List Nat) (i : Nat) : List Nat := beh x (mk.getD i [])
def spAllTurned : Sp := fun vs H Q _ => ∃ (m a : Addr) (ts : List (List Nat)) (n : Nat) (fam c us wds : List (List Nat)), vs = [.ref m, .ref a] /\ Mach H m ts n /\ FamOf ts n fam /\ LvH H a c us wds /\ LvP ts fam c us wds /\
 ∀ l rs mk H', Same H H' -> H' l = some (.lst (rs.map .ref)) -> TupsAt H' rs mk -> Makers ts c us wds mk -> mk.length <= 200 -> Q (.ref l) H'
def spGroup : Sp := fun vs H Q _ => ∃ (m a : Addr) (ts : List (List Nat)) (n : Nat) (fam c us wds : List (List Nat)), vs = [.ref m, .ref a] /\ Mach H m ts n /\ FamOf ts n fam /\ LvH H a c us wds /\ LvP ts fam c us wds /\ Tabs H /\
 ∀ l bs gs mk ws H', Keeps H H' -> Tabs H' -> L2.noT H l = none -> H' l = some (.lst (bs.map .ref)) -> TupsAt H' bs gs -> gs.Perm (ws.map (·.1)) -> gs.Pairwise (fun x y => ltl x y = true) -> Makers ts c us wds mk -> Told (stepG mk) mk.length (List.range us.length) ws -> Q (.ref l) H'
section
variable {P : Program} {w : World} {K : W.Frag} {mg : Str -> Option Value} {base : Heap} {f : Addr} {fd : FuncData}
theorem ok_all_turned (F : Fun K "all_tiles_turned" "all_tiles_turned" sAllTilesTurned f fd) (c_tiles_turned : Callee P w K mg base "tiles_turned" 9 ["machine", "level", "k", "letter"] spTurned) (m_len : mg "len" = none) (m_range : mg "range" = none) : FnOk P w K mg base CX0 11 f fd ["machine", "level"] spAllTurned := by
 refine F.ok scAllTilesTurned (fun vs H Q E h => ?_) (fun cdv A outer s H vs Q E hr h => ?_)
 ·obtain ⟨m, a, ts, n, fam, c, us, wds, rfl, _⟩ := h
  rfl
 obtain ⟨m, a, ts, n, fam, c, us, wds, rfl, M, ff, lv, lp, q⟩ := h
 have hu := hr.units
 refine ⟨_, (pss_cons (ps_set (i := 2) scAllTilesTurned.nd rfl (Or.inl rfl) (pe_lst pa_nil)) (pss_cons (ps_for PassesOwn.never rfl (pi_range1 rfl m_range (pa_cons (pe_callB call_len_seq rfl m_len boot_len (pa_cons (pe_ix ix_tup (pv 1) pe_int (fun _ _ => rfl)) pa_nil)) pa_nil)) (pg_name (i := 3) scAllTilesTurned.nd rfl (Or.inl rfl)) (pss_one (ps_for PassesOwn.never rfl (pi_range1 rfl m_range (pa_cons (pe_callB call_len_seq rfl m_len boot_len (pa_cons (pv 0) pa_nil)) pa_nil)) (pg_name (i := 4) scAllTilesTurned.nd rfl (Or.inl rfl)) (pss_cons (ps_set (i := 5) scAllTilesTurned.nd rfl (Or.inl rfl) (pe_callD c_tiles_turned (hr.mono (by decide)) rfl (pl_at (pl_cons (pv 0) (pl_cons (pv 1) (pl_cons (pv 3) (pl_cons (pv 4) pl_nil rfl) rfl) rfl) rfl)))) (pss_one (ps_if (pt_cmpR op_notN (pv 5) pe_non (nomark _)) (pss_one (ps_expr (pe_bm PySem.F.plainAttrs_list PySem.F.slot_list_append PySem.F.type_list_append mt_append (pv 2) (pa_cons (pv 5) pa_nil)))) pss_nil)))))) (pss_one (ps_ret (pv 2))))), ?_⟩
 obtain ⟨s', t', v', bs, ds, cs, h1, h2, h3, h4, h5, h6, h7, h8⟩ := id lv
 have lb := h3.len
 have t1 := M.some1
 have t4 := M.few
 obtain ⟨rs, hm, hrl, _⟩ := M.refs
 have c32 : c.length <= 32 := by
  rw [(class_facts lp.cls).2.1]
  exact Nat.le_trans (List.length_filter_le _ _) (Nat.le_trans (List.length_filter_le _ _) (ff.few M))
 refine ⟨by show 0 <= sizeLine; decide, fun fo hfo => ?_⟩
 have k0 := same_new hfo (.lst [])
 let Mk : Nat -> Nat -> List (List Nat) -> Prop := fun k l mk => mk.length <= 4 * k + l /\ (∀ t ∈ mk, ∃ (k l k' : Nat) (x wd wd' : List Nat), c[k]? = some x /\ wds[k]? = some wd /\ l < ts.length /\ c[k']? = some (stepR ts x l) /\ wds[k']? = some wd' /\ TurnedBy ts us wd wd' l t) /\
  ∀ (i j : Nat) (x wd : List Nat), (i < k ∨ i = k /\ j < l) -> c[i]? = some x -> wds[i]? = some wd -> j < ts.length -> stepR ts x j ∈ c -> ∃ (k' : Nat) (wd' t : List Nat), t ∈ mk /\ c[k']? = some (stepR ts x j) /\ wds[k']? = some wd' /\ TurnedBy ts us wd wd' j t
 let Pk : Nat -> L2.St -> Hp -> Prop := fun k σ H' => Same H H' /\ ∃ (qs : List Addr) (mk : List (List Nat)) (o3 o4 o5 : Option V), H' fo = some (.lst (qs.map .ref)) /\ TupsAt H' qs mk /\ Mk k 0 mk /\ σ = [some (.ref m), some (.ref a), some (.ref fo), o3, o4, o5]
 refine ⟨_, rfl, a, _, _, _, rfl, rfl, SqT.of (k0 _ _ h1), rfl, s', _, rfl, .inl (SqL.of (k0 _ _ h2)), (c.length : Int), by rw [List.length_map, lb], by lia, by lia, for_range Pk ⟨k0, [], [], none, none, none, upd_same, ⟨rfl, fun i b u e => by simp at e⟩, ⟨Nat.zero_le _, (fun t ht => nomatch ht), fun i j x wd hij => by lia⟩, rfl⟩ (fun k σ H1 hk p => ?_) (fun σ H1 p => ?_)⟩
 ·obtain ⟨g1, qs, mk, o3, o4, o5, e1, T1, K1, rfl⟩ := p
  have hk' : k < c.length := by simpa using hk
  have zk : V.int ((0 : Int) + ((k : Nat) : Int)) = nv k := by show V.int (0 + (k : Int)) = V.int (k : Int); rw [Int.zero_add]
  rw [zk]
  obtain ⟨wd, ew⟩ : ∃ wd, wds[k]? = some wd := ⟨_, List.getElem?_eq_getElem (by rw [lp.len]; exact hk')⟩
  obtain ⟨x, ex⟩ : ∃ x, c[k]? = some x := ⟨_, List.getElem?_eq_getElem hk'⟩
  let Pl : Nat -> L2.St -> Hp -> Prop := fun l σ H' => Same H H' /\ ∃ (qs : List Addr) (mk : List (List Nat)) (o4 o5 : Option V), H' fo = some (.lst (qs.map .ref)) /\ TupsAt H' qs mk /\ Mk k l mk /\ σ = [some (.ref m), some (.ref a), some (.ref fo), some (nv k), o4, o5]
  refine ⟨_, rfl, m, _, rfl, .inr (SqT.of (g1 _ _ hm)), (ts.length : Int), by rw [List.length_map, hrl], by lia, by lia, for_range Pl ⟨g1, qs, mk, _, _, e1, T1, K1, rfl⟩ (fun l σ H2 hl p => ?_) (fun σ H2 p => ?_)⟩
  ·obtain ⟨g2, qs, mk, o4, o5, e2, T2, K2, rfl⟩ := p
   have hl' : l < ts.length := by simpa using hl
   have zl : V.int ((0 : Int) + ((l : Nat) : Int)) = nv l := by show V.int (0 + (l : Int)) = V.int (l : Int); rw [Int.zero_add]
   rw [zl]
   obtain ⟨kz, km, ka⟩ := id K2
   refine ⟨_, rfl, _, rfl, _, rfl, _, rfl, m, a, k, l, ts, n, fam, c, us, wds, x, wd, rfl, M.same g2, ff, lv.same g2, lp, ex, ew, hl', fun my H3 g3 => ?_, fun k' wd' ey ew' tp js H3 g3 etp tb => ?_⟩
   ·refine ⟨_, rfl, rfl, _, rfl, iteF ⟨g2.trans g3, qs, mk, _, _, g3 _ _ e2, T2.same g3, ⟨by lia, km, fun i j x' wd'' hij e1' e2' e3' e4' => ?_⟩, rfl⟩⟩
    by_cases z : i = k /\ j = l
    ·obtain ⟨rfl, rfl⟩ := z
     rw [ex] at e1'
     cases e1'
     exact absurd e4' my
    ·exact ka i j x' wd'' (by lia) e1' e2' e3' e4'
   ·refine ⟨_, rfl, rfl, _, rfl, iteT ?_⟩
    have e3 := g3 _ _ e2
    have lq := T2.len
    refine ⟨_, rfl, .inl ⟨rfl, _, SqL.of e3⟩, _, rfl, fo, _, _, rfl, rfl, e3, by rw [List.length_map, sizeLine_eq]; lia, ?_⟩
    refine ⟨same_upd (g2.trans g3) hfo, qs ++ [tp], mk ++ [js], _, _, by rw [upd_same, List.map_append]; rfl, tups_snoc ⟨lq, fun i b u e1 e2 => ?_⟩ ?_, ⟨by rw [List.length_append, List.length_singleton]; lia, fun t ht => ?_, fun i j x' wd'' hij e1' e2' e3' e4' => ?_⟩, rfl⟩
    ·have z := (T2.same g3).is i b u e1 e2
     rw [upd_ne (ne_of z e3 fun e => nomatch e)]
     exact z
    ·rw [upd_ne (ne_of etp e3 fun e => nomatch e)]
     exact etp
    ·rcases List.mem_append.mp ht with z | z
     ·exact km t z
     ·rw [List.mem_singleton.mp z]
      exact ⟨k, l, k', x, wd, wd', ex, ew, hl', ey, ew', tb⟩
    ·by_cases z : i = k /\ j = l
     ·obtain ⟨rfl, rfl⟩ := z
      rw [ex] at e1'
      cases e1'
      rw [ew] at e2'
      cases e2'
      exact ⟨k', wd', js, List.mem_append.mpr (.inr (List.mem_singleton.mpr rfl)), ey, ew', tb⟩
     ·obtain ⟨k2, wd2, t, r1, r2⟩ := ka i j x' wd'' (by lia) e1' e2' e3' e4'
      exact ⟨k2, wd2, t, List.mem_append.mpr (.inl r1), r2⟩
  ·obtain ⟨g2, qs, mk, o4, o5, e2, T2, ⟨kz, km, ka⟩, rfl⟩ := p
   have el : (ts.length : Int).toNat = ts.length := Int.toNat_natCast _
   rw [el] at kz ka
   exact ⟨g2, qs, mk, _, _, _, e2, T2, ⟨by lia, km, fun i j x' wd'' hij e1' e2' e3' e4' => ka i j x' wd'' (by lia) e1' e2' e3' e4'⟩, rfl⟩
 ·obtain ⟨g1, qs, mk, o3, o4, o5, e1, T1, ⟨kz, km, ka⟩, rfl⟩ := p
  have el : (c.length : Int).toNat = c.length := Int.toNat_natCast _
  rw [el] at kz ka
  exact ⟨_, rfl, q fo qs mk H1 g1 e1 T1 ⟨km, fun k l x wd e1 e2 e3 e4 => ka k l x wd (.inl (List.getElem?_eq_some_iff.mp e1).1) e1 e2 e3 e4⟩ (by lia)⟩
end
section
variable {P : Program} {w : World} {K : W.Frag} {mg : Str -> Option Value} {base : Heap} {f : Addr} {fd : FuncData}
theorem lam_group {fl c lm cc : Addr} {oc : Obj} {mk us : List (List Nat)} {n : Nat} {rs : List Addr} {Hc : Hp} {pm ct : Value} {params : Arguments} {body : Expr} {scope : Scope} {sx fx a1 a2 : Expr} {kw skw : List Keyword} {lp cp scp rp : Pos} {s0 : Stmt} (e : defBody sLevelGroup = [s0, .Return (some (.Call sx [.Call fx [a1, a2, .Lambda params body scope lp] kw cp] skw scp)) rp])
  (c_behind : Callee P w K mg base "behind" 1 ["one", "other"] spBehind) (hl : Hc lm = some (.lst (rs.map .ref))) (Tm : TupsAt Hc rs mk) (mU : ∀ t ∈ mk, t ∈ gU us n) (few : us.length <= 32) (h1 : Hc fl = some (LamO fl (lamFd "level_group.<locals>.<lambda>" params body scope "makers" c pm (.ref cc) ct))) (h2 : Hc c = some (CellO c lm oc)) (h3 : Hc cc = some (CodeO cc "level_group.<locals>.<lambda>")) :
  FnOk P w K mg base CX0 5 fl (lamFd "level_group.<locals>.<lambda>" params body scope "makers" c pm (.ref cc) ct) ["turn", "number"] (spStep (Same Hc) (gU us n) mk.length (stepG mk)) /\ Binds K (lamFd "level_group.<locals>.<lambda>" params body scope "makers" c pm (.ref cc) ct) ["turn", "number"] [] := by
 cases e
 refine ⟨lam_fn (k := 4) (m := lm) (oc := oc) ⟨rfl, rfl, rfl, by decide +kernel, by decide +kernel, rfl, by decide +kernel⟩ (fun vs H Q E h => ?_) (fun vs H Q E h => ?_) (fun A outer s H vs Q E hr h => ?_), .all fun us hl => match us, hl with | [_, _], _ => rfl⟩
 ·obtain ⟨t, x, l, rfl, _⟩ := h
  rfl
 ·obtain ⟨t, x, l, rfl, g, _⟩ := h
  exact ⟨g _ _ h1, g _ _ h2, g _ _ h3⟩
 ·obtain ⟨t, x, l, rfl, g, ht, hx, hl', q⟩ := h
  refine ⟨_, (pe_callD c_behind (hr.mono (by decide)) rfl (pl_at (pl_cons (pv 0) (pl_cons (pe_ix ix_list (pv 2) (pv 1) (fun _ _ => rfl)) pl_nil rfl) rfl))), ?_⟩
  have hc := g _ _ h2
  have off : ∀ {b : Addr} {u : HO}, (∀ φ, u ≠ .ext φ) -> H b = some u -> (L2.drop H c) b = some u := fun nu hb => by
   rw [drop_ne (ne_of hb hc fun e => nu _ e)]
   exact hb
  have ln := Tm.len
  obtain ⟨r, er⟩ : ∃ r, rs[l]? = some r := ⟨_, List.getElem?_eq_getElem (by lia)⟩
  have et : mk[l]? = some (mk.getD l []) := by rw [List.getD_eq_getElem?_getD, List.getElem?_eq_getElem hl']; rfl
  have hr1 := off (u := .tup _) (fun _ e => nomatch e) (g _ _ (Tm.is l r _ er et))
  have mt := mU _ (List.mem_of_getElem? et)
  obtain ⟨x1, x2⟩ := gU_lt hx
  obtain ⟨y1, y2⟩ := gU_lt mt
  refine ⟨_, rfl, _, rfl, _, rfl, lm, _, _, _, rfl, rfl, SqL.of (off (u := .lst _) (fun _ e => nomatch e) (g _ _ hl)), atI_nat (j := l) (v := .ref r) (by rw [List.getElem?_map, er]; rfl), t, r, x, mk.getD l [], rfl, off (u := .tup _) (fun _ e => nomatch e) ht, hr1, fun y hy => by rw [y1]; exact x2 y hy, by lia, fun p H3 g3 e3 free => q p _ (fun y o ho => ?_) ?_⟩
  ·by_cases hy : y = c
   ·subst hy
    rw [hc] at ho
    cases ho
    exact upd_same
   ·rw [upd_ne hy]
    exact g3 _ _ (by rw [drop_ne hy]; exact ho)
  ·rw [upd_ne (ne_of_none e3 free)]
   exact e3
theorem ok_level_group {cd T : Addr} (F : DefAt K "level_group" sLevelGroup f fd .none (.ref cd)) (hC : PySem.W.CodeHd base cd T) (bm : BMain mg base) (hq : (("level_group.<locals>.<lambda>" : Str), (⟨118, 61, 118, 110⟩ : Pos), T) ∈ tabsL) (c_all_tiles_turned : Callee P w K mg base "all_tiles_turned" 11 ["machine", "level"] spAllTurned) (c_still : Callee P w K mg base "still" 1 ["rooms"] spStill) (c_behind : Callee P w K mg base "behind" 1 ["one", "other"] spBehind)
  (c_reached : CalleeD P w K mg base "reached" 8 ["start", "letters", "step", "most"] (spReached P w K mg base) [.non]) (m_len : mg "len" = none) (m_sorted : mg "sorted" = none) : FnOk P w K mg base CX0 13 f fd ["machine", "level"] spGroup := by
 refine F.fnOk scLevelGroup (fun vs H Q E h => ?_) (fun A outer s H vs Q E h hr => ?_)
 ·obtain ⟨m, a, ts, n, fam, c, us, wds, rfl, _⟩ := h
  rfl
 obtain ⟨m, a, ts, n, fam, c, us, wds, rfl, M, ff, lv, lp, hT, q⟩ := h
 refine ⟨_, ?_, (pss_cons (ps_set (i := 2) scLevelGroup.nd rfl (Or.inr rfl) (pe_callD c_all_tiles_turned (hr.mono (by decide)) rfl (pl_at (pl_cons (pv 0) (pl_cons (pv 1) pl_nil rfl) rfl)))) (pss_one (ps_ret (pe_callB (call_sortD rfl) rfl m_sorted boot_sorted (pa_cons (pe_callCD c_reached (hr.mono (by decide)) rfl (j := 2) rfl rfl rfl rfl (pl_at (pl_cons (pe_callD c_still (hr.mono (by decide)) rfl (pa_cons (pe_callB call_len_seq rfl m_len boot_len (pa_cons (pe_ix ix_tup (pv 1) pe_int (fun _ _ => rfl)) pa_nil)) pa_nil)) (pl_cons (pe_callB call_len_seq rfl m_len boot_len (pa_cons (pv 2) pa_nil)) (pl_cons (pe_lam (qual := "level_group.<locals>.<lambda>") rfl hC bm (fun _ _ _ _ _ => rfl) rfl rfl) pl_nil rfl) rfl) rfl))) pa_nil)))))⟩
 refine ⟨_, rfl, _, rfl, m, a, ts, n, fam, c, us, wds, rfl, M, ff, lv, lp, fun lm rs mk H1 g1 elm Tm Mk few200 => ?_⟩
 obtain ⟨s', t', v', bs, ds, cs, h1, h2, h3, h4, h5, h6, h7, h8⟩ := id (lv.same g1)
 have l5 := h5.len
 obtain ⟨uU, few⟩ := lp.inU M ff
 have n5 := M.n5
 have nd := tiles_nd M ff lp
 have mU : ∀ t ∈ mk, t ∈ gU us n := fun t ht => by
  obtain ⟨k, l, k', x, wd, wd', e1, e2, e3, e4, e5, e6⟩ := Mk.mem t ht
  exact turned_gU M ff lp e1 e2 e3 e4 e5 e6
 refine ⟨_, rfl, a, _, _, _, rfl, rfl, SqT.of h1, rfl, t', _, rfl, .inl (SqL.of h4), ?_⟩
 try dsimp only
 rw [List.length_map, l5]
 refine ⟨us.length, rfl, by lia, fun st H2 g2 e2 => ?_⟩
 have elm2 := g2 _ _ elm
 have Tm2 := Tm.same g2
 have T2 : Tabs H2 := (hT.same g1).same g2
 refine ⟨_, rfl, lm, _, rfl, .inl (SqL.of elm2), ?_⟩
 try dsimp only
 rw [List.length_map, Tm2.len]
 have end1 : ∀ (H3 : Hp) (D : Addr) (ws : TW) (as : List Addr), Keeps H H3 -> Tabs H3 -> WordsAt H3 D ws as -> Told (stepG mk) mk.length (List.range us.length) ws -> rSortD [.ref D] H3 Q := fun H3 D ws as k3 t3 W TT => by
  have inG : ∀ p ∈ ws, p.1 ∈ gU us n := fun p hp => by
   obtain ⟨r1, r2⟩ := TT.run p hp
   rw [<- r2]
   refine goes_in (gU_start nd uU) (fun x hx l hl => gU_step n5 uU hx ?_) p.2 r1
   rw [List.getD_eq_getElem?_getD, List.getElem?_eq_getElem hl]
   exact mU _ (List.getElem_mem hl)
  refine ⟨D, _, ws.map (·.1), rfl, W.dict, ?_, fun t ht e => ?_, ?_, fun l bs gs hl Tb pm up => ?_⟩
  ·exact kvsOf_keys W.len
  ·obtain ⟨p, hp, rfl⟩ := List.mem_map.mp ht
   have z := (gU_lt (inG p hp)).1
   rw [e] at z
   have := tiles_some M ff lp
   simp at z
   lia
  ·refine Nat.le_trans (few_of (U := gU us n) TT.keys fun x hx => ?_) (gU_few n5)
   obtain ⟨p, hp, rfl⟩ := List.mem_map.mp hx
   exact inG p hp
  ·have gl := same_new hl (.lst (bs.map V.ref))
   refine q l bs gs mk ws _ (k3.trans gl.keeps) (t3.same gl) ?_ upd_same (Tb.same gl) pm up Mk TT
   cases y : L2.noT H l with
   | none => rfl
   | some o =>
    have z := k3 _ _ y
    rw [hl] at z
    cases z
 have go : ∀ (fl cc : Addr) (ct : Value) (H3 : Hp) (tps : Array Value), H2 T = some (.tbl tps) -> KeepsBut T H2 H3 -> H3 T = some (.tbl (triple (⟨118, 61, 118, 110⟩ : Pos) cc)) -> H3 cc = some (CodeO cc "level_group.<locals>.<lambda>") -> ∀ (params : Arguments) (body : Expr) (scope : Scope) (pm : Value) (c' : Addr), H3 fl = some (LamO fl (lamFd "level_group.<locals>.<lambda>" params body scope "makers" c' pm (.ref cc) ct)) ->
   ∀ oc, H3 c' = none -> (FnOk P w K mg base CX0 5 fl (lamFd "level_group.<locals>.<lambda>" params body scope "makers" c' pm (.ref cc) ct) ["turn", "number"] (spStep (Same (upd H3 c' (CellO c' lm oc))) (gU us n) mk.length (stepG mk))) -> Binds K (lamFd "level_group.<locals>.<lambda>" params body scope "makers" c' pm (.ref cc) ct) ["turn", "number"] [] ->
   spReached P w K mg base [.ref st, nv mk.length, .ref fl, .non] (upd H3 c' (CellO c' lm oc)) (fun r H4 => H4 c' = some (CellO c' lm oc) /\ rSortD [r] (L2.drop H4 c') Q) E0 := fun fl cc ct H3 tps hT0 kb h1 h2 params body scope pm c' h3 oc hc hF hB => by
  have k1 := kb.keeps hT0
  have kc := same_new hc (CellO c' lm oc)
  refine ⟨st, fl, _, _, List.range us.length, mk.length, gU us n, stepG mk, rfl, kc _ _ (k1 _ _ (noT_at e2 fun _ e => nomatch e)), kc _ _ h3, gU_start nd uU, fun x hx l hl => gU_step n5 uU hx ?_, gU_few n5, by lia, hF, hB, fun D ws as H4 g4 W nw TT => ⟨g4 _ _ upd_same, end1 _ D ws as (fun b o hb => ?_) (T2.but hq hT0 (fun b o nb hb => ?_) (.inr ⟨cc, ?_, ?_⟩)) ⟨W.len, ?_, fun j a r e1 e2 => ?_⟩ TT⟩⟩
  ·rw [List.getD_eq_getElem?_getD, List.getElem?_eq_getElem hl]
   exact mU _ (List.getElem_mem hl)
  ·have z := ((g1.trans g2).keeps.trans k1) b o hb
   rw [drop_ne (ne_of_none z hc)]
   exact g4 _ _ (kc _ _ z)
  ·have z := kb b o nb hb
   rw [drop_ne (ne_of_none z hc)]
   exact g4 _ _ (kc _ _ z)
  ·rw [drop_ne (ne_of_none h1 hc)]
   exact g4 _ _ (kc _ _ h1)
  ·rw [drop_ne (ne_of_none h2 hc)]
   exact g4 _ _ (kc _ _ h2)
  ·rw [drop_ne (ne_of W.dict (g4 _ _ upd_same) fun e => nomatch e)]
   exact W.dict
  ·have z := W.list j a r e1 e2
   rw [drop_ne (ne_of z (g4 _ _ upd_same) fun e => nomatch e)]
   exact z
 rcases T2 _ hq with hT1 | ⟨cc, hT1, hcc⟩
 ·refine .inl ⟨hT1, fun fl cc ct hfl hcc ne => ⟨lm, rfl, fun oc hc => ?_⟩⟩
  obtain ⟨k1, hT2, hc1⟩ := made2 (⟨118, 61, 118, 110⟩ : Pos) "level_group.<locals>.<lambda>" hT1 hfl hcc ne _
  have kc := same_new hc (CellO (s.heap.objs.size + 1) lm oc)
  have k1' := k1.keeps hT1
  obtain ⟨F1, F2⟩ := lam_group rfl c_behind (kc _ _ (k1' _ _ (noT_at elm2 fun _ e => nomatch e))) ((tups_keeps Tm2 k1').same kc) mU few (kc _ _ upd_same) upd_same (kc _ _ hc1)
  exact go fl cc ct _ _ hT1 k1 hT2 hc1 _ _ _ _ _ upd_same oc hc F1 F2
 ·refine .inr ⟨cc, hT1, hcc, fun fl ct hfl => ⟨lm, rfl, fun oc hc => ?_⟩⟩
  have k1 : ∀ lo, Same H2 (upd H2 fl lo) := fun lo => same_new hfl lo
  have kc := same_new hc (CellO (s.heap.objs.size + 1) lm oc)
  obtain ⟨F1, F2⟩ := lam_group rfl c_behind (kc _ _ (k1 _ _ _ elm2)) ((Tm2.same (k1 _)).same kc) mU few (kc _ _ upd_same) upd_same (kc _ _ (k1 _ _ _ hcc))
  exact go fl cc ct _ _ hT1 (fun b o _ hb => k1 _ _ _ hb) (k1 _ _ _ hT1) (k1 _ _ _ hcc) _ _ _ _ _ upd_same oc hc F1 F2
end
def Rest (ts c us wds : List (List Nat)) : Prop := ∀ (k l k' : Nat) (x wd wd' t : List Nat), c[k]? = some x -> wds[k]? = some wd -> l < ts.length -> c[k']? = some (stepR ts x l) -> wds[k']? = some wd' -> TurnedBy ts us wd wd' l t -> t = List.range us.length
theorem rest_makers {H : Hp} {m : Addr} {ts : List (List Nat)} {n : Nat} {fam c us wds mk : List (List Nat)} (M : Mach H m ts n) (ff : FamOf ts n fam) (lp : LvP ts fam c us wds) (Mk : Makers ts c us wds mk) : (∀ t ∈ mk, t = List.range us.length) ↔ Rest ts c us wds := by
 constructor
 ·intro h k l k' x wd wd' t e1 e2 e3 e4 e5 e6
  obtain ⟨k2, wd2, t2, m2, f4, f5, f6⟩ := Mk.all k l x wd e1 e2 e3 (List.mem_of_getElem? e4)
  have ek := (List.getElem?_inj (List.getElem?_eq_some_iff.mp e4).1 (lp.nd ff)).mp (e4.trans f4.symm)
  subst ek
  rw [e5] at f5
  cases f5
  rw [turned_uniq M ff lp e4 e5 e6 f6]
  exact h t2 m2
 ·intro h t ht
  obtain ⟨k, l, k', x, wd, wd', e1, e2, e3, e4, e5, e6⟩ := Mk.mem t ht
  exact h k l k' x wd wd' t e1 e2 e3 e4 e5 e6
theorem beh_range {N : Nat} {t : List Nat} (h : t.length = N) : beh (List.range N) t = t := by
 subst h
 refine List.ext_getElem? fun j => ?_
 unfold beh
 rw [List.getElem?_map]
 by_cases z : j < t.length
 ·rw [List.getElem?_range z, List.getElem?_eq_getElem z]
  show some (t.getD j 0) = _
  rw [List.getD_eq_getElem?_getD, List.getElem?_eq_getElem z]
  rfl
 ·rw [List.getElem?_eq_none (by simp; lia), List.getElem?_eq_none (by lia)]
  rfl
theorem group_rest {N : Nat} {mk gs : List (List Nat)} {ws : TW} (len : ∀ t ∈ mk, t.length = N) (pm : gs.Perm (ws.map (·.1))) (T : Told (stepG mk) mk.length (List.range N) ws) : (gs = [List.range N] ↔ ∀ t ∈ mk, t = List.range N) /\ (gs.length = 1 ↔ ∀ t ∈ mk, t = List.range N) := by
 have mem : List.range N ∈ gs := pm.mem_iff.mpr (List.mem_map.mpr ⟨_, List.mem_of_getElem? T.head, rfl⟩)
 have one : gs.length = 1 -> gs = [List.range N] := fun h => by
  match gs, h with
  | [g], _ => rw [List.mem_singleton.mp mem]
 have a : gs = [List.range N] -> ∀ t ∈ mk, t = List.range N := fun h t ht => by
  obtain ⟨i, hi⟩ := List.getElem?_of_mem ht
  have li := (List.getElem?_eq_some_iff.mp hi).1
  have g1 : goes (stepG mk) (List.range N) [i] = t := by
   show beh (List.range N) (mk.getD i []) = t
   rw [List.getD_eq_getElem?_getD, hi]
   exact beh_range (len t ht)
  obtain ⟨u, h2, _⟩ := T.least _ [i] rfl fun l hl => by rw [List.mem_singleton.mp hl]; exact li
  have z := pm.mem_iff.mpr (List.mem_map.mpr ⟨_, h2, rfl⟩)
  rw [h, g1] at z
  exact List.mem_singleton.mp z
 have b : (∀ t ∈ mk, t = List.range N) -> gs = [List.range N] := fun h => by
  have all : ∀ (w : List Nat), (∀ l ∈ w, l < mk.length) -> goes (stepG mk) (List.range N) w = List.range N := fun w => by
   induction w with
   | nil => exact fun _ => rfl
   | cons l w ih =>
    intro hw
    have ll := hw l (List.mem_cons_self ..)
    have e : stepG mk (List.range N) l = List.range N := by
     show beh (List.range N) (mk.getD l []) = _
     rw [List.getD_eq_getElem?_getD, List.getElem?_eq_getElem ll]
     show beh (List.range N) mk[l] = _
     rw [h _ (List.getElem_mem ll)]
     exact beh_range (List.length_range)
    show goes (stepG mk) (stepG mk (List.range N) l) w = _
    rw [e]
    exact ih fun x hx => hw x (List.mem_cons_of_mem _ hx)
  have each : ∀ g ∈ gs, g = List.range N := fun g hg => by
   obtain ⟨p, hp, rfl⟩ := List.mem_map.mp (pm.mem_iff.mp hg)
   obtain ⟨r1, r2⟩ := T.run p hp
   rw [<- r2]
   exact all p.2 r1
  have nd : gs.Nodup := pm.nodup_iff.mpr T.keys
  match gs, mem, each, nd with
  | [g], _, each, _ => rw [each g (List.mem_cons_self ..)]
  | g :: g' :: r, _, each, nd =>
   have e1 := each g (List.mem_cons_self ..)
   have e2 := each g' (List.mem_cons_of_mem _ (List.mem_cons_self ..))
   exact absurd (List.mem_cons.mpr (.inl (e1.trans e2.symm))) (List.nodup_cons.mp nd).1
 exact ⟨⟨a, b⟩, fun h => a (one h), fun h => by rw [b h]; rfl⟩
theorem LvH.keeps {H H' : Hp} {a : Addr} {c us wds : List (List Nat)} (h : LvH H a c us wds) (g : Keeps H H') : LvH H' a c us wds := by
 obtain ⟨s, t, v, bs, ds, cs, h1, h2, h3, h4, h5, h6, h7, h8⟩ := h
 have nt := fun {b : Addr} {u : HO} (nu : ∀ φ, u ≠ .tbl φ) (h : H b = some u) => g b u (noT_at h nu)
 exact ⟨s, t, v, bs, ds, cs, nt (fun _ e => nomatch e) h1, nt (fun _ e => nomatch e) h2, tups_keeps h3 g, nt (fun _ e => nomatch e) h4, tups_keeps h5 g, nt (fun _ e => nomatch e) h6, h7, fun k b wd e1 e2 => nt (fun _ e => nomatch e) (h8 k b wd e1 e2)⟩
theorem isi_bool_bool {K : W.Frag} : PySem.W.kitOne K (.type "bool") (.type "bool") = some true := by rfl
def spRests : Sp := fun vs H Q _ => ∃ (m a : Addr) (ts : List (List Nat)) (n : Nat) (fam c us wds : List (List Nat)), vs = [.ref m, .ref a] /\ Mach H m ts n /\ FamOf ts n fam /\ LvH H a c us wds /\ LvP ts fam c us wds /\ Tabs H /\
 ∀ b H', Keeps H H' -> Tabs H' -> (b = true ↔ Rest ts c us wds) -> Q (.bl b) H'
def spDue : Sp := fun vs H Q _ => ∃ (m a : Addr) (ts : List (List Nat)) (n : Nat) (fam c us wds : List (List Nat)), vs = [.ref m, .ref a] /\ Mach H m ts n /\ FamOf ts n fam /\ LvH H a c us wds /\ LvP ts fam c us wds /\
 ∀ b H', Same H H' -> (b = true ↔ Rest ts c us wds) -> Q (.bl b) H'
def spLaw (K : W.Frag) : Sp := fun vs H Q _ => ∃ (a : Addr) (ns : List Int), vs = [.ref a] /\ SqL K H a (ns.map V.int) /\ ns.length <= 63 /\ Tabs H /\ ∀ H', Q (.bl true) H'
section
variable {P : Program} {w : World} {K : W.Frag} {mg : Str -> Option Value} {base : Heap} {f : Addr} {fd : FuncData}
theorem ok_rests (F : Fun K "rests" "rests" sRests f fd) (c_level_group : Callee P w K mg base "level_group" 13 ["machine", "level"] spGroup) (c_still : Callee P w K mg base "still" 1 ["rooms"] spStill) (m_len : mg "len" = none) : FnOk P w K mg base CX0 15 f fd ["machine", "level"] spRests := by
 refine F.ok scRests (fun vs H Q E h => ?_) (fun cdv A outer s H vs Q E hr h => ?_)
 ·obtain ⟨m, a, ts, n, fam, c, us, wds, rfl, _⟩ := h
  rfl
 obtain ⟨m, a, ts, n, fam, c, us, wds, rfl, M, ff, lv, lp, hT, q⟩ := h
 have hu := hr.units
 refine ⟨_, (pss_one (ps_ret (pe_cmpR (op_eqD hu) (pe_callD c_level_group (hr.mono (by decide)) rfl (pl_at (pl_cons (pv 0) (pl_cons (pv 1) pl_nil rfl) rfl))) (pe_lst (pa_cons (pe_callD c_still (hr.mono (by decide)) rfl (pa_cons (pe_callB call_len_seq rfl m_len boot_len (pa_cons (pe_ix ix_tup (pv 1) pe_int (fun _ _ => rfl)) pa_nil)) pa_nil)) pa_nil)) (nomark _)))), ?_⟩
 obtain ⟨s', t', v', bs, ds, cs, h1, h2, h3, h4, h5, h6, h7, h8⟩ := id lv
 have l5 := h5.len
 obtain ⟨uU, few⟩ := lp.inU M ff
 refine ⟨_, rfl, _, rfl, m, a, ts, n, fam, c, us, wds, rfl, M, ff, lv, lp, hT, fun l bs gs mk ws H1 k1 T1 nl el Tb pm up Mk TT => ?_⟩
 have lm : ∀ t ∈ mk, t.length = us.length := fun t ht => by
  obtain ⟨k, l, k', x, wd, wd', e1, e2, e3, e4, e5, e6⟩ := Mk.mem t ht
  exact e6.1
 obtain ⟨gr, _⟩ := group_rest lm pm TT
 have nt := fun {b : Addr} {u : HO} (nu : ∀ φ, u ≠ .tbl φ) (h : H b = some u) => k1 b u (noT_at h nu)
 refine ⟨_, rfl, a, _, _, _, rfl, rfl, SqT.of (nt (fun _ e => nomatch e) h1), rfl, t', _, rfl, .inl (SqL.of (nt (fun _ e => nomatch e) h4)), ?_⟩
 try dsimp only
 rw [List.length_map, l5]
 refine ⟨us.length, rfl, by lia, fun st H2 g2 e2 => ⟨by show 1 <= sizeLine; decide, fun p hp => ?_⟩⟩
 have gp := same_new hp (.lst [.ref st])
 refine ⟨l, p, 1, _, _, rfl, rfl, rep_tups ((g2.trans gp) _ _ el) (Tb.same (g2.trans gp)), rep_tups (bs := [st]) (us := [List.range us.length]) upd_same ⟨rfl, fun i b u z1 z2 => ?_⟩, by decide, fun b hb => q b _ ((k1.trans g2.keeps).trans gp.keeps) ((T1.same g2).same gp) ?_⟩
 ·cases i with
  | zero =>
   cases z1
   cases z2
   exact gp _ _ e2
  | succ i => cases z1
 ·rw [<- rest_makers M ff lp Mk, <- gr, hb]
  exact ⟨fun z => dts_inj z, fun z => by rw [z]⟩
theorem ok_due (F : Fun K "_law_due" "_law_due" sLawDue f fd) (c_tiles_turned : Callee P w K mg base "tiles_turned" 9 ["machine", "level", "k", "letter"] spTurned) (m_len : mg "len" = none) (m_range : mg "range" = none) (m_tuple : mg "tuple" = none) : FnOk P w K mg base CX0 11 f fd ["_law_machine_here", "_law_level"] spDue := by
 refine F.ok scLawDue (fun vs H Q E h => ?_) (fun cdv A outer s H vs Q E hr h => ?_)
 ·obtain ⟨m, a, ts, n, fam, c, us, wds, rfl, _⟩ := h
  rfl
 obtain ⟨m, a, ts, n, fam, c, us, wds, rfl, M, ff, lv, lp, q⟩ := h
 have hu := hr.units
 refine ⟨_, (pss_cons (ps_for PassesOwn.never rfl (pi_range1 rfl m_range (pa_cons (pe_callB call_len_seq rfl m_len boot_len (pa_cons (pe_ix ix_tup (pv 1) pe_int (fun _ _ => rfl)) pa_nil)) pa_nil)) (pg_name (i := 2) scLawDue.nd rfl (Or.inl rfl)) (pss_one (ps_for PassesOwn.never rfl (pi_range1 rfl m_range (pa_cons (pe_callB call_len_seq rfl m_len boot_len (pa_cons (pv 0) pa_nil)) pa_nil)) (pg_name (i := 3) scLawDue.nd rfl (Or.inl rfl)) (pss_cons (ps_set (i := 4) scLawDue.nd rfl (Or.inl rfl) (pe_callD c_tiles_turned (hr.mono (by decide)) rfl (pl_at (pl_cons (pv 0) (pl_cons (pv 1) (pl_cons (pv 2) (pl_cons (pv 3) pl_nil rfl) rfl) rfl) rfl)))) (pss_one (ps_if (PW.pt (pw_and (pt_cmpR op_notN (pv 4) pe_non (nomark _)) (pw_and1 (pt_cmpR (op_neD hu) (pv 4) (pe_callTy (call_tup_rng rfl) rfl m_tuple boot_tuple (pa_cons (pe_callTy call_rangeV rfl m_range boot_range (pa_cons (pe_callB call_len_seq rfl m_len boot_len (pa_cons (pe_ix ix_tup (pv 1) pe_int (fun _ _ => rfl)) pa_nil)) pa_nil)) pa_nil)) (nomark _))))) (pss_one (ps_ret pe_bl)) pss_nil)))))) (pss_one (ps_ret pe_bl))), ?_⟩
 obtain ⟨s', t', v', bs, ds, cs, h1, h2, h3, h4, h5, h6, h7, h8⟩ := id lv
 have lb := h3.len
 have t1 := M.some1
 have t4 := M.few
 obtain ⟨rs, hm, hrl, _⟩ := M.refs
 have l5 := h5.len
 obtain ⟨uU, few⟩ := lp.inU M ff
 have c32 : c.length <= 32 := by
  rw [(class_facts lp.cls).2.1]
  exact Nat.le_trans (List.length_filter_le _ _) (Nat.le_trans (List.length_filter_le _ _) (ff.few M))
 let Rs : Nat -> Nat -> Prop := fun k l => ∀ (i j k' : Nat) (x wd wd' t : List Nat), (i < k ∨ i = k /\ j < l) -> c[i]? = some x -> wds[i]? = some wd -> j < ts.length -> c[k']? = some (stepR ts x j) -> wds[k']? = some wd' -> TurnedBy ts us wd wd' j t -> t = List.range us.length
 let Pk : Nat -> L2.St -> Hp -> Prop := fun k σ H' => Same H H' /\ Rs k 0 /\ ∃ o2 o3 o4, σ = [some (.ref m), some (.ref a), o2, o3, o4]
 refine ⟨_, rfl, a, _, _, _, rfl, rfl, SqT.of h1, rfl, s', _, rfl, .inl (SqL.of h2), (c.length : Int), by rw [List.length_map, lb], by lia, by lia, for_range Pk ⟨Same.refl _, fun i j _ _ _ _ _ hij => by lia, none, none, none, rfl⟩ (fun k σ H1 hk p => ?_) (fun σ H1 p => ?_)⟩
 ·obtain ⟨g1, R1, o2, o3, o4, rfl⟩ := p
  have hk' : k < c.length := by simpa using hk
  have zk : V.int ((0 : Int) + ((k : Nat) : Int)) = nv k := by show V.int (0 + (k : Int)) = V.int (k : Int); rw [Int.zero_add]
  rw [zk]
  obtain ⟨wd, ew⟩ : ∃ wd, wds[k]? = some wd := ⟨_, List.getElem?_eq_getElem (by rw [lp.len]; exact hk')⟩
  obtain ⟨x, ex⟩ : ∃ x, c[k]? = some x := ⟨_, List.getElem?_eq_getElem hk'⟩
  let Pl : Nat -> L2.St -> Hp -> Prop := fun l σ H' => Same H H' /\ Rs k l /\ ∃ o3 o4, σ = [some (.ref m), some (.ref a), some (nv k), o3, o4]
  refine ⟨_, rfl, m, _, rfl, .inr (SqT.of (g1 _ _ hm)), (ts.length : Int), by rw [List.length_map, hrl], by lia, by lia, for_range Pl ⟨g1, R1, _, _, rfl⟩ (fun l σ H2 hl p => ?_) (fun σ H2 p => ?_)⟩
  ·obtain ⟨g2, R2, o3, o4, rfl⟩ := p
   have hl' : l < ts.length := by simpa using hl
   have zl : V.int ((0 : Int) + ((l : Nat) : Int)) = nv l := by show V.int (0 + (l : Int)) = V.int (l : Int); rw [Int.zero_add]
   rw [zl]
   refine ⟨_, rfl, _, rfl, _, rfl, _, rfl, m, a, k, l, ts, n, fam, c, us, wds, x, wd, rfl, M.same g2, ff, lv.same g2, lp, ex, ew, hl', fun my H3 g3 => ?_, fun k' wd' ey ew' tp js H3 g3 etp tb => ?_⟩
   ·refine ⟨_, rfl, rfl, _, rfl, iteF (iteF ⟨g2.trans g3, fun i j k' x' wd'' wd' t hij e1' e2' e3' e4' => ?_, _, _, rfl⟩)⟩
    by_cases z : i = k /\ j = l
    ·obtain ⟨rfl, rfl⟩ := z
     rw [ex] at e1'
     cases e1'
     exact absurd (List.mem_of_getElem? e4') my
    ·exact R2 i j k' x' wd'' wd' t (by lia) e1' e2' e3' e4'
   ·refine ⟨_, rfl, rfl, _, rfl, iteT ?_⟩
    have g23 := g2.trans g3
    refine ⟨_, rfl, _, rfl, a, _, _, _, rfl, rfl, SqT.of (g23 _ _ h1), rfl, t', _, rfl, .inl (SqL.of (g23 _ _ h4)), (us.length : Int), by rw [List.length_map, l5], fun p hp => ⟨p, (us.length : Int), rfl, upd_same, by lia, by lia, fun tu ht => ?_⟩⟩
    have gq := (same_new hp (.rng 0 (us.length : Int))).trans (same_new ht (.tup (rangeV (us.length : Int).toNat)))
    refine ⟨tp, tu, 0, _, _, rfl, rfl, repTn (SqT.of (gq _ _ etp)), repTn (is := List.range us.length) (SqT.of (by rw [upd_same]; rfl)), by decide, fun b hb => ⟨_, rfl, ?_⟩⟩
    cases b with
    | true =>
     have e : js = List.range us.length := by
      have z := hb.mp rfl
      injection z with z
      exact dt_nats.mp (congrArg Dt.lst z)
     refine iteF ⟨g23.trans gq, fun i j k2 x' wd'' wd2 t hij e1' e2' e3' e4' e5' e6' => ?_, _, _, rfl⟩
     by_cases z : i = k /\ j = l
     ·obtain ⟨rfl, rfl⟩ := z
      rw [ex] at e1'
      cases e1'
      rw [ew] at e2'
      cases e2'
      have ek := (List.getElem?_inj (List.getElem?_eq_some_iff.mp ey).1 (lp.nd ff)).mp (ey.trans e4'.symm)
      subst ek
      rw [ew'] at e5'
      cases e5'
      rw [turned_uniq M ff lp ey ew' e6' tb]
      exact e
     ·exact R2 i j k2 x' wd'' wd2 t (by lia) e1' e2' e3' e4' e5' e6'
    | false =>
     refine iteT (q false _ (g23.trans gq) ⟨(fun z => nomatch z), fun R => ?_⟩)
     have e := R k l k' x wd wd' js ex ew hl' ey ew' tb
     have z := hb.mpr (by rw [e])
     cases z
  ·obtain ⟨g2, R2, o3, o4, rfl⟩ := p
   have el : (ts.length : Int).toNat = ts.length := Int.toNat_natCast _
   rw [el] at R2
   refine ⟨g2, fun i j k' x' wd'' wd' t hij e1' e2' e3' => ?_, _, _, _, rfl⟩
   exact R2 i j k' x' wd'' wd' t (by lia) e1' e2' e3'
 ·obtain ⟨g1, R1, o2, o3, o4, rfl⟩ := p
  have el : (c.length : Int).toNat = c.length := Int.toNat_natCast _
  rw [el] at R1
  exact q true _ g1 ⟨fun _ k l k' x wd wd' t e1 e2 e3 e4 e5 e6 => R1 k l k' x wd wd' t (.inl (List.getElem?_eq_some_iff.mp e1).1) e1 e2 e3 e4 e5 e6, fun _ => rfl⟩
theorem ok_law {T : Addr} (F : Fun K "law" "law" sLaw f fd) (c__law_machine : Callee P w K mg base "_law_machine" 3 ["_law_script"] (spMachine K)) (c_levels : Callee P w K mg base "levels" 18 ["machine"] (spLevels T (⟨46, 40, 46, 93⟩ : Pos))) (c_rests : Callee P w K mg base "rests" 15 ["machine", "level"] spRests) (c__law_due : Callee P w K mg base "_law_due" 11 ["_law_machine_here", "_law_level"] spDue) (c_level_group : Callee P w K mg base "level_group" 13 ["machine", "level"] spGroup) (m_len : mg "len" = none) (m_isinstance : mg "isinstance" = none) (m_bool : mg "bool" = none) : FnOk P w K mg base CX0 20 f fd ["_law_script"] (spLaw K) := by
 refine F.ok scLaw (fun vs H Q E h => ?_) (fun cdv A outer s H vs Q E hr h => ?_)
 ·obtain ⟨a, ns, rfl, _⟩ := h
  rfl
 obtain ⟨a, ns, rfl, hS, h63, hT, q⟩ := h
 have hu := hr.units
 refine ⟨_, (pss_cons (ps_set (i := 1) scLaw.nd rfl (Or.inl rfl) (pe_callD c__law_machine (hr.mono (by decide)) rfl (pa_cons (pv 0) pa_nil))) (pss_cons (ps_for PassesOwn.never rfl (pi_list (pe_callD c_levels (hr.mono (by decide)) rfl (pa_cons (pv 1) pa_nil))) (pg_name (i := 2) scLaw.nd rfl (Or.inl rfl)) (pss_cons (ps_set (i := 3) scLaw.nd rfl (Or.inl rfl) (pe_callD c_rests (hr.mono (by decide)) rfl (pl_at (pl_cons (pv 1) (pl_cons (pv 2) pl_nil rfl) rfl)))) (pss_cons (ps_if (PW.pt (pw_or (pt_not (pt_val (pe_callB call_isi rfl m_isinstance boot_isinstance (pl_at (pl_cons (pv 3) (pl_cons (pe_ty rfl m_bool boot_bool) pl_nil rfl) rfl))))) (pw_or1 (pt_cmpR op_ne (pv 3) (pe_callD c__law_due (hr.mono (by decide)) rfl (pl_at (pl_cons (pv 1) (pl_cons (pv 2) pl_nil rfl) rfl))) (nomark _))))) (pss_one (ps_ret pe_bl)) pss_nil) (pss_one (ps_if (pt_cmpR op_ne (pv 3) (pe_cmpR op_eq (pe_callB call_len_seq rfl m_len boot_len (pa_cons (pe_callD c_level_group (hr.mono (by decide)) rfl (pl_at (pl_cons (pv 1) (pl_cons (pv 2) pl_nil rfl) rfl))) pa_nil)) pe_int (nomark _)) (nomark _)) (pss_one (ps_ret pe_bl)) pss_nil))))) (pss_one (ps_ret pe_bl)))), ?_⟩
 refine ⟨_, rfl, a, ns, rfl, hS, fun m ts n H1 g1 M => ?_⟩
 have t1 := M.some1
 have t4 := M.few
 refine ⟨_, rfl, m, ts, n, rfl, M, hT.same g1, fun l as told fam ys H2 k2 T2 nl el ff od sub lim Lv nw ap nwl => ?_⟩
 have M2 := M.keeps k2
 have la := Lv.len
 let Pv : Nat -> L2.St -> Hp -> Prop := fun _ σ H' => Keeps H2 H' /\ Tabs H' /\ ∃ o2 o3, σ = [some (.ref a), some (.ref m), o2, o3]
 refine ⟨l, rfl, ⟨_, SqL.of el⟩, for_list (xs := as.map .ref) Pv ⟨Keeps.refl _, T2, none, none, rfl⟩ (fun i σ H' _ p => SqL.of (p.1 _ _ (noT_at el fun _ e => nomatch e))) (fun i v σ H3 hv p => ?_) (fun σ H3 p => q _)⟩
 obtain ⟨k3, T3, o2, o3, rfl⟩ := p
 rw [List.getElem?_map] at hv
 obtain ⟨lv, elv, rfl⟩ := Option.map_eq_some_iff.mp hv
 have li := (List.getElem?_eq_some_iff.mp elv).1
 obtain ⟨c, ec⟩ : ∃ c, told[i]? = some c := ⟨_, List.getElem?_eq_getElem (by lia)⟩
 obtain ⟨wds, lvh, lp⟩ := (Lv.is i lv c elv ec).lv (sub c (List.mem_of_getElem? ec))
 refine ⟨_, rfl, _, rfl, m, lv, ts, n, fam, c, _, wds, rfl, M2.keeps k3, ff, LvH.keeps lvh k3, lp, T3, fun b H4 k4 T4 hb => ?_⟩
 have k34 := k3.trans k4
 refine ⟨_, rfl, _, _, _, _, rfl, .bl _, isi_bool_bool, _, rfl, iteF ?_⟩
 refine ⟨_, rfl, _, rfl, _, rfl, m, lv, ts, n, fam, c, _, wds, rfl, M2.keeps k34, ff, LvH.keeps lvh k34, lp, fun b2 H5 g5 hb2 => ?_⟩
 have eb : b2 = b := Bool.eq_iff_iff.mpr (hb2.trans hb.symm)
 subst eb
 refine ⟨rfl, _, rfl, ?_⟩
 rw [decide_eq_true rfl]
 refine iteF ?_
 have k5 := k34.trans g5.keeps
 refine ⟨_, rfl, _, rfl, _, rfl, m, lv, ts, n, fam, c, _, wds, rfl, M2.keeps k5, ff, LvH.keeps lvh k5, lp, T4.same g5, fun l2 bs gs mk ws H6 k6 T6 nl2 el2 Tb pm up Mk TT => ?_⟩
 have lm : ∀ t ∈ mk, t.length = (tilesOf fam (c.headD [])).length := fun t ht => by
  obtain ⟨k, l, k', x, wd, wd', e1, e2, e3, e4, e5, e6⟩ := Mk.mem t ht
  exact e6.1
 obtain ⟨_, gr⟩ := group_rest lm pm TT
 rw [rest_makers M ff lp Mk, <- hb] at gr
 refine ⟨l2, _, rfl, .inl (SqL.of el2), rfl, rfl, _, rfl, ?_⟩
 have e : V.bl b2 = V.bl (decide (V.int (((bs.map V.ref).length : Nat) : Int) = V.int 1)) := by
  rw [List.length_map, Tb.len]
  congr 1
  rw [Bool.eq_iff_iff, <- gr, decide_eq_true_iff]
  exact ⟨fun z => by rw [z]; rfl, fun z => by injection z with z; lia⟩
 rw [decide_eq_true e]
 exact iteF ⟨k5.trans k6, T6, _, _, rfl⟩
end
theorem ln1 {α : Type} {P : List α -> Prop} (h : ∀ a0, P [a0]) : ∀ us : List α, us.length = 1 -> P us
 | [a0], _ => h a0
theorem ln2 {α : Type} {P : List α -> Prop} (h : ∀ a0 a1, P [a0, a1]) : ∀ us : List α, us.length = 2 -> P us
 | [a0, a1], _ => h a0 a1
theorem ln3 {α : Type} {P : List α -> Prop} (h : ∀ a0 a1 a2, P [a0, a1, a2]) : ∀ us : List α, us.length = 3 -> P us
 | [a0, a1, a2], _ => h a0 a1 a2
theorem ln4 {α : Type} {P : List α -> Prop} (h : ∀ a0 a1 a2 a3, P [a0, a1, a2, a3]) : ∀ us : List α, us.length = 4 -> P us
 | [a0, a1, a2, a3], _ => h a0 a1 a2 a3
set_option maxHeartbeats 0 in
theorem all_mk {l : W.OpenLaw} {w : World} {K : W.Frag} {h : Heap} {mg : Str -> Option Value} {fa f1 f2 f3 f4 f5 f6 f7 f8 f9 f10 f11 f12 f13 f14 f15 f16 f17 f18 f19 f20 f21 f22 f23 f24 f25 f26 f27 f28 f29 f30 f31 dD3 cL8 cL25 : Addr} (X : K.In h) (G : h.Ns mainGlobals mg) (hfa : mg "law" = some (.ref fa))
  {od1 an1 od2 an2 od3 an3 od4 an4 od5 an5 od6 an6 od7 an7 od8 an8 od9 an9 od10 an10 od11 an11 od12 an12 od13 an13 od14 an14 od15 an15 od16 an16 od17 an17 od18 an18 od19 an19 od20 an20 od21 an21 od22 an22 od23 an23 od24 an24 od25 an25 od26 an26 od27 an27 od28 an28 od29 an29 od30 an30 od31 an31 : Option Addr} {sl1 sl2 sl3 sl4 sl5 sl6 sl7 sl8 sl9 sl10 sl11 sl12 sl13 sl14 sl15 sl16 sl17 sl18 sl19 sl20 sl21 sl22 sl23 sl24 sl25 sl26 sl27 sl28 sl29 sl30 sl31 : Array (Option Value)} {oc1 kV1 dc1 pm1 cd1 ct1 oc2 kV2 dc2 pm2 cd2 ct2 oc3 kV3 dc3 pm3 cd3 ct3 oc4 kV4 dc4 pm4 cd4 ct4 oc5 kV5 dc5 pm5 cd5 ct5 oc6 kV6 dc6 pm6 cd6 ct6 oc7 kV7 dc7 pm7 cd7 ct7 oc8 kV8 dc8 pm8 ct8 oc9 kV9 dc9 pm9 cd9 ct9 oc10 kV10 dc10 pm10 cd10 ct10 oc11 kV11 dc11 pm11 cd11 ct11 oc12 kV12 dc12 pm12 cd12 ct12 oc13 kV13 dc13 pm13 cd13 ct13 oc14 kV14 dc14 pm14 cd14 ct14 oc15 kV15 dc15 pm15 cd15 ct15 oc16 kV16 dc16 pm16 cd16 ct16 oc17 kV17 dc17 pm17 cd17 ct17 oc18 kV18 dc18 pm18 cd18 ct18 oc19 kV19 dc19 pm19 cd19 ct19 oc20 kV20 dc20 pm20 cd20 ct20 oc21 kV21 dc21 pm21 cd21 ct21 oc22 kV22 dc22 pm22 cd22 ct22 oc23 kV23 dc23 pm23 cd23 ct23 oc24 kV24 dc24 pm24 cd24 ct24 oc25 kV25 dc25 pm25 ct25 oc26 kV26 dc26 pm26 cd26 ct26 oc27 kV27 dc27 pm27 cd27 ct27 oc28 kV28 dc28 pm28 cd28 ct28 oc29 kV29 dc29 pm29 cd29 ct29 oc30 kV30 dc30 pm30 cd30 ct30 oc31 kV31 dc31 pm31 cd31 ct31 : Value} {oD3 : Obj} {nD3 : Nat}
  (a1 : W.nsIn K mainGlobals "led" = some (some (.ref f1))) (l1 : K.lookup f1 = some ⟨oc1, od1, .func (W.fnOf "led" "led" (defArgs sLed) (defBody sLed) (defScope sLed) .none kV1 dc1 pm1 an1 cd1 ct1), sl1⟩) (c1 : W.codeIn K cd1 "led" = true) (k1 : W.keepIn K (.ref f1) = true)
  (a2 : W.nsIn K mainGlobals "refuse_more" = some (some (.ref f2))) (l2 : K.lookup f2 = some ⟨oc2, od2, .func (W.fnOf "refuse_more" "refuse_more" (defArgs sRefuseMore) (defBody sRefuseMore) (defScope sRefuseMore) .none kV2 dc2 pm2 an2 cd2 ct2), sl2⟩) (c2 : W.codeIn K cd2 "refuse_more" = true) (k2 : W.keepIn K (.ref f2) = true)
  (a3 : W.nsIn K mainGlobals "reached" = some (some (.ref f3))) (l3 : K.lookup f3 = some ⟨oc3, od3, .func (W.fnOf "reached" "reached" (defArgs sReached) (defBody sReached) (defScope sReached) (.ref dD3) kV3 dc3 pm3 an3 cd3 ct3), sl3⟩) (c3 : W.codeIn K cd3 "reached" = true) (k3 : W.keepIn K (.ref f3) = true)
  (lD3 : K.lookup dD3 = some oD3) (qD3 : oD3.data = .seq ([.none] : List Value).toArray nD3)
  (a4 : W.nsIn K mainGlobals "place_of" = some (some (.ref f4))) (l4 : K.lookup f4 = some ⟨oc4, od4, .func (W.fnOf "place_of" "place_of" (defArgs sPlaceOf) (defBody sPlaceOf) (defScope sPlaceOf) .none kV4 dc4 pm4 an4 cd4 ct4), sl4⟩) (c4 : W.codeIn K cd4 "place_of" = true) (k4 : W.keepIn K (.ref f4) = true)
  (a5 : W.nsIn K mainGlobals "in_order" = some (some (.ref f5))) (l5 : K.lookup f5 = some ⟨oc5, od5, .func (W.fnOf "in_order" "in_order" (defArgs sInOrder) (defBody sInOrder) (defScope sInOrder) .none kV5 dc5 pm5 an5 cd5 ct5), sl5⟩) (c5 : W.codeIn K cd5 "in_order" = true) (k5 : W.keepIn K (.ref f5) = true)
  (a6 : W.nsIn K mainGlobals "lies_in" = some (some (.ref f6))) (l6 : K.lookup f6 = some ⟨oc6, od6, .func (W.fnOf "lies_in" "lies_in" (defArgs sLiesIn) (defBody sLiesIn) (defScope sLiesIn) .none kV6 dc6 pm6 an6 cd6 ct6), sl6⟩) (c6 : W.codeIn K cd6 "lies_in" = true) (k6 : W.keepIn K (.ref f6) = true)
  (a7 : W.nsIn K mainGlobals "carried" = some (some (.ref f7))) (l7 : K.lookup f7 = some ⟨oc7, od7, .func (W.fnOf "carried" "carried" (defArgs sCarried) (defBody sCarried) (defScope sCarried) .none kV7 dc7 pm7 an7 cd7 ct7), sl7⟩) (c7 : W.codeIn K cd7 "carried" = true) (k7 : W.keepIn K (.ref f7) = true)
  (a8 : W.nsIn K mainGlobals "sets_reached" = some (some (.ref f8))) (l8 : K.lookup f8 = some ⟨oc8, od8, .func (W.fnOf "sets_reached" "sets_reached" (defArgs sSetsReached) (defBody sSetsReached) (defScope sSetsReached) .none kV8 dc8 pm8 an8 (.ref cL8) ct8), sl8⟩) (c8 : W.codeIn K (.ref cL8) "sets_reached" = true) (k8 : W.keepIn K (.ref f8) = true)
  (hd8 : W.codeHdIn K cL8 94 = true)
  (a9 : W.nsIn K mainGlobals "still" = some (some (.ref f9))) (l9 : K.lookup f9 = some ⟨oc9, od9, .func (W.fnOf "still" "still" (defArgs sStill) (defBody sStill) (defScope sStill) .none kV9 dc9 pm9 an9 cd9 ct9), sl9⟩) (c9 : W.codeIn K cd9 "still" = true) (k9 : W.keepIn K (.ref f9) = true)
  (a10 : W.nsIn K mainGlobals "behind" = some (some (.ref f10))) (l10 : K.lookup f10 = some ⟨oc10, od10, .func (W.fnOf "behind" "behind" (defArgs sBehind) (defBody sBehind) (defScope sBehind) .none kV10 dc10 pm10 an10 cd10 ct10), sl10⟩) (c10 : W.codeIn K cd10 "behind" = true) (k10 : W.keepIn K (.ref f10) = true)
  (a11 : W.nsIn K mainGlobals "pictures" = some (some (.ref f11))) (l11 : K.lookup f11 = some ⟨oc11, od11, .func (W.fnOf "pictures" "pictures" (defArgs sPictures) (defBody sPictures) (defScope sPictures) .none kV11 dc11 pm11 an11 cd11 ct11), sl11⟩) (c11 : W.codeIn K cd11 "pictures" = true) (k11 : W.keepIn K (.ref f11) = true)
  (a12 : W.nsIn K mainGlobals "family" = some (some (.ref f12))) (l12 : K.lookup f12 = some ⟨oc12, od12, .func (W.fnOf "family" "family" (defArgs sFamily) (defBody sFamily) (defScope sFamily) .none kV12 dc12 pm12 an12 cd12 ct12), sl12⟩) (c12 : W.codeIn K cd12 "family" = true) (k12 : W.keepIn K (.ref f12) = true)
  (a13 : W.nsIn K mainGlobals "is_covered" = some (some (.ref f13))) (l13 : K.lookup f13 = some ⟨oc13, od13, .func (W.fnOf "is_covered" "is_covered" (defArgs sIsCovered) (defBody sIsCovered) (defScope sIsCovered) .none kV13 dc13 pm13 an13 cd13 ct13), sl13⟩) (c13 : W.codeIn K cd13 "is_covered" = true) (k13 : W.keepIn K (.ref f13) = true)
  (a14 : W.nsIn K mainGlobals "tiles" = some (some (.ref f14))) (l14 : K.lookup f14 = some ⟨oc14, od14, .func (W.fnOf "tiles" "tiles" (defArgs sTiles) (defBody sTiles) (defScope sTiles) .none kV14 dc14 pm14 an14 cd14 ct14), sl14⟩) (c14 : W.codeIn K cd14 "tiles" = true) (k14 : W.keepIn K (.ref f14) = true)
  (a15 : W.nsIn K mainGlobals "words_between" = some (some (.ref f15))) (l15 : K.lookup f15 = some ⟨oc15, od15, .func (W.fnOf "words_between" "words_between" (defArgs sWordsBetween) (defBody sWordsBetween) (defScope sWordsBetween) .none kV15 dc15 pm15 an15 cd15 ct15), sl15⟩) (c15 : W.codeIn K cd15 "words_between" = true) (k15 : W.keepIn K (.ref f15) = true)
  (a16 : W.nsIn K mainGlobals "alike_sets" = some (some (.ref f16))) (l16 : K.lookup f16 = some ⟨oc16, od16, .func (W.fnOf "alike_sets" "alike_sets" (defArgs sAlikeSets) (defBody sAlikeSets) (defScope sAlikeSets) .none kV16 dc16 pm16 an16 cd16 ct16), sl16⟩) (c16 : W.codeIn K cd16 "alike_sets" = true) (k16 : W.keepIn K (.ref f16) = true)
  (a17 : W.nsIn K mainGlobals "sets_of_levels" = some (some (.ref f17))) (l17 : K.lookup f17 = some ⟨oc17, od17, .func (W.fnOf "sets_of_levels" "sets_of_levels" (defArgs sSetsOfLevels) (defBody sSetsOfLevels) (defScope sSetsOfLevels) .none kV17 dc17 pm17 an17 cd17 ct17), sl17⟩) (c17 : W.codeIn K cd17 "sets_of_levels" = true) (k17 : W.keepIn K (.ref f17) = true)
  (a18 : W.nsIn K mainGlobals "is_led_to" = some (some (.ref f18))) (l18 : K.lookup f18 = some ⟨oc18, od18, .func (W.fnOf "is_led_to" "is_led_to" (defArgs sIsLedTo) (defBody sIsLedTo) (defScope sIsLedTo) .none kV18 dc18 pm18 an18 cd18 ct18), sl18⟩) (c18 : W.codeIn K cd18 "is_led_to" = true) (k18 : W.keepIn K (.ref f18) = true)
  (a19 : W.nsIn K mainGlobals "levels_in_order" = some (some (.ref f19))) (l19 : K.lookup f19 = some ⟨oc19, od19, .func (W.fnOf "levels_in_order" "levels_in_order" (defArgs sLevelsInOrder) (defBody sLevelsInOrder) (defScope sLevelsInOrder) .none kV19 dc19 pm19 an19 cd19 ct19), sl19⟩) (c19 : W.codeIn K cd19 "levels_in_order" = true) (k19 : W.keepIn K (.ref f19) = true)
  (a20 : W.nsIn K mainGlobals "levels" = some (some (.ref f20))) (l20 : K.lookup f20 = some ⟨oc20, od20, .func (W.fnOf "levels" "levels" (defArgs sLevels) (defBody sLevels) (defScope sLevels) .none kV20 dc20 pm20 an20 cd20 ct20), sl20⟩) (c20 : W.codeIn K cd20 "levels" = true) (k20 : W.keepIn K (.ref f20) = true)
  (a21 : W.nsIn K mainGlobals "tile" = some (some (.ref f21))) (l21 : K.lookup f21 = some ⟨oc21, od21, .func (W.fnOf "tile" "tile" (defArgs sTile) (defBody sTile) (defScope sTile) .none kV21 dc21 pm21 an21 cd21 ct21), sl21⟩) (c21 : W.codeIn K cd21 "tile" = true) (k21 : W.keepIn K (.ref f21) = true)
  (a22 : W.nsIn K mainGlobals "tiles_of_set" = some (some (.ref f22))) (l22 : K.lookup f22 = some ⟨oc22, od22, .func (W.fnOf "tiles_of_set" "tiles_of_set" (defArgs sTilesOfSet) (defBody sTilesOfSet) (defScope sTilesOfSet) .none kV22 dc22 pm22 an22 cd22 ct22), sl22⟩) (c22 : W.codeIn K cd22 "tiles_of_set" = true) (k22 : W.keepIn K (.ref f22) = true)
  (a23 : W.nsIn K mainGlobals "tiles_turned" = some (some (.ref f23))) (l23 : K.lookup f23 = some ⟨oc23, od23, .func (W.fnOf "tiles_turned" "tiles_turned" (defArgs sTilesTurned) (defBody sTilesTurned) (defScope sTilesTurned) .none kV23 dc23 pm23 an23 cd23 ct23), sl23⟩) (c23 : W.codeIn K cd23 "tiles_turned" = true) (k23 : W.keepIn K (.ref f23) = true)
  (a24 : W.nsIn K mainGlobals "all_tiles_turned" = some (some (.ref f24))) (l24 : K.lookup f24 = some ⟨oc24, od24, .func (W.fnOf "all_tiles_turned" "all_tiles_turned" (defArgs sAllTilesTurned) (defBody sAllTilesTurned) (defScope sAllTilesTurned) .none kV24 dc24 pm24 an24 cd24 ct24), sl24⟩) (c24 : W.codeIn K cd24 "all_tiles_turned" = true) (k24 : W.keepIn K (.ref f24) = true)
  (a25 : W.nsIn K mainGlobals "level_group" = some (some (.ref f25))) (l25 : K.lookup f25 = some ⟨oc25, od25, .func (W.fnOf "level_group" "level_group" (defArgs sLevelGroup) (defBody sLevelGroup) (defScope sLevelGroup) .none kV25 dc25 pm25 an25 (.ref cL25) ct25), sl25⟩) (c25 : W.codeIn K (.ref cL25) "level_group" = true) (k25 : W.keepIn K (.ref f25) = true)
  (hd25 : W.codeHdIn K cL25 193 = true)
  (a26 : W.nsIn K mainGlobals "rests" = some (some (.ref f26))) (l26 : K.lookup f26 = some ⟨oc26, od26, .func (W.fnOf "rests" "rests" (defArgs sRests) (defBody sRests) (defScope sRests) .none kV26 dc26 pm26 an26 cd26 ct26), sl26⟩) (c26 : W.codeIn K cd26 "rests" = true) (k26 : W.keepIn K (.ref f26) = true)
  (a27 : W.nsIn K mainGlobals "_law_cell_at" = some (some (.ref f27))) (l27 : K.lookup f27 = some ⟨oc27, od27, .func (W.fnOf "_law_cell_at" "_law_cell_at" (defArgs sLawCellAt) (defBody sLawCellAt) (defScope sLawCellAt) .none kV27 dc27 pm27 an27 cd27 ct27), sl27⟩) (c27 : W.codeIn K cd27 "_law_cell_at" = true) (k27 : W.keepIn K (.ref f27) = true)
  (a28 : W.nsIn K mainGlobals "_law_turn" = some (some (.ref f28))) (l28 : K.lookup f28 = some ⟨oc28, od28, .func (W.fnOf "_law_turn" "_law_turn" (defArgs sLawTurn) (defBody sLawTurn) (defScope sLawTurn) .none kV28 dc28 pm28 an28 cd28 ct28), sl28⟩) (c28 : W.codeIn K cd28 "_law_turn" = true) (k28 : W.keepIn K (.ref f28) = true)
  (a29 : W.nsIn K mainGlobals "_law_machine" = some (some (.ref f29))) (l29 : K.lookup f29 = some ⟨oc29, od29, .func (W.fnOf "_law_machine" "_law_machine" (defArgs sLawMachine) (defBody sLawMachine) (defScope sLawMachine) .none kV29 dc29 pm29 an29 cd29 ct29), sl29⟩) (c29 : W.codeIn K cd29 "_law_machine" = true) (k29 : W.keepIn K (.ref f29) = true)
  (a30 : W.nsIn K mainGlobals "_law_due" = some (some (.ref f30))) (l30 : K.lookup f30 = some ⟨oc30, od30, .func (W.fnOf "_law_due" "_law_due" (defArgs sLawDue) (defBody sLawDue) (defScope sLawDue) .none kV30 dc30 pm30 an30 cd30 ct30), sl30⟩) (c30 : W.codeIn K cd30 "_law_due" = true) (k30 : W.keepIn K (.ref f30) = true)
  (a31 : W.nsIn K mainGlobals "law" = some (some (.ref f31))) (l31 : K.lookup f31 = some ⟨oc31, od31, .func (W.fnOf "law" "law" (defArgs sLaw) (defBody sLaw) (defScope sLaw) .none kV31 dc31 pm31 an31 cd31 ct31), sl31⟩) (c31 : W.codeIn K cd31 "law" = true) (k31 : W.keepIn K (.ref f31) = true)
  (z_len : W.nsIn K mainGlobals "len" = some none) (z_range : W.nsIn K mainGlobals "range" = some none) (z_tuple : W.nsIn K mainGlobals "tuple" = some none) (z_list : W.nsIn K mainGlobals "list" = some none) (z_sorted : W.nsIn K mainGlobals "sorted" = some none) (z_set : W.nsIn K mainGlobals "set" = some none) (z_all : W.nsIn K mainGlobals "all" = some none) (z_any : W.nsIn K mainGlobals "any" = some none) (z_isinstance : W.nsIn K mainGlobals "isinstance" = some none) (z_bool : W.nsIn K mainGlobals "bool" = some none) :
  ∃ fd : FuncData, (∀ (s : Shared) (v : Value), BindsTo s fd ⟨[v], []⟩ [("_law_script", v)]) /\ ∀ base : Heap, K.In base -> base.Ns mainGlobals mg -> BMain mg base -> FnOk l.prog w K mg base CX0 20 fa fd ["_law_script"] (spLaw K) := by
 have e := hfa.symm.trans (W.mg_of X G a31)
 cases e
 have F1 := fun_mk (st := sLed) l1 c1 k1
 have F2 := fun_mk (st := sRefuseMore) l2 c2 k2
 have F3 : DefAt K "reached" sReached f3 (W.fnOf "reached" "reached" (defArgs sReached) (defBody sReached) (defScope sReached) (.ref dD3) kV3 dc3 pm3 an3 cd3 ct3) (.ref dD3) cd3 := ⟨c3, ⟨_, _, _, _, _, rfl⟩, _, _, _, l3⟩
 have F4 := fun_mk (st := sPlaceOf) l4 c4 k4
 have F5 := fun_mk (st := sInOrder) l5 c5 k5
 have F6 := fun_mk (st := sLiesIn) l6 c6 k6
 have F7 := fun_mk (st := sCarried) l7 c7 k7
 have F8 : DefAt K "sets_reached" sSetsReached f8 (W.fnOf "sets_reached" "sets_reached" (defArgs sSetsReached) (defBody sSetsReached) (defScope sSetsReached) .none kV8 dc8 pm8 an8 (.ref cL8) ct8) .none (.ref cL8) := ⟨c8, ⟨_, _, _, _, _, rfl⟩, _, _, _, l8⟩
 have F9 := fun_mk (st := sStill) l9 c9 k9
 have F10 := fun_mk (st := sBehind) l10 c10 k10
 have F11 := fun_mk (st := sPictures) l11 c11 k11
 have F12 := fun_mk (st := sFamily) l12 c12 k12
 have F13 := fun_mk (st := sIsCovered) l13 c13 k13
 have F14 := fun_mk (st := sTiles) l14 c14 k14
 have F15 := fun_mk (st := sWordsBetween) l15 c15 k15
 have F16 := fun_mk (st := sAlikeSets) l16 c16 k16
 have F17 := fun_mk (st := sSetsOfLevels) l17 c17 k17
 have F18 := fun_mk (st := sIsLedTo) l18 c18 k18
 have F19 := fun_mk (st := sLevelsInOrder) l19 c19 k19
 have F20 := fun_mk (st := sLevels) l20 c20 k20
 have F21 := fun_mk (st := sTile) l21 c21 k21
 have F22 := fun_mk (st := sTilesOfSet) l22 c22 k22
 have F23 := fun_mk (st := sTilesTurned) l23 c23 k23
 have F24 := fun_mk (st := sAllTilesTurned) l24 c24 k24
 have F25 : DefAt K "level_group" sLevelGroup f25 (W.fnOf "level_group" "level_group" (defArgs sLevelGroup) (defBody sLevelGroup) (defScope sLevelGroup) .none kV25 dc25 pm25 an25 (.ref cL25) ct25) .none (.ref cL25) := ⟨c25, ⟨_, _, _, _, _, rfl⟩, _, _, _, l25⟩
 have F26 := fun_mk (st := sRests) l26 c26 k26
 have F27 := fun_mk (st := sLawCellAt) l27 c27 k27
 have F28 := fun_mk (st := sLawTurn) l28 c28 k28
 have F29 := fun_mk (st := sLawMachine) l29 c29 k29
 have F30 := fun_mk (st := sLawDue) l30 c30 k30
 have F31 := fun_mk (st := sLaw) l31 c31 k31
 have m_len := W.mg_none_of X G z_len
 have m_range := W.mg_none_of X G z_range
 have m_tuple := W.mg_none_of X G z_tuple
 have m_list := W.mg_none_of X G z_list
 have m_sorted := W.mg_none_of X G z_sorted
 have m_set := W.mg_none_of X G z_set
 have m_all := W.mg_none_of X G z_all
 have m_any := W.mg_none_of X G z_any
 have m_isinstance := W.mg_none_of X G z_isinstance
 have m_bool := W.mg_none_of X G z_bool
 refine ⟨W.fnOf "law" "law" (defArgs sLaw) (defBody sLaw) (defScope sLaw) .none kV31 dc31 pm31 an31 cd31 ct31, fun s v => .of_eq rfl, fun base KB _ hbm => ?_⟩
 have hC_sets_reached := W.codeHd_of_K KB hd8
 have hC_level_group := W.codeHd_of_K KB hd25
 have c__law_cell_at : Callee l.prog w K mg base "_law_cell_at" _ _ _ := ⟨_, _, ok_cell_at (P := l.prog) (w := w) (base := base) F27 m_len, W.mg_of X G a27, k27, F27.binds (ps := ["_law_script", "_law_k"]) fun _ _ _ _ _ _ => ln2 (fun _ _ => rfl)⟩
 have c__law_turn : Callee l.prog w K mg base "_law_turn" _ _ _ := ⟨_, _, ok_turn (P := l.prog) (w := w) (base := base) F28 m_range m_tuple m_list, W.mg_of X G a28, k28, F28.binds (ps := ["_law_cell", "_law_rooms"]) fun _ _ _ _ _ _ => ln2 (fun _ _ => rfl)⟩
 have c__law_machine : Callee l.prog w K mg base "_law_machine" _ _ _ := ⟨_, _, ok_machine (P := l.prog) (w := w) (base := base) F29 c__law_cell_at c__law_turn m_range m_tuple, W.mg_of X G a29, k29, F29.binds (ps := ["_law_script"]) fun _ _ _ _ _ _ => ln1 (fun _ => rfl)⟩
 have c_led : Callee l.prog w K mg base "led" _ _ _ := ⟨_, _, ok_led (P := l.prog) (w := w) (base := base) F1, W.mg_of X G a1, k1, F1.binds (ps := ["machine", "room", "word"]) fun _ _ _ _ _ _ => ln3 (fun _ _ _ => rfl)⟩
 have c_place_of : Callee l.prog w K mg base "place_of" _ _ _ := ⟨_, _, ok_place (P := l.prog) (w := w) (base := base) F4 m_len, W.mg_of X G a4, k4, F4.binds (ps := ["rooms"]) fun _ _ _ _ _ _ => ln1 (fun _ => rfl)⟩
 have c_in_order : Callee l.prog w K mg base "in_order" _ _ _ := ⟨_, _, ok_in_order (P := l.prog) (w := w) (base := base) F5 c_place_of m_sorted, W.mg_of X G a5, k5, F5.binds (ps := ["sets"]) fun _ _ _ _ _ _ => ln1 (fun _ => rfl)⟩
 have c_carried : Callee l.prog w K mg base "carried" _ _ _ := ⟨_, _, ok_carried (P := l.prog) (w := w) (base := base) F7 c_led m_tuple m_sorted m_set, W.mg_of X G a7, k7, F7.binds (ps := ["machine", "rooms", "word"]) fun _ _ _ _ _ _ => ln3 (fun _ _ _ => rfl)⟩
 have c_refuse_more : Callee l.prog w K mg base "refuse_more" _ _ _ := ⟨_, _, ok_refuse_more (P := l.prog) (w := w) (base := base) F2 m_len, W.mg_of X G a2, k2, F2.binds (ps := ["things", "most"]) fun _ _ _ _ _ _ => ln2 (fun _ _ => rfl)⟩
 have c_reached : CalleeD l.prog w K mg base "reached" _ _ _ [.non] := ⟨_, _, [.none], ok_reached (P := l.prog) (w := w) (base := base) F3 c_refuse_more m_range, W.mg_of X G a3, k3, (fun s us KX hl => by have hl3 : us.length = 3 := (by simpa using hl); clear hl; revert us; exact ln3 (fun _ _ _ => BindsTo.of_defaults rfl (KX _ _ lD3) qD3 rfl rfl)), .cons rfl .nil⟩
 have c_sets_reached : Callee l.prog w K mg base "sets_reached" _ _ _ := ⟨_, _, ok_sets_reached (P := l.prog) (w := w) (base := base) F8 hC_sets_reached hbm hqT0 c_carried c_reached m_len, W.mg_of X G a8, k8, .all (ln2 (fun _ _ => rfl))⟩
 have c_still : Callee l.prog w K mg base "still" _ _ _ := ⟨_, _, ok_still (P := l.prog) (w := w) (base := base) F9 m_tuple m_range, W.mg_of X G a9, k9, F9.binds (ps := ["rooms"]) fun _ _ _ _ _ _ => ln1 (fun _ => rfl)⟩
 have c_behind : Callee l.prog w K mg base "behind" _ _ _ := ⟨_, _, ok_behind (P := l.prog) (w := w) (base := base) F10 m_tuple, W.mg_of X G a10, k10, F10.binds (ps := ["one", "other"]) fun _ _ _ _ _ _ => ln2 (fun _ _ => rfl)⟩
 have c_pictures : Callee l.prog w K mg base "pictures" _ _ _ := ⟨_, _, ok_pictures (P := l.prog) (w := w) (base := base) F11 c_still c_sets_reached m_len m_list, W.mg_of X G a11, k11, F11.binds (ps := ["machine"]) fun _ _ _ _ _ _ => ln1 (fun _ => rfl)⟩
 have c_family : Callee l.prog w K mg base "family" _ _ _ := ⟨_, _, ok_family (P := l.prog) (w := w) (base := base) F12 c_pictures c_in_order m_len m_range, W.mg_of X G a12, k12, F12.binds (ps := ["machine"]) fun _ _ _ _ _ _ => ln1 (fun _ => rfl)⟩
 have c_lies_in : Callee l.prog w K mg base "lies_in" _ _ _ := ⟨_, _, ok_lies_in (P := l.prog) (w := w) (base := base) F6 m_all, W.mg_of X G a6, k6, F6.binds (ps := ["one", "other"]) fun _ _ _ _ _ _ => ln2 (fun _ _ => rfl)⟩
 have c_is_covered : Callee l.prog w K mg base "is_covered" _ _ _ := ⟨_, _, ok_covered (P := l.prog) (w := w) (base := base) F13 c_lies_in m_any, W.mg_of X G a13, k13, F13.binds (ps := ["part", "sets"]) fun _ _ _ _ _ _ => ln2 (fun _ _ => rfl)⟩
 have c_tiles : Callee l.prog w K mg base "tiles" _ _ _ := ⟨_, _, ok_tiles (P := l.prog) (w := w) (base := base) F14 c_family c_lies_in c_is_covered, W.mg_of X G a14, k14, F14.binds (ps := ["machine", "rooms"]) fun _ _ _ _ _ _ => ln2 (fun _ _ => rfl)⟩
 have c_words_between : Callee l.prog w K mg base "words_between" _ _ _ := ⟨_, _, ok_words_between (P := l.prog) (w := w) (base := base) F15 c_family c_sets_reached m_len, W.mg_of X G a15, k15, F15.binds (ps := ["machine"]) fun _ _ _ _ _ _ => ln1 (fun _ => rfl)⟩
 have c_alike_sets : Callee l.prog w K mg base "alike_sets" _ _ _ := ⟨_, _, ok_alike (P := l.prog) (w := w) (base := base) F16, W.mg_of X G a16, k16, F16.binds (ps := ["words", "rooms"]) fun _ _ _ _ _ _ => ln2 (fun _ _ => rfl)⟩
 have c_sets_of_levels : Callee l.prog w K mg base "sets_of_levels" _ _ _ := ⟨_, _, ok_sets_of (P := l.prog) (w := w) (base := base) F17 c_alike_sets, W.mg_of X G a17, k17, F17.binds (ps := ["words"]) fun _ _ _ _ _ _ => ln1 (fun _ => rfl)⟩
 have c_is_led_to : Callee l.prog w K mg base "is_led_to" _ _ _ := ⟨_, _, ok_is_led_to (P := l.prog) (w := w) (base := base) F18 m_any, W.mg_of X G a18, k18, F18.binds (ps := ["words", "sets", "waiting"]) fun _ _ _ _ _ _ => ln3 (fun _ _ _ => rfl)⟩
 have c_levels_in_order : Callee l.prog w K mg base "levels_in_order" _ _ _ := ⟨_, _, ok_levels_in_order (P := l.prog) (w := w) (base := base) F19 c_is_led_to, W.mg_of X G a19, k19, F19.binds (ps := ["words", "waiting"]) fun _ _ _ _ _ _ => ln2 (fun _ _ => rfl)⟩
 have c_levels : Callee l.prog w K mg base "levels" _ _ _ := ⟨_, _, ok_levels (P := l.prog) (w := w) (base := base) F20 c_words_between c_sets_of_levels c_levels_in_order c_tiles, W.mg_of X G a20, k20, F20.binds (ps := ["machine"]) fun _ _ _ _ _ _ => ln1 (fun _ => rfl)⟩
 have c_tile : Callee l.prog w K mg base "tile" _ _ _ := ⟨_, _, ok_tile (P := l.prog) (w := w) (base := base) F21 c_carried, W.mg_of X G a21, k21, F21.binds (ps := ["machine", "level", "k", "j"]) fun _ _ _ _ _ _ => ln4 (fun _ _ _ _ => rfl)⟩
 have c_tiles_of_set : Callee l.prog w K mg base "tiles_of_set" _ _ _ := ⟨_, _, ok_tiles_of_set (P := l.prog) (w := w) (base := base) F22 c_tile m_len m_range, W.mg_of X G a22, k22, F22.binds (ps := ["machine", "level", "k"]) fun _ _ _ _ _ _ => ln3 (fun _ _ _ => rfl)⟩
 have c_tiles_turned : Callee l.prog w K mg base "tiles_turned" _ _ _ := ⟨_, _, ok_tiles_turned (P := l.prog) (w := w) (base := base) F23 c_carried c_tiles_of_set m_tuple, W.mg_of X G a23, k23, F23.binds (ps := ["machine", "level", "k", "letter"]) fun _ _ _ _ _ _ => ln4 (fun _ _ _ _ => rfl)⟩
 have c_all_tiles_turned : Callee l.prog w K mg base "all_tiles_turned" _ _ _ := ⟨_, _, ok_all_turned (P := l.prog) (w := w) (base := base) F24 c_tiles_turned m_len m_range, W.mg_of X G a24, k24, F24.binds (ps := ["machine", "level"]) fun _ _ _ _ _ _ => ln2 (fun _ _ => rfl)⟩
 have c_level_group : Callee l.prog w K mg base "level_group" _ _ _ := ⟨_, _, ok_level_group (P := l.prog) (w := w) (base := base) F25 hC_level_group hbm hqT1 c_all_tiles_turned c_still c_behind c_reached m_len m_sorted, W.mg_of X G a25, k25, .all (ln2 (fun _ _ => rfl))⟩
 have c_rests : Callee l.prog w K mg base "rests" _ _ _ := ⟨_, _, ok_rests (P := l.prog) (w := w) (base := base) F26 c_level_group c_still m_len, W.mg_of X G a26, k26, F26.binds (ps := ["machine", "level"]) fun _ _ _ _ _ _ => ln2 (fun _ _ => rfl)⟩
 have c__law_due : Callee l.prog w K mg base "_law_due" _ _ _ := ⟨_, _, ok_due (P := l.prog) (w := w) (base := base) F30 c_tiles_turned m_len m_range m_tuple, W.mg_of X G a30, k30, F30.binds (ps := ["_law_machine_here", "_law_level"]) fun _ _ _ _ _ _ => ln2 (fun _ _ => rfl)⟩
 exact ok_law (P := l.prog) (w := w) (base := base) F31 c__law_machine c_levels c_rests c__law_due c_level_group m_len m_isinstance m_bool
def tabsW : List (Str × Addr) := [("sets_reached", 94), ("level_group", 193)]
theorem walk {l : PySem.W.OpenLaw} {q : Program} {loose : List Str} {XP : (Str -> Option Value) -> Heap -> Prop} {YP : World -> Heap -> Prop} {d : DefRec} {K : Params -> W.Frag} (hn : l.most = some 63) (hdf : d.params.defaults = [])
  (hY : ∀ (w : World) (h : Heap), YP w h -> (K w.params).In h) (hT : ∀ w : World, ∀ t ∈ tabsW, (K w.params).lookup t.2 = none /\ (∃ c, PySem.W.tabIn (K w.params) t.1 = some (c, t.2)) /\ ∃ e, (recsOf q).find? (fun r => r.name == t.1) = some e)
  (F : ∀ (w : World) (mg : Str -> Option Value) (fa : Addr) (h : Heap), (K w.params).In h -> h.Ns mainGlobals mg -> mg d.name = some (.ref fa) ->
   ∃ fd : FuncData, (∀ (s : Shared) (u : Value), BindsTo s fd ⟨[u], []⟩ [("_law_script", u)]) /\ ∀ base : Heap, (K w.params).In base -> base.Ns mainGlobals mg -> BMain mg base -> FnOk l.prog w (K w.params) mg base CX0 20 fa fd ["_law_script"] (spLaw (K w.params))) :
  PySem.W.WalkO q loose XP YP l.row.toRowW d [] (fun f vs => PySem.call f vs) :=
 L2.walk_ofT (n := 63) (k := 20) (x := "_law_script") (tabs := tabsW) (sp := fun w => spLaw (K w.params)) hn (by decide) hdf ⟨rfl, by decide, by decide⟩ hY hT F fun w H a ns hl ht hS => ⟨a, ns, rfl, hS, hl, (fun q hq => by
  have z : q.2.2 ∈ tabsW.map (·.2) := (show tabsL.map (·.2.2) = tabsW.map (·.2) from rfl) ▸ List.mem_map_of_mem hq
  obtain ⟨t, ht2, e⟩ := List.mem_map.mp z
  rw [<- e]
  exact .inl (ht t ht2)), fun _ => rfl⟩
end My
open PySem PySem.W PyProof.Rows
set_option maxRecDepth 100000 in
set_option maxHeartbeats 0 in
theorem PySem.Challenge.cw_cascade_k43_levels_that_rest_holds : PySem.Challenge.rw_cascade_k43_levels_that_rest.Holds := by
 w_on; o_law; k_head; (case hw => w_witness2)
 k_fill
 refine' My.walk (l := PySem.Challenge.rw_cascade_k43_levels_that_rest) rfl rfl (fun w h Y => PySem.W.km_in_of Y) ?hT ?F
 case hT =>
  intro w t ht
  simp only [My.tabsW, List.mem_cons, List.not_mem_nil, or_false] at ht
  rcases ht with rfl | rfl
  ·exact ⟨by kernel_rfl, ⟨98, by kernel_rfl⟩, _, rfl⟩
  ·exact ⟨by kernel_rfl, ⟨197, by kernel_rfl⟩, _, rfl⟩
 case F =>
  intro w mg fa h KX G hmg
  refine' My.all_mk KX G hmg ?a1 ?l1 ?c1 ?k1 ?a2 ?l2 ?c2 ?k2 ?a3 ?l3 ?c3 ?k3 ?lD3 ?qD3 ?a4 ?l4 ?c4 ?k4 ?a5 ?l5 ?c5 ?k5 ?a6 ?l6 ?c6 ?k6 ?a7 ?l7 ?c7 ?k7 ?a8 ?l8 ?c8 ?k8 ?hd8 ?a9 ?l9 ?c9 ?k9 ?a10 ?l10 ?c10 ?k10 ?a11 ?l11 ?c11 ?k11 ?a12 ?l12 ?c12 ?k12 ?a13 ?l13 ?c13 ?k13 ?a14 ?l14 ?c14 ?k14 ?a15 ?l15 ?c15 ?k15 ?a16 ?l16 ?c16 ?k16 ?a17 ?l17 ?c17 ?k17 ?a18 ?l18 ?c18 ?k18 ?a19 ?l19 ?c19 ?k19 ?a20 ?l20 ?c20 ?k20 ?a21 ?l21 ?c21 ?k21 ?a22 ?l22 ?c22 ?k22 ?a23 ?l23 ?c23 ?k23 ?a24 ?l24 ?c24 ?k24 ?a25 ?l25 ?c25 ?k25 ?hd25 ?a26 ?l26 ?c26 ?k26 ?a27 ?l27 ?c27 ?k27 ?a28 ?l28 ?c28 ?k28 ?a29 ?l29 ?c29 ?k29 ?a30 ?l30 ?c30 ?k30 ?a31 ?l31 ?c31 ?k31   ?z0 ?z1 ?z2 ?z3 ?z4 ?z5 ?z6 ?z7 ?z8 ?z9
  (case a1 => k_is); (case l1 => k_is); (case c1 => k_is); (case k1 => k_is)
  (case a2 => k_is); (case l2 => k_is); (case c2 => k_is); (case k2 => k_is)
  (case a3 => k_is); (case l3 => k_is); (case c3 => k_is); (case k3 => k_is)
  (case lD3 => k_is); (case qD3 => rfl)
  (case a4 => k_is); (case l4 => k_is); (case c4 => k_is); (case k4 => k_is)
  (case a5 => k_is); (case l5 => k_is); (case c5 => k_is); (case k5 => k_is)
  (case a6 => k_is); (case l6 => k_is); (case c6 => k_is); (case k6 => k_is)
  (case a7 => k_is); (case l7 => k_is); (case c7 => k_is); (case k7 => k_is)
  (case a8 => k_is); (case l8 => k_is); (case c8 => k_is); (case k8 => k_is)
  (case hd8 => kernel_rfl)
  (case a9 => k_is); (case l9 => k_is); (case c9 => k_is); (case k9 => k_is)
  (case a10 => k_is); (case l10 => k_is); (case c10 => k_is); (case k10 => k_is)
  (case a11 => k_is); (case l11 => k_is); (case c11 => k_is); (case k11 => k_is)
  (case a12 => k_is); (case l12 => k_is); (case c12 => k_is); (case k12 => k_is)
  (case a13 => k_is); (case l13 => k_is); (case c13 => k_is); (case k13 => k_is)
  (case a14 => k_is); (case l14 => k_is); (case c14 => k_is); (case k14 => k_is)
  (case a15 => k_is); (case l15 => k_is); (case c15 => k_is); (case k15 => k_is)
  (case a16 => k_is); (case l16 => k_is); (case c16 => k_is); (case k16 => k_is)
  (case a17 => k_is); (case l17 => k_is); (case c17 => k_is); (case k17 => k_is)
  (case a18 => k_is); (case l18 => k_is); (case c18 => k_is); (case k18 => k_is)
  (case a19 => k_is); (case l19 => k_is); (case c19 => k_is); (case k19 => k_is)
  (case a20 => k_is); (case l20 => k_is); (case c20 => k_is); (case k20 => k_is)
  (case a21 => k_is); (case l21 => k_is); (case c21 => k_is); (case k21 => k_is)
  (case a22 => k_is); (case l22 => k_is); (case c22 => k_is); (case k22 => k_is)
  (case a23 => k_is); (case l23 => k_is); (case c23 => k_is); (case k23 => k_is)
  (case a24 => k_is); (case l24 => k_is); (case c24 => k_is); (case k24 => k_is)
  (case a25 => k_is); (case l25 => k_is); (case c25 => k_is); (case k25 => k_is)
  (case hd25 => kernel_rfl)
  (case a26 => k_is); (case l26 => k_is); (case c26 => k_is); (case k26 => k_is)
  (case a27 => k_is); (case l27 => k_is); (case c27 => k_is); (case k27 => k_is)
  (case a28 => k_is); (case l28 => k_is); (case c28 => k_is); (case k28 => k_is)
  (case a29 => k_is); (case l29 => k_is); (case c29 => k_is); (case k29 => k_is)
  (case a30 => k_is); (case l30 => k_is); (case c30 => k_is); (case k30 => k_is)
  (case a31 => k_is); (case l31 => k_is); (case c31 => k_is); (case k31 => k_is)
  (case z0 => k_is)
  (case z1 => k_is)
  (case z2 => k_is)
  (case z3 => k_is)
  (case z4 => k_is)
  (case z5 => k_is)
  (case z6 => k_is)
  (case z7 => k_is)
  (case z8 => k_is)
  (case z9 => k_is)
