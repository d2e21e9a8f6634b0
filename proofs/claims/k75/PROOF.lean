import PyProof.Rows.All
import Wide.All
import OpenK.AllK
import Wide.FinOn
import Lean
import PyProof.EqAt
import PyProof.EqKinds
import PyProof.TupleCall
import PyProof.NeKinds
import PySem.Challenge.RW_cascade_k75_parted_or_one_room
set_option Elab.async false
set_option linter.all false
set_option maxRecDepth 100000
namespace L2
open PySem PySem.Spec PyProof.Rows
abbrev Key := Sum Int Str
def keyIs : Key → Value → Bool
  | .inl k, v => Value.isInt k v
  | .inr x, v => Value.isStrOf x v
def keyH (w : World) : Key → Int
  | .inl k => hashInt k
  | .inr x => hashStr w x
theorem keyIs_shape : ∀ {k : Key} {v : Value}, keyIs k v = true → (∃ i t, k = Sum.inl i ∧ v = Value.int i t) ∨ (∃ x t, k = Sum.inr x ∧ v = Value.str x t)
  | .inl i, v, h => by
    obtain ⟨t, e⟩ := Value.isInt_shape (k := i) (v := v) h
    exact .inl ⟨i, t, rfl, e⟩
  | .inr x, v, h => by
    obtain ⟨t, e⟩ := Value.isStrOf_shape (x := x) (v := v) h
    exact .inr ⟨x, t, rfl, e⟩
theorem keyIs_int (i : Int) (t : Tok) : keyIs (.inl i) (.int i t) = true := by simp [keyIs, Value.isInt]
theorem keyIs_str (x : Str) (t : Tok) : keyIs (.inr x) (.str x t) = true := by simp [keyIs, Value.isStrOf]
theorem key_ll (a b : Int) : decide ((Sum.inl a : Key) = Sum.inl b) = (a == b) := by
  by_cases e : a = b
  · subst e; simp
  · have h : ¬ (Sum.inl a : Key) = Sum.inl b := fun q => e (Sum.inl.inj q)
    rw [decide_eq_false h]
    exact (beq_eq_false_iff_ne.mpr e).symm
theorem key_rr (a b : Str) : decide ((Sum.inr a : Key) = Sum.inr b) = decide (a = b) := by
  by_cases e : a = b
  · subst e; simp
  · have h : ¬ (Sum.inr a : Key) = Sum.inr b := fun q => e (Sum.inr.inj q)
    rw [decide_eq_false h, decide_eq_false e]
theorem key_lr (a : Int) (b : Str) : decide ((Sum.inl a : Key) = Sum.inr b) = false := decide_eq_false (fun q => nomatch q)
theorem key_rl (a : Str) (b : Int) : decide ((Sum.inr a : Key) = Sum.inl b) = false := decide_eq_false (fun q => nomatch q)
def mixKind (prog : Program) (w : World) : PySem.KeyKind prog w Key where
  is := keyIs
  hash := keyH w
  inj := fun v a b ha hb => by
    rcases keyIs_shape ha with ⟨i, t, rfl, rfl⟩ | ⟨x, t, rfl, rfl⟩
    · rcases keyIs_shape hb with ⟨j, u, rfl, e⟩ | ⟨y, u, rfl, e⟩
      · injection e with e1 _; rw [e1]
      · exact nomatch e
    · rcases keyIs_shape hb with ⟨j, u, rfl, e⟩ | ⟨y, u, rfl, e⟩
      · exact nomatch e
      · injection e with e1 _; rw [e1]
  byValue := fun k v h => by
    rcases keyIs_shape h with ⟨i, t, rfl, rfl⟩ | ⟨x, t, rfl, rfl⟩ <;> rfl
  pyHash := fun hv h => by
    rcases keyIs_shape hv with ⟨i, t, rfl, rfl⟩ | ⟨x, t, rfl, rfl⟩
    · exact wpAny_pyHash_int h
    · exact wpAny_pyHash_str h
  eqBool := fun hu hv h => by
    rcases keyIs_shape hu with ⟨i, t, rfl, rfl⟩ | ⟨x, t, rfl, rfl⟩
    · rcases keyIs_shape hv with ⟨j, u, rfl, rfl⟩ | ⟨y, u, rfl, rfl⟩
      · rw [key_ll] at h; exact wpAny_eqBool_int h
      · rw [key_lr] at h; exact SeqAt.EqAt.int_str i t y u _ _ _ _ h
    · rcases keyIs_shape hv with ⟨j, u, rfl, rfl⟩ | ⟨y, u, rfl, rfl⟩
      · rw [key_rl] at h; exact SeqAt.EqAt.str_int x t j u _ _ _ _ h
      · rw [key_rr] at h; exact wpAny_eqBool_str h
  «strs» := fun k x t v h => by
    rcases keyIs_shape h with ⟨i, u, rfl, e⟩ | ⟨y, u, rfl, e⟩
    · exact nomatch e
    · injection e with e1 _
      subst e1
      cases v <;> rfl
theorem mixKind_int (prog : Program) (w : World) (i : Int) (t : Tok) : (mixKind prog w).is (.inl i) (.int i t) = true := keyIs_int i t
theorem mixKind_str (prog : Program) (w : World) (x : Str) (t : Tok) : (mixKind prog w).is (.inr x) (.str x t) = true := keyIs_str x t
end L2
namespace L2
open PySem PySem.Spec PyProof.Rows
inductive V where
  | non | bl (b : Bool) | int (i : Int) | str (x : Str) | byt (b : Array UInt8) | flt (b : UInt64) | ref (a : Addr) | ty (n : String)
  deriving DecidableEq
def RelV : V → Value → Prop
  | .non, u => u = Value.none
  | .bl b, u => u = Value.bool b
  | .int i, u => ∃ t, u = Value.int i t
  | .str x, u => ∃ t, u = Value.str x t
  | .byt b, u => ∃ t, u = Value.bytes b t
  | .flt b, u => ∃ t, u = Value.float b t
  | .ref a, u => u = Value.ref a
  | .ty n, u => u = Value.type n
abbrev Vals : List V → List Value → Prop := Paired RelV
theorem Vals.length {xs : List V} {us : List Value} (r : Vals xs us) : xs.length = us.length := Paired.length r
theorem Vals.get : ∀ {xs : List V} {us : List Value} {i : Nat} {x : V}, Vals xs us → xs[i]? = some x → ∃ u, us[i]? = some u ∧ RelV x u
  | _, _, _, _, .nil, e => by simp at e
  | _, _, 0, _, .cons r _, e => by simp at e; subst e; exact ⟨_, rfl, r⟩
  | _, _, i + 1, x, .cons _ t, e => by
    obtain ⟨u, h1, h2⟩ := Vals.get (i := i) (x := x) t (by simpa using e)
    exact ⟨u, by simpa using h1, h2⟩
theorem Vals.set {x : V} {u : Value} (r : RelV x u) : ∀ {xs : List V} {us : List Value} (i : Nat), Vals xs us → Vals (xs.set i x) (us.set i u)
  | _, _, _, .nil => .nil
  | _, _, 0, .cons _ t => .cons r t
  | _, _, i + 1, .cons q t => .cons q (Vals.set r i t)
theorem Vals.append : ∀ {xs ys : List V} {us ws : List Value}, Vals xs us → Vals ys ws → Vals (xs ++ ys) (us ++ ws)
  | _, _, _, _, .nil, s => s
  | _, _, _, _, .cons r t, s => .cons r (Vals.append t s)
theorem Vals.take : ∀ {xs : List V} {us : List Value} (n : Nat), Vals xs us → Vals (xs.take n) (us.take n)
  | _, _, 0, _ => .nil
  | _, _, _ + 1, .nil => .nil
  | _, _, n + 1, .cons r t => .cons r (Vals.take n t)
theorem Vals.drop : ∀ {xs : List V} {us : List Value} (n : Nat), Vals xs us → Vals (xs.drop n) (us.drop n)
  | _, _, 0, r => r
  | _, _, _ + 1, .nil => .nil
  | _, _, n + 1, .cons _ t => Vals.drop n t
theorem Vals.none_of : ∀ {xs : List V} {us : List Value} {i : Nat}, Vals xs us → xs[i]? = none → us[i]? = none := fun {xs us i} r e => by
  have h1 := r.length
  have h2 : xs.length ≤ i := List.getElem?_eq_none_iff.mp e
  exact List.getElem?_eq_none_iff.mpr (by omega)
def RelO : Option V → Option Value → Prop
  | some v, some u => RelV v u
  | none, none => True
  | _, _ => False
def KV {κ : Type} : List (κ × V) → List (κ × Value) → Prop := Paired fun (p : κ × V) (q : κ × Value) => p.1 = q.1 ∧ RelV p.2 q.2
def kV : Key → V
  | .inl i => .int i
  | .inr x => .str x
inductive HO where
  | lst (xs : List V)
  | tup (xs : List V)
  | dK (kvs : List (Key × V)) | dT (kvs : List (List Key × V))
  | set (S : Int → Bool) (n : Nat)
  | ins (C dx : Addr) (fs : List (Str × V))
  | own (x : Addr)
  | xd (fs : List (Str × V))
  | met (f x : Addr)
  | rng (lo hi : Int)
  | frz (o : Obj) (u : HO)
  | tbl (ps : Array Value)
  | ext (φ : Heap → Prop)
abbrev Hp := Addr → Option HO
def upd (H : Hp) (a : Addr) (o : HO) : Hp := fun b => if b = a then some o else H b
theorem upd_same {H : Hp} {a : Addr} {o : HO} : upd H a o a = some o := by unfold upd; rw [if_pos rfl]
theorem upd_ne {H : Hp} {a b : Addr} {o : HO} (h : b ≠ a) : upd H a o b = H b := by unfold upd; rw [if_neg h]
theorem upd_upd {H : Hp} {a : Addr} {o u : HO} : upd (upd H a o) a u = upd H a u := by
  funext b; unfold upd; split <;> rfl
theorem ne_of {H : Hp} {a b : Addr} {o u : HO} (h : H a = some o) (h' : H b = some u) (d : o ≠ u) : a ≠ b := by
  intro e; subst e; rw [h] at h'; exact d (Option.some.inj h')
theorem ne_of_none {H : Hp} {a b : Addr} {o : HO} (h : H a = some o) (h' : H b = none) : a ≠ b := by
  intro e; subst e; rw [h] at h'; cases h'
section
variable (P : Program) (w : World)
def ObjOk (H : Hp) (h : Heap) (a : Addr) : HO → Prop
  | .lst xs => xs.length ≤ sizeLine ∧ ∃ (its : List Value) (n : Nat), Vals xs its ∧ h.get? a = some { cls := .type "list", data := .seq its.toArray n }
  | .tup xs => xs.length ≤ sizeLine ∧ ∃ its : List Value, Vals xs its ∧ IsTup h a its.toArray
  | .dK kvs => kvs.length ≤ sizeLine ∧ (a == sysModules) = false ∧ ∃ vs, KV kvs vs ∧ h.DictOf (mixKind P w) a vs
  | .dT kvs => kvs.length ≤ sizeLine ∧ (a == sysModules) = false ∧ ∃ xs : List (List Key × Addr × Value),
      Paired (fun (p : List Key × V) (q : List Key × Addr × Value) => p.1 = q.1 ∧ H q.2.1 = some (.tup (p.1.map kV)) ∧ RelV p.2 q.2.2) kvs xs ∧
      ∃ o es ep, h.get? a = some o ∧ o.ExactDict ∧ o.data = .dict es ep ∧ es.toList = xs.map (entryOfKey (tupleKind (mixKind P w))) ∧ (xs.map (·.1)).Nodup
  | .set S n => h.SetOf (intKind P w) a S n
  | .ins C dx fs => H dx = some (.own a) ∧ fs.length ≤ 1000 ∧ dx ≠ a ∧ h.get? a = some (PySem.W.instObj C dx) ∧
      ∃ mA, h.Ns1 dx mA ∧ (∀ f, RelO (fs.lookup f) (mA f)) ∧ PySem.Within mA (fs.map (·.1))
  | .own _ => ∃ o, h.get? a = some o
  | .xd fs => ∃ mA, h.Ns1 a mA ∧ ∀ f, RelO (fs.lookup f) (mA f)
  | .rng lo hi => ∃ t u v, h.get? a = some { cls := .type "range", data := .fields #[.int lo t, .int hi u, .int 1 v] }
  | .frz o u => h.get? a = some o ∧ ObjOk H h a u
  | .tbl ps => h.get? a = some { cls := .none, data := .fields ps }
  | .met f x => h.get? a = some (PySem.W.methodObj (.ref f) (.ref x))
  | .ext φ => φ h ∧ (∃ o, h.get? a = some o) ∧ ∀ h1 h2 : Heap, φ h1 → (∀ o, h1.get? a = some o → h2.get? a = some o) → φ h2
def HOk (H : Hp) (h : Heap) : Prop := ∀ a o, H a = some o → ObjOk P w H h a o
end
section
variable {P : Program} {w : World} {H H' : Hp} {h h' : Heap} {a : Addr} {o : HO}
theorem ObjOk.lt (x : ObjOk P w H h a o) : a < h.objs.size := by
  cases o with
  | lst xs => obtain ⟨_, _, _, _, e⟩ := x; exact Heap.lt_size e
  | tup xs => obtain ⟨_, _, _, p⟩ := x; exact p.lt
  | dK kvs => obtain ⟨_, _, _, _, o, _, _, e, _⟩ := x; exact Heap.lt_size e
  | dT kvs => obtain ⟨_, _, _, _, o, _, _, e, _⟩ := x; exact Heap.lt_size e
  | set S n => obtain ⟨o, _, _, _, e, _⟩ := x; exact Heap.lt_size e
  | ins C dx fs => obtain ⟨_, _, _, e, _⟩ := x; exact Heap.lt_size e
  | own y => obtain ⟨_, e⟩ := x; exact Heap.lt_size e
  | xd fs => obtain ⟨_, ⟨_, _, _, e, _⟩, _⟩ := x; exact Heap.lt_size e
  | rng lo hi => obtain ⟨_, _, _, e⟩ := x; exact Heap.lt_size e
  | frz ob u => obtain ⟨e, _⟩ := x; exact Heap.lt_size e
  | tbl ps => exact Heap.lt_size (show h.get? a = some _ from x)
  | met f y => exact Heap.lt_size (show h.get? a = some _ from x)
  | ext φ => obtain ⟨_, ⟨_, e⟩, _⟩ := x; exact Heap.lt_size e
theorem Paired.mapP {α β : Type} {F G : α → β → Prop} : ∀ {l₁ : List α} {l₂ : List β}, Paired F l₁ l₂ → (∀ a b, F a b → G a b) → Paired G l₁ l₂
  | _, _, .nil, _ => .nil
  | _, _, .cons r t, f => .cons (f _ _ r) (Paired.mapP t f)
theorem ObjOk.stay (x : ObjOk P w H h a o) (k : ∀ b u, (b = a ∨ H b = some (.own a)) → h.get? b = some u → h'.get? b = some u)
    (ho : ∀ b, H b = some (.own a) → H' b = some (.own a)) (ht : ∀ b xs, H b = some (.tup xs) → H' b = some (.tup xs)) : ObjOk P w H' h' a o := by
  induction o with
  | lst xs => obtain ⟨z, its, n, r, e⟩ := x; exact ⟨z, its, n, r, k _ _ (.inl rfl) e⟩
  | tup xs => obtain ⟨z, its, r, ob, e, c⟩ := x; exact ⟨z, its, r, ob, k _ _ (.inl rfl) e, c⟩
  | dK kvs => obtain ⟨z, y, vs, r, ob, es, ep, e, c⟩ := x; exact ⟨z, y, vs, r, ob, es, ep, k _ _ (.inl rfl) e, c⟩
  | dT kvs =>
    obtain ⟨z, y, xs, r, ob, es, ep, e, c⟩ := x
    exact ⟨z, y, xs, Paired.mapP r fun p q z => ⟨z.1, ht _ _ z.2.1, z.2.2⟩, ob, es, ep, k _ _ (.inl rfl) e, c⟩
  | set S n => obtain ⟨ob, es, ep, t, e, c⟩ := x; exact ⟨ob, es, ep, t, k _ _ (.inl rfl) e, c⟩
  | ins C dx fs =>
    obtain ⟨d, z, ne, e, mA, ⟨od, es, ep, e2, c⟩, r⟩ := x
    exact ⟨ho _ d, z, ne, k _ _ (.inl rfl) e, mA, ⟨od, es, ep, k _ _ (.inr d) e2, c⟩, r⟩
  | own y => obtain ⟨ob, e⟩ := x; exact ⟨ob, k _ _ (.inl rfl) e⟩
  | xd fs => obtain ⟨mA, ⟨od, es, ep, e, c⟩, r⟩ := x; exact ⟨mA, ⟨od, es, ep, k _ _ (.inl rfl) e, c⟩, r⟩
  | rng lo hi => obtain ⟨t, u, v, e⟩ := x; exact ⟨t, u, v, k _ _ (.inl rfl) e⟩
  | frz ob u ih => obtain ⟨e, q⟩ := x; exact ⟨k _ _ (.inl rfl) e, ih q⟩
  | tbl ps =>
    have e : h.get? a = some { cls := .none, data := .fields ps } := x
    show h'.get? a = some { cls := .none, data := .fields ps }
    exact k a _ (.inl rfl) e
  | met f y =>
    have e : h.get? a = some (PySem.W.methodObj (.ref f) (.ref y)) := x
    show h'.get? a = some (PySem.W.methodObj (.ref f) (.ref y))
    exact k a _ (.inl rfl) e
  | ext φ => obtain ⟨p, ⟨o, e⟩, st⟩ := x; exact ⟨st _ _ p fun o q => k _ _ (.inl rfl) q, ⟨o, k _ _ (.inl rfl) e⟩, st⟩
theorem HOk.lt (x : HOk P w H h) (e : H a = some o) : a < h.objs.size := (x a o e).lt
theorem HOk.fresh (x : HOk P w H h) (e : h.objs.size ≤ a) : H a = none := by
  cases q : H a with
  | none => rfl
  | some u => exact absurd (Nat.lt_of_lt_of_le (x.lt q) e) (Nat.lt_irrefl _)
theorem HOk.kept (x : HOk P w H h) (k : ∀ b u, h.get? b = some u → h'.get? b = some u) : HOk P w H h' := fun a o e =>
  (x a o e).stay (fun b u _ q => k b u q) (fun _ q => q) fun _ _ q => q
theorem HOk.laid (x : HOk P w H h) (k : ∀ b u, h.get? b = some u → h'.get? b = some u) (hp : h.objs.size ≤ a) (new : ObjOk P w (upd H a o) h' a o) : HOk P w (upd H a o) h' := fun b u e => by
  have hn := x.fresh hp
  by_cases hb : b = a
  · subst hb; rw [upd_same] at e; cases e; exact new
  · rw [upd_ne hb] at e
    exact (x b u e).stay (fun c v _ q => k c v q) (fun c q => by rw [upd_ne (ne_of_none q hn)]; exact q) fun c xs q => by rw [upd_ne (ne_of_none q hn)]; exact q
end
def Rd (H : Hp) (a : Addr) (u : HO) : Prop := H a = some u ∨ ∃ o, H a = some (.frz o u)
theorem Rd.of {H : Hp} {a : Addr} {u : HO} (h : H a = some u) : Rd H a u := .inl h
theorem Rd.ok {P : Program} {w : World} {H : Hp} {h : Heap} {a : Addr} {u : HO} (r : Rd H a u) (x : HOk P w H h) : ObjOk P w H h a u := by
  rcases r with r | ⟨o, r⟩
  · exact x a u r
  · obtain ⟨_, q⟩ := x a _ r
    exact q
def Mut : Option HO → Prop
  | some (.lst _) => True
  | some (.dK _) => True
  | some (.dT _) => True
  | some (.set _ _) => True
  | some (.ins _ _ _) => True
  | some (.ext _) => True
  | _ => False
section
variable {P : Program} {w : World} {H : Hp} {h h' : Heap} {x e : Addr} {o' : HO}
theorem HOk.write (ok : HOk P w H h) (mu : Mut (H x)) (he : e = x ∨ H e = some (.own x)) (k : ∀ b u, b ≠ e → h.get? b = some u → h'.get? b = some u) (heo : ∃ u, h'.get? e = some u)
    (new : ObjOk P w (upd H x o') h' x o') : HOk P w (upd H x o') h' := fun b u q => by
  have nown : ∀ c y, H c = some (.own y) → c ≠ x := fun c y r z => by subst z; rw [r] at mu; exact mu
  have ntup : ∀ c xs, H c = some (.tup xs) → c ≠ x := fun c xs r z => by subst z; rw [r] at mu; exact mu
  by_cases hb : b = x
  · subst hb; rw [upd_same] at q; cases q; exact new
  · rw [upd_ne hb] at q
    by_cases hbe : b = e
    · have q' : H b = some (.own x) := by
        rcases he with z | z
        · exact absurd (hbe.trans z) hb
        · rw [hbe]; exact z
      rw [q] at q'; cases q'
      obtain ⟨v, hv⟩ := heo
      exact ⟨v, by rw [hbe]; exact hv⟩
    · refine (ok b u q).stay (fun c v hc r => k c v ?_ r) (fun c r => by rw [upd_ne (nown c b r)]; exact r) fun c xs r => by rw [upd_ne (ntup c xs r)]; exact r
      rcases hc with rfl | hc
      · exact hbe
      · rintro rfl
        rcases he with z | z
        · exact nown c b hc z
        · rw [hc] at z; cases z; exact hb rfl
end
structure Un (fs ex : List Addr) (H H' : Hp) (h h' : Heap) : Prop where
  keep : ∀ b o, h.get? b = some o → H b = none → b ∉ fs → b ∉ ex → h'.get? b = some o
  slot : ∀ b o, h.get? b = some o → H b = none → b ∈ fs → b ∉ ex → ∃ sl, h'.get? b = some { o with slots := sl }
  free : ∀ b o, h.get? b = some o → H b = none → b ∉ ex → H' b = none
  there : ∀ b o, h.get? b = some o → b ∉ ex → ∃ o', h'.get? b = some o'
  tups : ∀ b xs, H b = some (.tup xs) → H' b = some (.tup xs)
  frzs : ∀ b o u, H b = some (.frz o u) → H' b = some (.frz o u)
  tbls : ∀ b ps, H b = some (.tbl ps) → ∃ more, H' b = some (.tbl (ps ++ more))
section
variable {fs fs' ex ex' : List Addr} {H H1 H2 : Hp} {h h1 h2 h' : Heap} {a x e : Addr} {o : HO}
theorem Un.any (u : Un fs ex H H1 h h1) {b : Addr} {ob : Obj} (q : h.get? b = some ob) (n : H b = none) (hx : b ∉ ex) : ∃ sl, h1.get? b = some { ob with slots := sl } := by
  by_cases hb : b ∈ fs
  · exact u.slot b ob q n hb hx
  · exact ⟨ob.slots, u.keep b ob q n hb hx⟩
theorem Un.trans (a : Un fs ex H H1 h h1) (b : Un fs ex H1 H2 h1 h2) : Un fs ex H H2 h h2 where
  keep := fun c ob q n hc hx => b.keep c ob (a.keep c ob q n hc hx) (a.free c ob q n hx) hc hx
  slot := fun c ob q n hc hx => by
    obtain ⟨sl, e1⟩ := a.slot c ob q n hc hx
    obtain ⟨sl', e2⟩ := b.slot c _ e1 (a.free c ob q n hx) hc hx
    exact ⟨sl', e2⟩
  free := fun c ob q n hx => by
    obtain ⟨o', e1⟩ := a.there c ob q hx
    exact b.free c o' e1 (a.free c ob q n hx) hx
  there := fun c ob q hx => by
    obtain ⟨o', e1⟩ := a.there c ob q hx
    exact b.there c o' e1 hx
  tups := fun c xs q => b.tups c xs (a.tups c xs q)
  frzs := fun c ob xs q => b.frzs c ob xs (a.frzs c ob xs q)
  tbls := fun c ps q => by
    obtain ⟨m1, e1⟩ := a.tbls c ps q
    obtain ⟨m2, e2⟩ := b.tbls c _ e1
    exact ⟨m1 ++ m2, by rw [e2, Array.append_assoc]⟩
theorem Un.kept (k : ∀ b u, h.get? b = some u → h'.get? b = some u) : Un fs ex H H h h' :=
  ⟨fun b ob q _ _ _ => k b ob q, fun b ob q _ _ _ => ⟨ob.slots, k b ob q⟩, fun _ _ _ n _ => n, fun b ob q _ => ⟨ob, k b ob q⟩, fun _ _ q => q, fun _ _ _ q => q, fun _ ps q => ⟨#[], by rw [q]; simp⟩⟩
theorem Un.refl : Un fs ex H H h h := Un.kept fun _ _ q => q
theorem Un.laid (k : ∀ b u, h.get? b = some u → h'.get? b = some u) (hp : h.objs.size ≤ a) (hn : H a = none) : Un fs ex H (upd H a o) h h' where
  keep := fun b u q _ _ _ => k b u q
  slot := fun b u q _ _ _ => ⟨u.slots, k b u q⟩
  free := fun b u q n _ => by rw [upd_ne (Nat.ne_of_lt (Nat.lt_of_lt_of_le (Heap.lt_size q) hp))]; exact n
  there := fun b u q _ => ⟨u, k b u q⟩
  tups := fun b xs q => by rw [upd_ne (ne_of_none q hn)]; exact q
  frzs := fun b u xs q => by rw [upd_ne (ne_of_none q hn)]; exact q
  tbls := fun b ps q => ⟨#[], by rw [upd_ne (ne_of_none q hn), q]; simp⟩
theorem Un.write (mu : Mut (H x)) (he : e = x ∨ H e = some (.own x)) (k : ∀ b u, b ≠ e → h.get? b = some u → h'.get? b = some u) (heo : ∃ u, h'.get? e = some u) : Un fs ex H (upd H x o) h h' := by
  have hx : ∀ b, H b = none → b ≠ x := fun b n z => by subst z; rw [n] at mu; exact mu
  have hb : ∀ b, H b = none → b ≠ e := fun b n z => by
    subst z
    rcases he with r | r
    · exact hx b n r
    · rw [n] at r; cases r
  have hm : ∀ b u, H b = some u → ¬ Mut (some u) → b ≠ x := fun b u q nm z => by subst z; rw [q] at mu; exact nm mu
  refine ⟨fun b u q n _ _ => k b u (hb b n) q, fun b u q n _ _ => ⟨u.slots, k b u (hb b n) q⟩, fun b u q n _ => by rw [upd_ne (hx b n)]; exact n, fun b u q _ => ?_,
    fun b xs q => by rw [upd_ne (hm b _ q fun z => z)]; exact q, fun b u xs q => by rw [upd_ne (hm b _ q fun z => z)]; exact q, fun b ps q => ⟨#[], by rw [upd_ne (hm b _ q fun z => z), q]; simp⟩⟩
  by_cases hbe : b = e
  · subst hbe; exact heo
  · exact ⟨u, k b u hbe q⟩
theorem Un.mono (u : Un fs ex H H1 h h1) (hs : ∀ b ∈ fs, b ∈ fs') (hx : ∀ b ∈ ex, b ∈ ex') : Un fs' ex' H H1 h h1 :=
  ⟨fun b ob q n hb he => u.keep b ob q n (fun z => hb (hs b z)) fun z => he (hx b z), fun _ _ q n _ he => u.any q n fun z => he (hx _ z), fun b ob q n he => u.free b ob q n fun z => he (hx b z), fun b ob q he => u.there b ob q fun z => he (hx b z), u.tups, u.frzs, u.tbls⟩
end
def trk (h : Heap) (H : Hp) : List Addr := (List.range h.objs.size).filter fun a => (H a).isSome
def hidT (h : Heap) (H : Hp) : Heap := PySem.W.hideAll h (trk h H)
theorem hidT_size (h : Heap) (H : Hp) : (hidT h H).objs.size = h.objs.size := PySem.W.hideAll_size _ _
theorem hidT_get {h : Heap} {H : Hp} {b : Addr} {o : Obj} (e : h.get? b = some o) (n : H b = none) : (hidT h H).get? b = some o :=
  PySem.W.hideAll_get _ e fun hm => by
    have q : (H b).isSome = true := (List.mem_filter.mp hm).2
    rw [n] at q; simp at q
theorem of_hidT {h : Heap} {H : Hp} {b : Addr} {o : Obj} (e : (hidT h H).get? b = some o) : h.get? b = some o ∧ H b = none := by
  have e' : h.get? b = some o := PySem.W.of_hideAll (trk h H) e
  refine ⟨e', ?_⟩
  cases q : H b with
  | none => rfl
  | some x =>
    have hm : b ∈ trk h H := List.mem_filter.mpr ⟨List.mem_range.mpr (Heap.lt_size e'), by simp [q]⟩
    have z : (hidT h H).get? b = none := PySem.W.hideAll_none (trk h H) hm
    rw [z] at e; cases e
def allNews (g h : Heap) (L : Addr) : List (Addr × Obj) := (List.range h.objs.size).filterMap fun a => if a = L ∨ (g.get? a).isSome = true then none else (h.get? a).map fun o => (a, o)
def rest (g h : Heap) (L d : Addr) : List (Addr × Obj) := (allNews g h L).filter fun p => decide (p.1 ≠ d)
end L2
namespace L2
open PySem PySem.Spec PyProof.Rows
structure Mod (K : PySem.W.Frag) (mg : Str → Option Value) (base : Heap) : Prop where
  kin : K.In base
  glob : base.Ns mainGlobals mg
  blt : ∃ mb, base.Ns builtinsNs mb ∧ ∀ x : Str, x ≠ "__name__" → mb x = bootBuiltins x
  nolimit : base.NoLimit
/-- the context: a def's body (or a comprehension's block) running. base: fixed through the whole law; s₀, H₀: the entry; outer: the frames whose slots others may change (a def's callers); stack: all frames that run;
   ex: iterators that were made ahead of the entry and are walked here (a comprehension's); fn: the names whose cells were made at the entry (a def: all; a comprehension's block: its own); calm: not within an except suite; pn: pins that every state bears; xe: what is wanted of an exception that leaves the code -/
structure Cx where
  prog : Program
  w : World
  K : PySem.W.Frag
  mg : Str → Option Value
  base : Heap
  A : Around
  N : List Str
  s₀ : Shared
  H₀ : Hp
  env : Env
  outer : List Env
  stack : List Env
  ex : List Addr
  fn : Str → Bool
  calm : Bool
  pn : List (Addr × Obj)
  xe : Value → Shared → Prop
def frs (l : List Env) : List Addr := l.filterMap (·.frame)
abbrev Cx.fs (X : Cx) : List Addr := frs X.outer
def Vis (sc : Scope) (x : Str) : Prop := sc.names.lookup x = some .local ∨ sc.names.lookup x = some .cell ∨ sc.names.lookup x = some .free
def Loc (sc : Scope) (x : Str) : Prop := sc.names.lookup x = some .local ∨ sc.names.lookup x = some .cell
def Look (env : Env) (h : Heap) (m : Str → Option Value) (x : Str) (u : Value) : Prop :=
  (env.kindOf x = some .local ∧ m x = some u) ∨ ((env.kindOf x = some .cell ∨ env.kindOf x = some .free) ∧ ∃ c, env.cells.lookup x = some c ∧ h.IsCell c (some u))
structure Cx.Ok (X : Cx) : Prop where
  mod : Mod X.K X.mg X.base
  kind : X.env.scope.kind = .function
  glob : X.env.globals = mainGlobals
  blt : X.env.builtins = builtinsNs
  above : X.s₀.heap.objs.size ≤ X.env.locals
  inj : ∀ x y c, X.env.cells.lookup x = some c → X.env.cells.lookup y = some c → x = y
  has : ∀ x, (X.env.kindOf x = some .cell ∨ X.env.kindOf x = some .free) → ∃ c, X.env.cells.lookup x = some c
  cab : ∀ x c, X.fn x = true → X.env.cells.lookup x = some c → X.s₀.heap.objs.size ≤ c
  hd : X.calm = true → X.A.handled = none
  frames : X.A.frames = some X.stack
  stk : X.stack = X.outer ∨ (X.stack = X.env :: X.outer ∧ X.env.frame = some X.env.locals)
  exf : ∀ b ∈ X.ex, b ≠ X.env.locals ∧ ∀ x c, X.env.cells.lookup x = some c → c ≠ b
  bs : ∀ b o, X.base.get? b = some o → X.s₀.heap.get? b = some o ∧ X.H₀ b = none
  bsz : X.base.objs.size ≤ X.s₀.heap.objs.size
  noex : ∀ b o, X.base.get? b = some o → b ∉ X.ex
  exfs : ∀ b ∈ X.ex, b ∉ X.fs
  funs : X.s₀.heap.FunFrames X.base X.outer
  frf : ∀ b ∈ X.fs, X.H₀ b = none
structure Inv (X : Cx) (pins : List (Addr × Obj)) (σ : List (Option V)) (H : Hp) (s : Shared) : Prop where
  ok : X.Ok
  os : s.os = X.s₀.os
  bare : AllBare s.gens
  base : Un X.fs X.ex X.H₀ H X.s₀.heap s.heap
  loc : ∃ m, s.heap.Ns X.env.locals m ∧ ∀ (i : Nat) (x : Str) (v : V), X.N[i]? = some x → σ[i]? = some (some v) → Vis X.env.scope x → ∃ u, RelV v u ∧ Look X.env s.heap m x u
  cell : ∀ x c, X.env.cells.lookup x = some c → ∃ v, s.heap.IsCell c v
  free : H X.env.locals = none
  freeC : ∀ x c, X.env.cells.lookup x = some c → H c = none
  pin : ∀ p ∈ X.pn ++ pins, s.heap.get? p.1 = some p.2 ∧ H p.1 = none ∧ p.1 ≠ X.env.locals ∧ p.1 ∉ X.fs ∧ ∀ v, p.2.data ≠ .cell v
  hok : HOk X.prog X.w H s.heap
  len : σ.length = X.N.length
section
variable {X : Cx} {pins : List (Addr × Obj)} {σ : List (Option V)} {H H' : Hp} {s : Shared} {h' : Heap}
theorem Cx.Ok.nofr (ok : X.Ok) {b : Addr} {o : Obj} (e : X.base.get? b = some o) : b ∉ X.fs := fun hb => by
  have := (ok.funs.mem hb).1
  rw [e] at this; cases this
theorem Inv.bs (I : Inv X pins σ H s) : ∀ b o, X.base.get? b = some o → s.heap.get? b = some o ∧ H b = none := fun b o e =>
  ⟨I.base.keep b o (I.ok.bs b o e).1 (I.ok.bs b o e).2 (I.ok.nofr e) (I.ok.noex b o e), I.base.free b o (I.ok.bs b o e).1 (I.ok.bs b o e).2 (I.ok.noex b o e)⟩
theorem Inv.bk (I : Inv X pins σ H s) : ∀ b o, X.base.get? b = some o → s.heap.get? b = some o := fun b o e => (I.bs b o e).1
theorem Inv.mod (I : Inv X pins σ H s) : Mod X.K X.mg X.base := I.ok.mod
theorem Inv.kIn (I : Inv X pins σ H s) : X.K.In s.heap := I.ok.mod.kin.keeps I.bk
theorem Inv.nolimit (I : Inv X pins σ H s) : s.heap.NoLimit := I.ok.mod.nolimit.keeps I.bk
theorem Inv.fr (I : Inv X pins σ H s) : ∃ m, Fr X.base X.env.locals s.heap m :=
  let ⟨m, hn, _⟩ := I.loc
  ⟨m, hn, I.bk, Nat.le_trans I.ok.bsz I.ok.above⟩
theorem Inv.lt (I : Inv X pins σ H s) : X.env.locals < s.heap.objs.size := let ⟨_, hn, _⟩ := I.loc; hn.lt
theorem Inv.sz (I : Inv X pins σ H s) : X.s₀.heap.objs.size ≤ s.heap.objs.size := Nat.le_trans I.ok.above (Nat.le_of_lt I.lt)
theorem Inv.nofs (I : Inv X pins σ H s) {a : Addr} (h : s.heap.objs.size ≤ a) : a ∉ X.fs := fun hb => by
  obtain ⟨_, o, ho, _⟩ := I.ok.funs.mem hb
  exact absurd (Nat.lt_of_lt_of_le (Heap.lt_size ho) (Nat.le_trans I.sz h)) (Nat.lt_irrefl _)
theorem Inv.cne (I : Inv X pins σ H s) : ∀ x c, X.env.cells.lookup x = some c → c ≠ X.env.locals := fun x c e z => by
  obtain ⟨v, o, ho, hd⟩ := I.cell x c e
  obtain ⟨m, ⟨o', es, ep, ho', hd', _⟩, _⟩ := I.loc
  rw [z, ho'] at ho; cases ho; rw [hd'] at hd; cases hd
theorem Inv.funs (I : Inv X pins σ H s) : s.heap.FunFrames X.base X.outer := by
  have all : ∀ (l : List Env), (∀ b ∈ frs l, b ∈ X.fs) → X.s₀.heap.FunFrames X.base l → s.heap.FunFrames X.base l := by
    intro l
    induction l with
    | nil => intro _ _; trivial
    | cons env r ih =>
      intro hs hl
      obtain ⟨hk, ⟨L, o, hf, hn, ho, hd⟩, hr⟩ := hl
      have hL : L ∈ X.fs := hs L (by unfold frs; rw [List.filterMap_cons, hf]; exact List.mem_cons_self)
      obtain ⟨sl, e⟩ := I.base.slot L o ho (I.ok.frf L hL) hL fun z => I.ok.exfs L z hL
      exact ⟨hk, ⟨L, _, hf, hn, e, hd⟩, ih (fun b hb => hs b (by unfold frs; rw [List.filterMap_cons, hf]; exact List.mem_cons_of_mem _ hb)) hr⟩
  exact all X.outer (fun _ hb => hb) I.ok.funs
theorem Inv.stack (I : Inv X pins σ H s) : s.heap.FunFrames X.base X.stack := by
  rcases I.ok.stk with e | ⟨e, hf⟩
  · rw [e]; exact I.funs
  · rw [e]
    obtain ⟨m, hn, _⟩ := I.loc
    refine .cons (by rw [I.ok.kind]; decide) hf hn ?_ I.funs
    exact Heap.get?_none_of_le (Nat.le_trans I.ok.bsz I.ok.above)
theorem Inv.stkSub (I : Inv X pins σ H s) : ∀ b ∈ frs X.stack, b ∈ X.env.locals :: X.fs := fun b hb => by
  rcases I.ok.stk with e | ⟨e, hf⟩
  · rw [e] at hb; exact List.mem_cons_of_mem _ hb
  · rw [e] at hb
    unfold frs at hb
    rw [List.filterMap_cons, hf] at hb
    exact hb
theorem Inv.stkFree (I : Inv X pins σ H s) : ∀ b ∈ frs X.stack, H b = none := fun b hb => by
  rcases List.mem_cons.mp (I.stkSub b hb) with e | hb
  · rw [e]; exact I.free
  · obtain ⟨_, o, ho, _⟩ := I.ok.funs.mem hb
    exact I.base.free b o ho (I.ok.frf b hb) fun z => I.ok.exfs b z hb
theorem Inv.step {g' : Array GenState} {t' : Nat} {d' : Drawn} {ch : List Addr} (I : Inv X pins σ H s)
    (hch : ∀ b ∈ ch, (b ∈ X.ex ∨ X.s₀.heap.objs.size ≤ b) ∧ b ≠ X.env.locals ∧ (∀ x c, X.env.cells.lookup x = some c → c ≠ b) ∧ ∀ p ∈ X.pn ++ pins, p.1 ≠ b)
    (keep : ∀ b o, b ≠ X.env.locals → b ∉ X.fs → b ∉ ch → s.heap.get? b = some o → H b = none → h'.get? b = some o)
    (slot : ∀ b o, b ≠ X.env.locals → b ∈ X.fs → b ∉ ch → s.heap.get? b = some o → H b = none → ∃ sl, h'.get? b = some { o with slots := sl }) (free : ∀ b o, b ∉ ch → s.heap.get? b = some o → H b = none → H' b = none)
    (there : ∀ b o, b ∉ ch → s.heap.get? b = some o → ∃ o', h'.get? b = some o')
    (tups : ∀ b xs, H b = some (.tup xs) → H' b = some (.tup xs)) (frzs : ∀ b o u, H b = some (.frz o u) → H' b = some (.frz o u)) (tbls : ∀ b ps, H b = some (.tbl ps) → ∃ more, H' b = some (.tbl (ps ++ more)))
    (ns : ∀ m, s.heap.Ns X.env.locals m → h'.Ns X.env.locals m) (hok : HOk X.prog X.w H' h') (hg : AllBare g') :
    Inv X pins σ H' { s with heap := h', gens := g', drawn := d', toks := t' } := by
  have neL : ∀ b o, X.s₀.heap.get? b = some o → b ≠ X.env.locals := fun b o e => Nat.ne_of_lt (Nat.lt_of_lt_of_le (Heap.lt_size e) I.ok.above)
  have neC : ∀ b o, X.s₀.heap.get? b = some o → b ∉ X.ex → b ∉ ch := fun b o e hx hb => by
    rcases (hch b hb).1 with z | z
    · exact hx z
    · exact absurd (Nat.lt_of_lt_of_le (Heap.lt_size e) z) (Nat.lt_irrefl _)
  have cellK : ∀ x c, X.env.cells.lookup x = some c → ∀ v, s.heap.IsCell c v → h'.IsCell c v := fun x c e v ⟨o, ho, hd⟩ => by
    have nch : c ∉ ch := fun z => (hch c z).2.2.1 x c e rfl
    by_cases hc : c ∈ X.fs
    · obtain ⟨sl, q⟩ := slot c o (I.cne x c e) hc nch ho (I.freeC x c e)
      exact ⟨_, q, hd⟩
    · exact ⟨o, keep c o (I.cne x c e) hc nch ho (I.freeC x c e), hd⟩
  refine ⟨I.ok, I.os, hg, ⟨fun b o e n hb hx => ?_, fun b o e n hb hx => ?_, fun b o e n hx => ?_, fun b o e hx => ?_, fun b xs e => tups b xs (I.base.tups b xs e), fun b o xs e => frzs b o xs (I.base.frzs b o xs e), fun b ps e => ?_⟩, ?_, fun x c e => ?_, ?_, fun x c e => ?_, fun p hp => ?_, hok, I.len⟩
  · exact keep b o (neL b o e) hb (neC b o e hx) (I.base.keep b o e n hb hx) (I.base.free b o e n hx)
  · obtain ⟨sl, e1⟩ := I.base.slot b o e n hb hx
    obtain ⟨sl', e2⟩ := slot b _ (neL b o e) hb (neC b o e hx) e1 (I.base.free b o e n hx)
    exact ⟨sl', e2⟩
  · obtain ⟨o', e1⟩ := I.base.there b o e hx
    exact free b o' (neC b o e hx) e1 (I.base.free b o e n hx)
  · obtain ⟨o', e1⟩ := I.base.there b o e hx
    exact there b o' (neC b o e hx) e1
  · obtain ⟨m1, e1⟩ := I.base.tbls b ps e
    obtain ⟨m2, e2⟩ := tbls b _ e1
    exact ⟨m1 ++ m2, by rw [e2, Array.append_assoc]⟩
  · obtain ⟨m, hn, hl⟩ := I.loc
    refine ⟨m, ns m hn, fun i x v e1 e2 e3 => ?_⟩
    obtain ⟨u, r, l⟩ := hl i x v e1 e2 e3
    refine ⟨u, r, ?_⟩
    rcases l with l | ⟨k, c, e, z⟩
    · exact .inl l
    · exact .inr ⟨k, c, e, cellK x c e _ z⟩
  · obtain ⟨v, z⟩ := I.cell x c e
    exact ⟨v, cellK x c e v z⟩
  · obtain ⟨m, ⟨o, _, _, ho, _⟩, _⟩ := I.loc
    exact free _ o (fun z => (hch _ z).2.1 rfl) ho I.free
  · obtain ⟨v, o, ho, hd⟩ := I.cell x c e
    exact free c o (fun z => (hch c z).2.2.1 x c e rfl) ho (I.freeC x c e)
  · obtain ⟨e, n, ne, nf, d⟩ := I.pin p hp
    have nch : p.1 ∉ ch := fun z => (hch p.1 z).2.2.2 p hp rfl
    exact ⟨keep p.1 p.2 ne nf nch e n, free p.1 p.2 nch e n, ne, nf, d⟩
theorem Inv.un {t' : Nat} (I : Inv X pins σ H s) (u : Un X.fs [] H H' s.heap h') (hok : HOk X.prog X.w H' h') : Inv X pins σ H' { s with heap := h', toks := t' } := by
  obtain ⟨m, ⟨o, es, ep, ho, r⟩, _⟩ := id I.loc
  obtain ⟨sl, hL⟩ := u.any ho I.free (by simp)
  exact I.step (g' := s.gens) (d' := s.drawn) (ch := []) (fun _ z => nomatch z) (fun b o _ hb _ e n => u.keep b o e n hb (by simp)) (fun b o _ hb _ e n => u.slot b o e n hb (by simp)) (fun b o _ e n => u.free b o e n (by simp)) (fun b o _ e => u.there b o e (by simp)) u.tups u.frzs u.tbls (fun m' hm => by
    obtain ⟨o', es', ep', ho', r'⟩ := hm
    rw [ho] at ho'; cases ho'
    exact ⟨_, es', ep', hL, r'⟩) hok I.bare
theorem Inv.call {g' : Array GenState} {t' : Nat} {d' : Drawn} {ch : List Addr} (I : Inv X pins σ H s) (u : Un (frs X.stack) ch H H' s.heap h') (hok : HOk X.prog X.w H' h') (hg : AllBare g')
    (hch : ∀ b ∈ ch, (b ∈ X.ex ∨ X.s₀.heap.objs.size ≤ b) ∧ b ≠ X.env.locals ∧ (∀ x c, X.env.cells.lookup x = some c → c ≠ b) ∧ ∀ p ∈ X.pn ++ pins, p.1 ≠ b) :
    Inv X pins σ H' { s with heap := h', gens := g', drawn := d', toks := t' } := by
  obtain ⟨m, ⟨o, es, ep, ho, r⟩, _⟩ := id I.loc
  obtain ⟨sl, hL⟩ := u.any ho I.free fun z => (hch _ z).2.1 rfl
  exact I.step (ch := ch) hch (fun b o hL hb hc e n => u.keep b o e n (fun z => (List.mem_cons.mp (I.stkSub b z)).elim hL hb) hc) (fun b o _ _ hc e n => u.any e n hc) (fun b o hc e n => u.free b o e n hc) (fun b o hc e => u.there b o e hc) u.tups u.frzs u.tbls (fun m' hm => by
    obtain ⟨o', es', ep', ho', r'⟩ := hm
    rw [ho] at ho'; cases ho'
    exact ⟨_, es', ep', hL, r'⟩) hok hg
theorem Inv.turned {t' : Nat} {it : Addr} (I : Inv X pins σ H s) (k : ∀ b o, b ≠ it → s.heap.get? b = some o → h'.get? b = some o) (hn : H it = none) (hL : it ≠ X.env.locals)
    (h1 : it ∈ X.ex ∨ X.s₀.heap.objs.size ≤ it) (h2 : ∀ x c, X.env.cells.lookup x = some c → c ≠ it) (h3 : ∀ p ∈ X.pn ++ pins, p.1 ≠ it) : Inv X pins σ H { s with heap := h', toks := t' } := by
  have nit : ∀ b u, H b = some u → b ≠ it := fun b u e z => by rw [z, hn] at e; cases e
  refine I.step (g' := s.gens) (d' := s.drawn) (ch := [it]) (fun b hb => ?_) (fun b o _ _ hc e _ => k b o (fun z => hc (by simp [z])) e) (fun b o _ _ hc e _ => ⟨o.slots, k b o (fun z => hc (by simp [z])) e⟩) (fun _ _ _ _ n => n)
    (fun b o hc e => ⟨o, k b o (fun z => hc (by simp [z])) e⟩) (fun _ _ e => e) (fun _ _ _ e => e) (fun b ps e => ⟨#[], by rw [e]; simp⟩) (fun m hm => ?_) (fun b u e => ?_) I.bare
  · have e : b = it := by simpa using hb
    subst e
    exact ⟨h1, hL, h2, h3⟩
  · obtain ⟨o, es, ep, ho, r⟩ := hm
    exact ⟨o, es, ep, k _ o (Ne.symm hL) ho, r⟩
  · refine (I.hok b u e).stay (fun c v hc q => k c v ?_ q) (fun _ q => q) fun _ _ q => q
    rcases hc with z | z
    · rw [z]; exact nit b u e
    · exact nit c _ z
theorem Inv.tok (I : Inv X pins σ H s) (t : Nat) : Inv X pins σ H { s with toks := t } := I.un (h' := s.heap) (t' := t) Un.refl I.hok
theorem Inv.kept {t' : Nat} (I : Inv X pins σ H s) (k : ∀ b u, s.heap.get? b = some u → h'.get? b = some u) : Inv X pins σ H { s with heap := h', toks := t' } := I.un (Un.kept k) (I.hok.kept k)
theorem Inv.laid {a : Addr} {o : HO} {t' : Nat} (I : Inv X pins σ H s) (k : ∀ b u, s.heap.get? b = some u → h'.get? b = some u) (hp : s.heap.objs.size ≤ a) (new : ObjOk X.prog X.w (upd H a o) h' a o) :
    Inv X pins σ (upd H a o) { s with heap := h', toks := t' } := I.un (Un.laid k hp (I.hok.fresh hp)) (I.hok.laid k hp new)
theorem Inv.write {x e : Addr} {o : HO} {t' : Nat} (I : Inv X pins σ H s) (mu : Mut (H x)) (he : e = x ∨ H e = some (.own x)) (k : ∀ b u, b ≠ e → s.heap.get? b = some u → h'.get? b = some u) (heo : ∃ u, h'.get? e = some u)
    (new : ObjOk X.prog X.w (upd H x o) h' x o) : Inv X pins σ (upd H x o) { s with heap := h', toks := t' } := I.un (Un.write mu he k heo) (I.hok.write mu he k heo new)
theorem Inv.weak {σ' : List (Option V)} (I : Inv X pins σ H s) (hl : σ'.length = σ.length) (w : ∀ (i : Nat) v, σ'[i]? = some (some v) → σ[i]? = some (some v)) : Inv X pins σ' H s :=
  ⟨I.ok, I.os, I.bare, I.base, let ⟨m, hn, hl'⟩ := I.loc; ⟨m, hn, fun i x v e1 e2 e3 => hl' i x v e1 (w i v e2) e3⟩, I.cell, I.free, I.freeC, I.pin, I.hok, hl.trans I.len⟩
theorem Inv.pins_of {pins' : List (Addr × Obj)} (I : Inv X pins σ H s) (h : ∀ p ∈ pins', s.heap.get? p.1 = some p.2 ∧ H p.1 = none ∧ p.1 ≠ X.env.locals ∧ p.1 ∉ X.fs ∧ ∀ v, p.2.data ≠ .cell v) : Inv X pins' σ H s :=
  ⟨I.ok, I.os, I.bare, I.base, I.loc, I.cell, I.free, I.freeC, fun p hp => (List.mem_append.mp hp).elim (fun z => I.pin p (List.mem_append_left _ z)) (h p), I.hok, I.len⟩
theorem nodup_ix {N : List Str} (hN : N.Nodup) {i j : Nat} {x : Str} (a : N[i]? = some x) (b : N[j]? = some x) : i = j := by
  obtain ⟨h1, e1⟩ := List.getElem?_eq_some_iff.mp a
  obtain ⟨h2, e2⟩ := List.getElem?_eq_some_iff.mp b
  exact (List.getElem_inj hN).mp (e1.trans e2.symm)
theorem store_ok2 {M : Model} {A : Around} {E : Value → Shared → Prop} {i : Nat} {x : Str} {v : V} {u : Value} {Q : Unit → Shared → Prop} (I : Inv X pins σ H s) (hN : X.N.Nodup) (hi : X.N[i]? = some x) (hx : Loc X.env.scope x) (r : RelV v u)
    (h : ∀ s', Inv X pins (σ.set i (some v)) H s' → (∃ a, Heap.SameBut a s.heap s'.heap ∧ (a = X.env.locals ∨ X.env.cells.lookup x = some a)) → Q () s') (hf : X.fn x = true ∨ X.env.scope.names.lookup x = some .local := by first | exact .inl rfl | exact .inr rfl | assumption) : wpAny M A (storeName X.env x u) Q E s := by
  obtain ⟨m, hn, hl⟩ := id I.loc
  have hcls : (X.env.scope.kind == .class || (X.env.scope.kind == .module && X.env.locals != X.env.globals)) = false := by rw [I.ok.kind]; rfl
  have hiσ : i < σ.length := by rw [I.len]; exact (List.getElem?_eq_some_iff.mp hi).1
  have cne := I.cne
  have tracked : ∀ {a : Addr} {h' : Heap}, (∃ o, s.heap.get? a = some o ∧ H a = none) → Heap.SameBut a s.heap h' → HOk X.prog X.w H h' := fun {a h'} ha hs b ob e => by
    obtain ⟨_, _, hfree⟩ := ha
    refine (I.hok b ob e).stay (fun c w' hc q => (hs.2 c ?_).trans q) (fun _ q => q) fun _ _ q => q
    rintro rfl
    rcases hc with rfl | hc
    · rw [hfree] at e; cases e
    · rw [hfree] at hc; cases hc
  rcases hx with hk | hk
  · refine wpAny_storeName_local hk hn (fun h' hn' hs => ?_) hcls
    obtain ⟨oL, _, _, hoL, _⟩ := id hn
    refine h _ ⟨I.ok, I.os, I.bare, ⟨fun b o e n hb hx => ?_, fun b o e n hb hx => ?_, I.base.free, fun b o e hx => ?_, I.base.tups, I.base.frzs, I.base.tbls⟩, ⟨_, hn', fun j y v' e1 e2 e3 => ?_⟩, fun y c e => ?_, I.free, I.freeC, fun p hp => ?_, tracked ⟨oL, hoL, I.free⟩ hs, by simpa using I.len⟩ ⟨_, hs, .inl rfl⟩
    · exact (hs.2 b (Nat.ne_of_lt (Nat.lt_of_lt_of_le (Heap.lt_size e) I.ok.above))).trans (I.base.keep b o e n hb hx)
    · obtain ⟨sl, e1⟩ := I.base.slot b o e n hb hx
      exact ⟨sl, (hs.2 b (Nat.ne_of_lt (Nat.lt_of_lt_of_le (Heap.lt_size e) I.ok.above))).trans e1⟩
    · obtain ⟨o', e1⟩ := I.base.there b o e hx
      exact ⟨o', (hs.2 b (Nat.ne_of_lt (Nat.lt_of_lt_of_le (Heap.lt_size e) I.ok.above))).trans e1⟩
    · by_cases hj : j = i
      · subst hj
        rw [hi] at e1; cases e1
        rw [List.getElem?_set_self hiσ] at e2
        cases e2
        exact ⟨u, r, .inl ⟨hk, by simp⟩⟩
      · rw [List.getElem?_set_ne (Ne.symm hj)] at e2
        obtain ⟨u', r', q⟩ := hl j y v' e1 e2 e3
        refine ⟨u', r', ?_⟩
        rcases q with ⟨k, e⟩ | ⟨k, c, e, z⟩
        · refine .inl ⟨k, ?_⟩
          have : y ≠ x := fun e => hj (nodup_ix hN e1 (e ▸ hi))
          simp [this, e]
        · exact .inr ⟨k, c, e, z.sameBut hs (cne y c e)⟩
    · obtain ⟨w', z⟩ := I.cell y c e
      exact ⟨w', z.sameBut hs (cne y c e)⟩
    · obtain ⟨e, n, ne, nf, d⟩ := I.pin p hp
      exact ⟨(hs.2 p.1 ne).trans e, n, ne, nf, d⟩
  · have hfn : X.fn x = true := by
      rcases hf with z | z
      · exact z
      · rw [z] at hk; cases hk
    obtain ⟨c, hc⟩ := I.ok.has x (.inl hk)
    obtain ⟨w', z⟩ := I.cell x c hc
    refine wpAny_storeName_cell I.ok.kind hk hc z (fun h' hc' hs => ?_)
    obtain ⟨oc, hoc, hocd⟩ := id z
    refine h { s with heap := h' } ⟨I.ok, I.os, I.bare, ⟨fun b o e n hb hx => ?_, fun b o e n hb hx => ?_, I.base.free, fun b o e hx => ?_, I.base.tups, I.base.frzs, I.base.tbls⟩, ⟨m, hn.sameBut hs (Ne.symm (cne x c hc)), fun j y v' e1 e2 e3 => ?_⟩, fun y c' e => ?_, I.free, I.freeC, fun p hp => ?_, tracked ⟨oc, hoc, I.freeC x c hc⟩ hs, by simpa using I.len⟩ ⟨c, hs, .inr hc⟩
    · exact (hs.2 b (Nat.ne_of_lt (Nat.lt_of_lt_of_le (Heap.lt_size e) (I.ok.cab x c hfn hc)))).trans (I.base.keep b o e n hb hx)
    · obtain ⟨sl, e1⟩ := I.base.slot b o e n hb hx
      exact ⟨sl, (hs.2 b (Nat.ne_of_lt (Nat.lt_of_lt_of_le (Heap.lt_size e) (I.ok.cab x c hfn hc)))).trans e1⟩
    · obtain ⟨o', e1⟩ := I.base.there b o e hx
      exact ⟨o', (hs.2 b (Nat.ne_of_lt (Nat.lt_of_lt_of_le (Heap.lt_size e) (I.ok.cab x c hfn hc)))).trans e1⟩
    · by_cases hj : j = i
      · subst hj
        rw [hi] at e1; cases e1
        rw [List.getElem?_set_self hiσ] at e2
        cases e2
        exact ⟨u, r, .inr ⟨.inl hk, c, hc, hc'⟩⟩
      · rw [List.getElem?_set_ne (Ne.symm hj)] at e2
        obtain ⟨u', r', q⟩ := hl j y v' e1 e2 e3
        refine ⟨u', r', ?_⟩
        rcases q with q | ⟨k, c', e, z'⟩
        · exact .inl q
        · refine .inr ⟨k, c', e, z'.sameBut hs ?_⟩
          rintro rfl
          exact hj (nodup_ix hN e1 (I.ok.inj _ _ _ e hc ▸ hi))
    · by_cases hcc : c' = c
      · subst hcc; exact ⟨_, hc'⟩
      · obtain ⟨w2, z2⟩ := I.cell y c' e
        exact ⟨w2, z2.sameBut hs hcc⟩
    · obtain ⟨e, n, ne, nf, d⟩ := I.pin p hp
      refine ⟨(hs.2 p.1 ?_).trans e, n, ne, nf, d⟩
      intro q
      rw [q, hoc] at e
      have q' : oc = p.2 := Option.some.inj e
      exact d w' (by rw [← q']; exact hocd)
theorem store_ok {M : Model} {A : Around} {E : Value → Shared → Prop} {i : Nat} {x : Str} {v : V} {u : Value} {Q : Unit → Shared → Prop} (I : Inv X pins σ H s) (hN : X.N.Nodup) (hi : X.N[i]? = some x) (hx : Loc X.env.scope x) (r : RelV v u)
    (h : ∀ s', Inv X pins (σ.set i (some v)) H s' → Q () s') (hf : X.fn x = true ∨ X.env.scope.names.lookup x = some .local := by first | exact .inl rfl | exact .inr rfl | assumption) : wpAny M A (storeName X.env x u) Q E s :=
  store_ok2 I hN hi hx r (fun s' I' _ => h s' I') hf
theorem Inv.call' {s' : Shared} {ch : List Addr} (I : Inv X pins σ H s) (ho : s'.os = s.os) (u : Un (frs X.stack) ch H H' s.heap s'.heap) (hok : HOk X.prog X.w H' s'.heap) (hg : AllBare s'.gens)
    (hch : ∀ b ∈ ch, (b ∈ X.ex ∨ X.s₀.heap.objs.size ≤ b) ∧ b ≠ X.env.locals ∧ (∀ x c, X.env.cells.lookup x = some c → c ≠ b) ∧ ∀ p ∈ X.pn ++ pins, p.1 ≠ b) : Inv X pins σ H' s' := by
  obtain ⟨h', g', d', t', o'⟩ := s'
  have e : o' = s.os := ho
  subst e
  exact I.call (g' := g') (t' := t') (d' := d') u hok hg hch
end
abbrev XK := Value → Option Addr → Hp → Prop
abbrev St := List (Option V)
abbrev VK := V → Hp → Prop
abbrev TE := St → Hp → VK → Prop
abbrev TT := St → Hp → (Bool → Hp → Prop) → Prop
abbrev TA := St → Hp → (List V → Hp → Prop) → Prop
structure Ends where
  nx : St → Hp → Prop
  rt : VK
  bk : St → Hp → Prop := fun _ _ => False
  ct : St → Hp → Prop := fun _ _ => False
abbrev TS := Ends → St → Hp → Prop
def EP (X : Cx) (pins : List (Addr × Obj)) (σ : St) (Q : VK) (u : Value) (s' : Shared) : Prop := ∃ v H', Inv X pins σ H' s' ∧ RelV v u ∧ Q v H'
def TP (X : Cx) (pins : List (Addr × Obj)) (σ : St) (Q : Bool → Hp → Prop) (b : Bool) (s' : Shared) : Prop := ∃ H', Inv X pins σ H' s' ∧ Q b H'
def AP (X : Cx) (pins : List (Addr × Obj)) (σ : St) (Q : List V → Hp → Prop) (us : List Value) (s' : Shared) : Prop := ∃ vs H', Inv X pins σ H' s' ∧ Vals vs us ∧ Q vs H'
def SP (X : Cx) (pins : List (Addr × Obj)) (D : Ends) (f : Flow) (s' : Shared) : Prop :=
  match f with
  | .next => ∃ σ' H', Inv X pins σ' H' s' ∧ D.nx σ' H'
  | .brk => ∃ σ' H', Inv X pins σ' H' s' ∧ D.bk σ' H'
  | .cont => ∃ σ' H', Inv X pins σ' H' s' ∧ D.ct σ' H'
  | .ret u => ∃ v σ' H', Inv X pins σ' H' s' ∧ RelV v u ∧ D.rt v H'
def PE (X : Cx) (e : Expr) (t : TE) : Prop :=
  ∀ (pins : List (Addr × Obj)) (s : Shared) (σ : St) (H : Hp) (Q : VK), Inv X pins σ H s → t σ H Q → wpAny (model X.prog X.w) X.A (eval e X.env) (EP X pins σ Q) X.xe s
def PT (X : Cx) (e : Expr) (t : TT) : Prop :=
  ∀ (pins : List (Addr × Obj)) (s : Shared) (σ : St) (H : Hp) (Q : Bool → Hp → Prop), Inv X pins σ H s → t σ H Q → wpAny (model X.prog X.w) X.A (isTrue e X.env (eval e X.env)) (TP X pins σ Q) X.xe s
def PW (X : Cx) (e : Expr) (t : TT) : Prop :=
  ∀ (whole : Sem Value) (pins : List (Addr × Obj)) (s : Shared) (σ : St) (H : Hp) (Q : Bool → Hp → Prop), Inv X pins σ H s → t σ H Q → wpAny (model X.prog X.w) X.A (isTrue e X.env whole) (TP X pins σ Q) X.xe s
theorem PW.pt {X : Cx} {e : Expr} {t : TT} (h : PW X e t) : PT X e t := h _
def PA (X : Cx) (es : List Expr) (t : TA) : Prop :=
  ∀ (pos : Pos) (pins : List (Addr × Obj)) (s : Shared) (σ : St) (H : Hp) (Q : List V → Hp → Prop), Inv X pins σ H s → t σ H Q → wpAny (model X.prog X.w) X.A (spliced (backTo pos (starEach es X.env))) (AP X pins σ Q) X.xe s
def PS (X : Cx) (st : Stmt) (t : TS) : Prop :=
  ∀ (pins : List (Addr × Obj)) (s : Shared) (σ : St) (H : Hp) (D : Ends), Inv X pins σ H s → t D σ H → wpAny (model X.prog X.w) X.A (exec st X.env) (SP X pins D) X.xe s
def PSs (X : Cx) (st : List Stmt) (t : TS) : Prop :=
  ∀ (pins : List (Addr × Obj)) (s : Shared) (σ : St) (H : Hp) (D : Ends), Inv X pins σ H s → t D σ H → wpAny (model X.prog X.w) X.A (execs st X.env) (SP X pins D) X.xe s
theorem thn {α : Type} {t : Sem α} {Q Q' : α → Shared → Prop} {M : Model} {A : Around} {E : Value → Shared → Prop} {s : Shared} (h : wpAny M A t Q E s) (hQ : ∀ a s, Q a s → Q' a s) : wpAny M A t Q' E s := wpAny_mono h hQ fun _ _ x => x
end L2
namespace L2
open PySem PySem.Spec PyProof.Rows
section
variable {X : Cx}
def tVar (i : Nat) : TE := fun σ H Q => ∃ v, σ[i]? = some (some v) ∧ Q v H
def tC (v : V) : TE := fun _ H Q => Q v H
theorem pe_var {i : Nat} {x : Str} {pos : Pos} (hN : X.N[i]? = some x) (hv : Vis X.env.scope x) (hd : (x == ("__debug__" : Str)) = false := by decide) (hcd : (x == ("__classdict__" : Str)) = false := by decide) : PE X (.Name x pos) (tVar i) := by
  intro pins s σ H Q I h
  obtain ⟨v, e, h⟩ := h
  obtain ⟨m, hn, hl⟩ := I.loc
  obtain ⟨u, r, l⟩ := hl i x v hN e hv
  have fin : EP X pins σ Q u s := ⟨v, H, I, r, h⟩
  rcases l with ⟨hk, hm⟩ | ⟨hk, c, hc, hcell⟩
  · exact wpAny_Name (wpAny_loadName_local I.ok.kind hk hn hm fin) hd
  · rcases hk with hk | hk
    · exact wpAny_Name (wpAny_loadName_cell I.ok.kind hk hc hcell fin) hd
    · exact wpAny_Name (wpAny_loadName_free I.ok.kind hk hc hcell fin hcd) hd
theorem pe_int {i j pos} : PE X (.Constant (.int i) j pos) (tC (.int i)) := fun _ _ _ H _ I h => wpAny_Constant_int ⟨.int i, H, I.tok _, ⟨_, rfl⟩, h⟩
theorem pe_bl {b j pos} : PE X (.Constant (.bool b) j pos) (tC (.bl b)) := fun _ _ _ H _ I h => Constant_bool ⟨.bl b, H, I, rfl, h⟩
theorem pe_non {j pos} : PE X (.Constant .none j pos) (tC .non) := fun _ _ _ H _ I h => Constant_none ⟨.non, H, I, rfl, h⟩
def Gl (X : Cx) (x : Str) : Prop := X.env.kindOf x = some .globalImplicit
theorem ld_glob {E : Value → Shared → Prop} {pins : List (Addr × Obj)} {s : Shared} {σ : St} {H : Hp} {x : Str} {u : Value} {pos : Pos} {Q : Value → Shared → Prop} (I : Inv X pins σ H s) (hg : Gl X x) (hm : X.mg x = some u) (h : Q u s)
    (hd : (x == ("__debug__" : Str)) = false := by decide) : wpAny (model X.prog X.w) X.A (eval (.Name x pos) X.env) Q E s :=
  Calls.Name_function_global I.ok.kind hg (Calls.loadGlobal_global (by rw [I.ok.glob]; exact I.mod.glob.keeps I.bk) hm h) hd
theorem ld_blt {E : Value → Shared → Prop} {pins : List (Addr × Obj)} {s : Shared} {σ : St} {H : Hp} {x : Str} {u : Value} {pos : Pos} {Q : Value → Shared → Prop} (I : Inv X pins σ H s) (hg : Gl X x) (hm : X.mg x = none) (hv : bootBuiltins x = some u) (h : Q u s)
    (hn : x ≠ "__name__" := by decide) (hd : (x == ("__debug__" : Str)) = false := by decide) : wpAny (model X.prog X.w) X.A (eval (.Name x pos) X.env) Q E s := by
  obtain ⟨mb, h1, h2⟩ := I.mod.blt
  exact Calls.Name_function_global I.ok.kind hg (Calls.loadGlobal_builtin (by rw [I.ok.glob]; exact I.mod.glob.keeps I.bk) hm (by rw [I.ok.blt]; exact h1.keeps I.bk) ((h2 x hn).trans hv) h) hd
def t2I (ta tb : TE) (k : Int → Int → Hp → Prop) : St → Hp → Prop := fun σ H => ta σ H fun x H1 => tb σ H1 fun y H2 => ∃ i j, x = .int i ∧ y = .int j ∧ k i j H2
def tAdd (ta tb : TE) : TE := fun σ H Q => t2I ta tb (fun i j H2 => Q (.int (i + j)) H2) σ H
def tSub (ta tb : TE) : TE := fun σ H Q => t2I ta tb (fun i j H2 => Q (.int (i - j)) H2) σ H
def tMul (ta tb : TE) : TE := fun σ H Q => t2I ta tb (fun i j H2 => (-(2 ^ 64) < i ∧ i < 2 ^ 64) ∧ Q (.int (i * j)) H2) σ H
variable {a b : Expr} {ta tb : TE} {pos : Pos}
def PC (X : Cx) (op : CmpOp) (a b : Expr) (t : TE) : Prop :=
  ∀ (pins : List (Addr × Obj)) (s : Shared) (σ : St) (H : Hp) (Q : VK), Inv X pins σ H s → t σ H Q →
    wpAny (model X.prog X.w) X.A (eval a X.env) (fun v s₁ => wpAny (model X.prog X.w) X.A (eval b X.env) (fun u s₂ => wpAny (model X.prog X.w) X.A (compareOp op v u) (EP X pins σ Q) X.xe s₂) X.xe s₁) X.xe s
theorem nobehind (b : Expr) {op : CmpOp} (h : op ≠ .In) (h2 : op ≠ .NotIn) : behindInMarks op b = false := by
  have e1 : (op == CmpOp.In) = false := by cases op <;> first | rfl | exact absurd rfl h
  have e2 : (op == CmpOp.NotIn) = false := by cases op <;> first | rfl | exact absurd rfl h2
  cases b <;> simp [behindInMarks, e1, e2]
def tCmp (p : Int → Int → Bool) (ta tb : TE) : TE := fun σ H Q => t2I ta tb (fun i j H2 => Q (.bl (p i j)) H2) σ H
abbrev tLt : TE → TE → TE := tCmp fun i j => decide (i < j)
abbrev tLe : TE → TE → TE := tCmp fun i j => decide (i ≤ j)
abbrev tGt : TE → TE → TE := tCmp fun i j => decide (j < i)
abbrev tGe : TE → TE → TE := tCmp fun i j => decide (j ≤ i)
abbrev tEqI : TE → TE → TE := tCmp fun i j => decide (i = j)
abbrev tNeI : TE → TE → TE := tCmp fun i j => !decide (i = j)
def tIsN (ta : TE) : TE := fun σ H Q => ta σ H fun x H1 => Q (.bl (decide (x = .non))) H1
def tNotN (ta : TE) : TE := fun σ H Q => ta σ H fun x H1 => Q (.bl (!decide (x = .non))) H1
def tB (t : TE) : TT := fun σ H Q => t σ H fun x H1 => ∃ c, x = .bl c ∧ Q c H1
theorem pt_cmp {op : CmpOp} {t : TE} (h : PC X op a b t) (h1 : behindInMarks op b = false := by first | exact nobehind _ (by decide) (by decide) | rfl) : PT X (.Compare a [op] [b] pos) (tB t) := by
  intro pins s σ H Q I hw
  refine wpAny_isTrue_Compare1 (thn (h pins s σ H _ I hw) fun v s1 h1 => thn h1 fun u s2 h2 => thn h2 fun c s3 ⟨x, H1, I1, r1, q1⟩ => ?_) h1
  obtain ⟨d, rfl, q⟩ := q1
  cases r1
  exact wpAny_truthy_bool ⟨H1, I1, q⟩
theorem pt_val {e : Expr} {t : TE} (h : PE X e t) (he : ∀ whole, isTrue e X.env whole = (do let v ← whole; standAt e.pos; holding [v] (truthy v)) := by intro _; rfl) : PT X e (tB t) := by
  intro pins s σ H Q I hw
  refine isTrue_plain (thn (h pins s σ H _ I hw) fun v s1 ⟨x, H1, I1, r1, q1⟩ => ?_) (he _)
  obtain ⟨d, rfl, q⟩ := q1
  cases r1
  exact wpAny_truthy_bool ⟨H1, I1, q⟩
variable {tA tB' : TT} {rest : List Expr}
def tAnd (t u : TT) : TT := fun σ H Q => t σ H fun c H1 => if c = true then u σ H1 Q else Q false H1
def tOr (t u : TT) : TT := fun σ H Q => t σ H fun c H1 => if c = true then Q true H1 else u σ H1 Q
def tNot (t : TT) : TT := fun σ H Q => t σ H fun c H1 => Q (!c) H1
theorem pw_and1 (ha : PT X a tA) : PW X (.BoolOp .And [a] pos) tA := by
  intro wh pins s σ H Q I h
  refine isTrue_and (thn (ha pins s σ H Q I h) fun c s1 e => ?_)
  cases c with
  | true => exact isTrue_and_nil e
  | false => exact e
theorem pw_and (ha : PT X a tA) (hb : PW X (.BoolOp .And (b :: rest) pos) tB') : PW X (.BoolOp .And (a :: b :: rest) pos) (tAnd tA tB') := by
  intro wh pins s σ H Q I h
  refine isTrue_and (thn (ha pins s σ H _ I h) fun c s1 ⟨H1, I1, q1⟩ => ?_)
  cases c with
  | true => exact hb wh pins s1 σ H1 Q I1 q1
  | false => exact ⟨H1, I1, q1⟩
def tAndV (ta tb : TE) : TE := fun σ H Q => ta σ H fun x H1 => ∃ c, x = .bl c ∧ if c = true then tb σ H1 Q else Q (.bl false) H1
def tOrV (ta tb : TE) : TE := fun σ H Q => ta σ H fun x H1 => ∃ c, x = .bl c ∧ if c = true then Q (.bl true) H1 else tb σ H1 Q
def tNotV (ta : TE) : TE := fun σ H Q => ta σ H fun x H1 => ∃ c, x = .bl c ∧ Q (.bl (!c)) H1
def tIf (t : TT) (ta tb : TE) : TE := fun σ H Q => t σ H fun c H1 => if c = true then ta σ H1 Q else tb σ H1 Q
end
end L2
namespace L2
open PySem PySem.Spec PyProof.Rows
def SqL (K : PySem.W.Frag) (H : Hp) (a : Addr) (xs : List V) : Prop :=
  Rd H a (.lst xs) ∨
    ∃ (o : Obj) (its : Array Value) (n : Nat), K.lookup a = some o ∧ o.cls = .type "list" ∧ o.dict = none ∧ o.data = .seq its n ∧ its.size ≤ sizeLine ∧ Vals xs its.toList
def SqT (K : PySem.W.Frag) (H : Hp) (a : Addr) (xs : List V) : Prop :=
  Rd H a (.tup xs) ∨
    ∃ (o : Obj) (its : Array Value) (n : Nat), K.lookup a = some o ∧ o.cls = .type "tuple" ∧ o.data = .seq its n ∧ its.size ≤ sizeLine ∧ Vals xs its.toList
def absV : Value → Option V
  | .none => some .non
  | .bool b => some (.bl b)
  | .int i _ => some (.int i)
  | .str x _ => some (.str x)
  | .bytes b _ => some (.byt b)
  | .float b _ => some (.flt b)
  | .ref a => some (.ref a)
  | .type n => some (.ty n)
  | _ => none
theorem RelV.abs {x : V} {u : Value} (r : RelV x u) : absV u = some x := by
  cases x with
  | non => cases r; rfl
  | bl _ => cases r; rfl
  | int _ => obtain ⟨t, rfl⟩ := r; rfl
  | str _ => obtain ⟨t, rfl⟩ := r; rfl
  | byt _ => obtain ⟨t, rfl⟩ := r; rfl
  | flt _ => obtain ⟨t, rfl⟩ := r; rfl
  | ref _ => cases r; rfl
  | ty _ => cases r; rfl
theorem RelV.inj {x y : V} {u : Value} (r : RelV x u) (q : RelV y u) : x = y := Option.some.inj (r.abs.symm.trans q.abs)
theorem Vals.inj : ∀ {xs ys : List V} {us : List Value}, Vals xs us → Vals ys us → xs = ys
  | _, _, _, .nil, .nil => rfl
  | _, _, _, .cons r t, .cons r' t' => by rw [r.inj r', Vals.inj t t']
section
variable {X : Cx} {pins : List (Addr × Obj)} {σ : St} {H : Hp} {s : Shared} {a : Addr} {xs ys : List V}
theorem SqL.of {K : PySem.W.Frag} (h : H a = some (.lst xs)) : SqL K H a xs := .inl (.inl h)
theorem SqT.of {K : PySem.W.Frag} (h : H a = some (.tup xs)) : SqT K H a xs := .inl (.inl h)
theorem Inv.list (I : Inv X pins σ H s) (h : SqL X.K H a xs) : ∃ its : List Value, Vals xs its ∧ PlainL s.heap a its.toArray ∧ xs.length ≤ sizeLine := by
  rcases h with h | ⟨o, its, n, hk, hc, hd, hs, hz, r⟩
  · obtain ⟨z, its, n, r, e⟩ := h.ok I.hok
    exact ⟨its, r, ⟨_, n, e, rfl, rfl, rfl⟩, z⟩
  · refine ⟨its.toList, r, ⟨o, n, I.kIn a o hk, hc, hd, by simpa using hs⟩, ?_⟩
    have e := r.length
    simp only [Array.length_toList] at e
    omega
theorem Inv.tuple (I : Inv X pins σ H s) (h : SqT X.K H a xs) : ∃ its : List Value, Vals xs its ∧ IsTup s.heap a its.toArray ∧ xs.length ≤ sizeLine := by
  rcases h with h | ⟨o, its, n, hk, hc, hs, hz, r⟩
  · obtain ⟨z, its, r, p⟩ := h.ok I.hok
    exact ⟨its, r, p, z⟩
  · refine ⟨its.toList, r, ⟨o, I.kIn a o hk, hc, n, by simpa using hs⟩, ?_⟩
    have e := r.length
    simp only [Array.length_toList] at e
    omega
theorem Inv.list_inj (I : Inv X pins σ H s) (h : SqL X.K H a xs) (h' : SqL X.K H a ys) : xs = ys := by
  obtain ⟨its, r, ⟨o, n, e, _, _, d⟩, _⟩ := I.list h
  obtain ⟨its', r', ⟨o', n', e', _, _, d'⟩, _⟩ := I.list h'
  rw [e] at e'; cases e'
  rw [d] at d'
  injection d' with d1 _
  have : its = its' := by simpa using congrArg Array.toList d1
  subst this
  exact r.inj r'
theorem Inv.tuple_inj (I : Inv X pins σ H s) (h : SqT X.K H a xs) (h' : SqT X.K H a ys) : xs = ys := by
  obtain ⟨its, r, ⟨o, e, _, n, d⟩, _⟩ := I.tuple h
  obtain ⟨its', r', ⟨o', e', _, n', d'⟩, _⟩ := I.tuple h'
  rw [e] at e'; cases e'
  rw [d] at d'
  injection d' with d1 _
  have : its = its' := by simpa using congrArg Array.toList d1
  subst this
  exact r.inj r'
end
abbrev Cx.wish (X : Cx) (E : Value → Shared → Prop) : Cx := { X with xe := E }
abbrev Cx.nox (X : Cx) : Cx := X.wish fun _ _ => False
theorem Cx.Ok.wish {X : Cx} (ok : X.Ok) (E : Value → Shared → Prop) : (X.wish E).Ok :=
  ⟨ok.mod, ok.kind, ok.glob, ok.blt, ok.above, ok.inj, ok.has, ok.cab, ok.hd, ok.frames, ok.stk, ok.exf, ok.bs, ok.bsz, ok.noex, ok.exfs, ok.funs, ok.frf⟩
theorem Cx.Ok.unwish {X : Cx} {E : Value → Shared → Prop} (ok : (X.wish E).Ok) : X.Ok :=
  ⟨ok.mod, ok.kind, ok.glob, ok.blt, ok.above, ok.inj, ok.has, ok.cab, ok.hd, ok.frames, ok.stk, ok.exf, ok.bs, ok.bsz, ok.noex, ok.exfs, ok.funs, ok.frf⟩
section
variable {X : Cx} {pins : List (Addr × Obj)} {σ : St} {H : Hp} {s : Shared} {E : Value → Shared → Prop}
theorem Inv.wish (I : Inv X pins σ H s) (E : Value → Shared → Prop) : Inv (X.wish E) pins σ H s := ⟨I.ok.wish E, I.os, I.bare, I.base, I.loc, I.cell, I.free, I.freeC, I.pin, I.hok, I.len⟩
theorem Inv.unwish (I : Inv (X.wish E) pins σ H s) : Inv X pins σ H s := ⟨I.ok.unwish, I.os, I.bare, I.base, I.loc, I.cell, I.free, I.freeC, I.pin, I.hok, I.len⟩
theorem SP.unwish {D : Ends} {f : Flow} {s' : Shared} (h : SP (X.wish E) pins D f s') : SP X pins D f s' := by
  cases f with
  | next => obtain ⟨σ', H', I, q⟩ := h; exact ⟨σ', H', I.unwish, q⟩
  | brk => obtain ⟨σ', H', I, q⟩ := h; exact ⟨σ', H', I.unwish, q⟩
  | cont => obtain ⟨σ', H', I, q⟩ := h; exact ⟨σ', H', I.unwish, q⟩
  | ret u => obtain ⟨v, σ', H', I, r, q⟩ := h; exact ⟨v, σ', H', I.unwish, r, q⟩
theorem PE.nox {e : Expr} {t : TE} (h : PE X.nox e t) : PE X e t := fun pins s σ H Q I hw =>
  wpAny_mono (h pins s σ H Q (I.wish _) hw) (fun _ _ ⟨v, H', I', r, q⟩ => ⟨v, H', I'.unwish, r, q⟩) fun _ _ z => False.elim z
theorem PT.nox {e : Expr} {t : TT} (h : PT X.nox e t) : PT X e t := fun pins s σ H Q I hw =>
  wpAny_mono (h pins s σ H Q (I.wish _) hw) (fun _ _ ⟨H', I', q⟩ => ⟨H', I'.unwish, q⟩) fun _ _ z => False.elim z
theorem PSs.nox {st : List Stmt} {t : TS} (h : PSs X.nox st t) : PSs X st t := fun pins s σ H D I hw =>
  wpAny_mono (h pins s σ H D (I.wish _) hw) (fun _ _ q => q.unwish) fun _ _ z => False.elim z
end
section
variable {X : Cx} {st : Stmt} {rest : List Stmt} {t u : TS} {e : Expr} {te : TE} {pos : Pos}
def tNext : TS := fun D σ H => D.nx σ H
def tSeq (t u : TS) : TS := fun D σ H => t { D with nx := u D } σ H
theorem pss_nil : PSs X [] tNext := fun _ _ σ H _ I h => wpAny_execs_nil ⟨σ, H, I, h⟩
theorem pss_cons (h1 : PS X st t) (h2 : PSs X rest u) : PSs X (st :: rest) (tSeq t u) := by
  intro pins s σ H D I h
  refine wpAny_execs_cons (thn (h1 pins s σ H { D with nx := u D } I h) fun f s1 q => ?_)
  cases f with
  | next =>
    obtain ⟨σ', H', I', q⟩ := q
    exact h2 pins s1 σ' H' D I' q
  | ret v => exact q
  | brk => exact q
  | cont => exact q
theorem pss_one (h1 : PS X st t) : PSs X [st] t := by
  intro pins s σ H D I h
  refine wpAny_execs_cons (thn (h1 pins s σ H D I h) fun f s1 q => ?_)
  cases f with
  | next => exact wpAny_execs_nil q
  | ret v => exact q
  | brk => exact q
  | cont => exact q
def tBreak : TS := fun D σ H => D.bk σ H
def tCont : TS := fun D σ H => D.ct σ H
theorem Inv.quiet {pins : List (Addr × Obj)} {σ : St} {H : Hp} {s : Shared} (I : Inv X pins σ H s) : interactive X.env = false := by simp [interactive, I.ok.kind]
def tDrop (te : TE) : TS := fun D σ H => te σ H fun _ H1 => D.nx σ H1
theorem ps_expr (he : PE X e te) (hs : swapsWith e none pos.line X.env = pure false := by rfl) : PS X (.Expr e pos) (tDrop te) := by
  intro pins s σ H D I h
  exact wpAny_Expr_any (thn (he pins s σ H _ I h) fun v s1 ⟨x, H1, I1, r1, q1⟩ => ⟨σ, H1, I1, q1⟩) I.quiet hs
def tRet (te : TE) : TS := fun D σ H => te σ H D.rt
theorem ps_ret (he : PE X e te) : PS X (.Return (some e) pos) (tRet te) := by
  intro pins s σ H D I h
  exact wpAny_Return_some (thn (he pins s σ H _ I h) fun v s1 ⟨x, H1, I1, r1, q1⟩ => ⟨x, σ, H1, I1, r1, q1⟩)
def tRetN : TS := fun D _ H => D.rt .non H
def tIfS (c : TT) (t u : TS) : TS := fun D σ H => c σ H fun b H1 => if b = true then t D σ H1 else u D σ H1
theorem ps_if {c : Expr} {a b : List Stmt} {tc : TT} (hc : PT X c tc) (ha : PSs X a t) (hb : PSs X b u) : PS X (.If c a b pos) (tIfS tc t u) := by
  intro pins s σ H D I h
  refine wpAny_If (thn (hc pins s σ H _ I h) fun d s1 ⟨H1, I1, q1⟩ => ?_)
  cases d with
  | true => exact ha pins s1 σ H1 D I1 q1
  | false => exact hb pins s1 σ H1 D I1 q1
def tNever : TS := fun _ _ _ => False
theorem ps_never : PS X st tNever := fun _ _ _ _ _ _ h => h.elim
end
abbrev TG := V → St → Hp → (St → Hp → Prop) → Prop
abbrev TGs := List V → St → Hp → (St → Hp → Prop) → Prop
def PG (X : Cx) (target : Expr) (t : TG) : Prop :=
  ∀ (pins : List (Addr × Obj)) (s : Shared) (σ : St) (H : Hp) (v : V) (u : Value) (Q : St → Hp → Prop), Inv X pins σ H s → RelV v u → t v σ H Q →
    wpAny (model X.prog X.w) X.A (assign target X.env u) (fun _ s' => ∃ σ' H', Inv X pins σ' H' s' ∧ Q σ' H') X.xe s
def PGs (X : Cx) (ts : List Expr) (t : TGs) : Prop :=
  ∀ (pins : List (Addr × Obj)) (s : Shared) (σ : St) (H : Hp) (vs : List V) (us : List Value) (Q : St → Hp → Prop), Inv X pins σ H s → Vals vs us → t vs σ H Q →
    wpAny (model X.prog X.w) X.A (assignInOrder ((assignEach ts X.env).map (·.2)) us) (fun _ s' => ∃ σ' H', Inv X pins σ' H' s' ∧ Q σ' H') X.xe s
abbrev TSet := V → V → V → Hp → (Hp → Prop) → Prop
def PSet (X : Cx) (t : TSet) : Prop :=
  ∀ (pins : List (Addr × Obj)) (s : Shared) (σ : St) (H : Hp) (o i v : V) (ov iv u : Value) (Q : Hp → Prop), Inv X pins σ H s → RelV o ov → RelV i iv → RelV v u → t o i v H Q →
    wpAny (model X.prog X.w) X.A (setItem ov iv u) (fun _ s' => ∃ H', Inv X pins σ H' s' ∧ Q H') X.xe s
abbrev TIp := V → V → Hp → VK → Prop
def PIp (X : Cx) (op : Operator) (t : TIp) : Prop :=
  ∀ (pins : List (Addr × Obj)) (s : Shared) (σ : St) (H : Hp) (x y : V) (v u : Value) (Q : VK), Inv X pins σ H s → RelV x v → RelV y u → t x y H Q →
    wpAny (model X.prog X.w) X.A (inplaceOp op v u) (EP X pins σ Q) X.xe s
section
variable {X : Cx} {pos : Pos}
def gName (i : Nat) : TG := fun v σ H Q => Q (σ.set i (some v)) H
theorem pg_name {i : Nat} {x : Str} (hN : X.N.Nodup) (hi : X.N[i]? = some x) (hx : Loc X.env.scope x) (hf : X.fn x = true ∨ X.env.scope.names.lookup x = some .local := by first | exact .inl rfl | exact .inr rfl | assumption) : PG X (.Name x pos) (gName i) := by
  intro pins s σ H v u Q I r h
  exact wpAny_assign_Name (store_ok I hN hi hx r (fun s' I' => ⟨_, H, I', h⟩) hf)
def gNil : TGs := fun vs σ H Q => vs = [] ∧ Q σ H
def gCons (t : TG) (u : TGs) : TGs := fun vs σ H Q => ∃ v r, vs = v :: r ∧ t v σ H fun σ' H' => u r σ' H' Q
theorem pgs_nil : PGs X [] gNil := by
  intro pins s σ H vs us Q I r h
  obtain ⟨e, h⟩ := h
  subst e
  cases r
  exact assignInOrder_nil ⟨σ, H, I, h⟩
theorem pgs_cons {e : Expr} {es : List Expr} {t : TG} {u : TGs} (h1 : PG X e t) (h2 : PGs X es u)
    (hs : (assignEach (e :: es) X.env).map (·.2) = assign e X.env :: (assignEach es X.env).map (·.2) := by rfl) : PGs X (e :: es) (gCons t u) := by
  intro pins s σ H vs us Q I r h
  obtain ⟨v, vr, e1, h⟩ := h
  subst e1
  cases r with
  | cons r rr =>
    rw [hs]
    refine assignInOrder_cons (thn (h1 pins s σ H _ _ _ I r h) fun _ s1 ⟨σ1, H1, I1, q1⟩ => ?_)
    exact h2 pins s1 σ1 H1 _ _ Q I1 rr q1
def gTup (K : PySem.W.Frag) (n : Nat) (t : TGs) : TG := fun v σ H Q => ∃ a xs, v = .ref a ∧ SqT K H a xs ∧ xs.length = n ∧ t xs σ H Q
theorem pg_tup {es : List Expr} {k : Nat} {t : TGs} {n : Nat} (hc : X.calm = true) (h : PGs X es t)
    (hn : (assignEach es X.env).length = n := by rfl) (hst : (assignEach es X.env).findIdx? (·.1) = none := by rfl) : PG X (.Tuple es k pos) (gTup X.K n t) := by
  intro pins s σ H v u Q I r hw
  obtain ⟨a, xs, e1, hq, hl, hw⟩ := hw
  subst e1
  cases r
  obtain ⟨its, rv, ht, hz⟩ := I.tuple hq
  refine assign_Tuple_tuple (I.ok.hd hc) ht (by simp [hn, ← hl, rv.length]) hst fun h' hx => ?_
  have I1 : Inv X pins σ H { s with heap := h' } := I.kept (t' := s.toks) fun b o e => hx b o (Nat.ne_of_lt (Heap.lt_size e)) e
  exact h pins _ σ H xs _ Q I1 (by simpa using rv) hw
def gSub (to ti : TE) (t : TSet) : TG := fun v σ H Q => to σ H fun o H1 => ti σ H1 fun i H2 => t o i v H2 fun H3 => Q σ H3
def tAsg (te : TE) (g : TG) : TS := fun D σ H => te σ H fun x H1 => g x σ H1 D.nx
theorem ps_asg {tg e : Expr} {te : TE} {g : TG} (he : PE X e te) (hg : PG X tg g) (hs : swapsWithSole [tg] e pos.line X.env = pure false := by rfl) (hw : swappedStores [tg] e X.env = pure none := by rfl)
    (h1 : (assignEach [tg] X.env).map (·.2) = [assign tg X.env] := by rfl) : PS X (.Assign [tg] e pos) (tAsg te g) := by
  intro pins s σ H D I h
  refine wpAny_Assign_stores (thn (he pins s σ H _ I h) fun v s1 ⟨x, H1, I1, r1, q1⟩ => ?_) hs hw
  rw [h1]
  exact thn (hg pins s1 σ H1 x v _ I1 r1 q1) fun _ s2 q => q
theorem ps_set {i : Nat} {x : Str} {e : Expr} {te : TE} {pos' : Pos} (hN : X.N.Nodup) (hi : X.N[i]? = some x) (hx : Loc X.env.scope x) (he : PE X e te) (hs : swapsWith e (some (.Name x pos')) pos.line X.env = pure false := by rfl) (hf : X.fn x = true ∨ X.env.scope.names.lookup x = some .local := by first | exact .inl rfl | exact .inr rfl | assumption) :
    PS X (.Assign [.Name x pos'] e pos) (tAsg te (gName i)) := by
  intro pins s σ H D I h
  refine wpAny_Assign_Name (thn (he pins s σ H _ I h) fun v s1 ⟨y, H1, I1, r1, q1⟩ => ?_) hs
  exact store_ok I1 hN hi hx r1 (fun s2 I2 => ⟨_, H1, I2, q1⟩) hf
def tPar (i j : Nat) (ta : TA) : TS := fun D σ H => ta σ H fun vs H1 => ∃ v w, vs = [v, w] ∧ D.nx ((σ.set i (some v)).set j (some w)) H1
def tAug (i : Nat) (te : TE) (ti : TIp) : TS := fun D σ H => ∃ x, σ[i]? = some (some x) ∧ te σ H fun y H1 => ti x y H1 fun z H2 => D.nx (σ.set i (some z)) H2
def tAugS (to ti te : TE) (tget : V → V → Hp → VK → Prop) (tip : TIp) (tset : TSet) : TS := fun D σ H => to σ H fun o H1 => ti σ H1 fun i H2 => tget o i H2 fun x H3 => te σ H3 fun y H4 => tip x y H4 fun z H5 => tset o i z H5 fun H6 => D.nx σ H6
def PGet (X : Cx) (t : V → V → Hp → VK → Prop) : Prop :=
  ∀ (pins : List (Addr × Obj)) (s : Shared) (σ : St) (H : Hp) (o i : V) (ov iv : Value) (Q : VK), Inv X pins σ H s → RelV o ov → RelV i iv → t o i H Q →
    wpAny (model X.prog X.w) X.A (getItem ov iv) (EP X pins σ Q) X.xe s
def ipI (f : Int → Int → Int) : TIp := fun x y H Q => ∃ i j, x = .int i ∧ y = .int j ∧ Q (.int (f i j)) H
end
section
variable {X : Cx} {pos : Pos}
def tWhile (c : TT) (tb : TS) : TS := fun D σ H => ∃ W : Nat → St → Hp → Prop, (∃ m, W m σ H) ∧ ∀ m σ H, W m σ H →
  c σ H fun b H1 => if b = true then ∃ N : St → Hp → Prop, (∀ σ' H', N σ' H' → ∃ m', m' < m ∧ W m' σ' H') ∧ tb { D with nx := N, ct := N, bk := D.nx } σ H1 else D.nx σ H1
theorem ps_while {c : Expr} {body : List Stmt} {tc : TT} {tb : TS} (hp : PassesOwn (model X.prog X.w) X.A X.env X.xe) (hc : PT X c tc) (hb : PSs X body tb) : PS X (.While c body [] pos) (tWhile tc tb) := by
  intro pins s σ H D I h
  obtain ⟨W, ⟨m0, w0⟩, turn⟩ := h
  refine wpAny_While (codeAny_whileLoop (fun n s' => ∃ σ' H', Inv X pins σ' H' s' ∧ W n σ' H') ?_ m0 ⟨σ, H, I, w0⟩)
  rintro n s1 ⟨σ1, H1, I1, w1⟩
  refine wpAny_passesOwn hp (thn (hc pins s1 σ1 H1 _ I1 (turn n σ1 H1 w1)) fun b s2 ⟨H2, I2, q2⟩ => ?_)
  cases b with
  | true =>
    obtain ⟨N, hN, q2⟩ := q2
    rw [if_pos rfl]
    refine wpAny_passesOwn hp (thn (hb pins s2 σ1 H2 _ I2 q2) fun f s3 q3 => ?_)
    cases f with
    | next =>
      obtain ⟨σ3, H3, I3, n3⟩ := q3
      obtain ⟨m', hm, w3⟩ := hN σ3 H3 n3
      exact ⟨m', hm, σ3, H3, I3, w3⟩
    | cont =>
      obtain ⟨σ3, H3, I3, n3⟩ := q3
      obtain ⟨m', hm, w3⟩ := hN σ3 H3 n3
      exact ⟨m', hm, σ3, H3, I3, w3⟩
    | brk => exact q3
    | ret v => exact q3
  | false =>
    rw [if_neg Bool.false_ne_true]
    exact wpAny_execs_nil ⟨σ1, H2, I2, q2⟩
end
structure It where
  go : Nat → Hp → Prop
  yld : Nat → Hp → V → Hp → Prop
  stop : Nat → Hp → Prop
def FpOk (X : Cx) (pins : List (Addr × Obj)) (H : Hp) (b : Addr) : Prop :=
  H b = none ∧ b ≠ X.env.locals ∧ b ∉ X.fs ∧ (b ∈ X.ex ∨ X.s₀.heap.objs.size ≤ b) ∧ (∀ x c, X.env.cells.lookup x = some c → c ≠ b) ∧ ∀ p ∈ X.pn ++ pins, p.1 ≠ b
theorem Inv.fpOk {X : Cx} {pins : List (Addr × Obj)} {σ : St} {H H' : Hp} {s : Shared} {b : Addr} (I : Inv X pins σ H s) (hb : s.heap.objs.size ≤ b) (hn : H' b = none) : FpOk X pins H' b := by
  refine ⟨hn, Nat.ne_of_gt (Nat.lt_of_lt_of_le I.lt hb), I.nofs hb, .inr (Nat.le_trans I.sz hb), fun x c e z => ?_, fun p hp z => ?_⟩
  · obtain ⟨v, q⟩ := I.cell x c e
    exact absurd (Nat.lt_of_lt_of_le q.lt (by rw [z]; exact hb)) (Nat.lt_irrefl _)
  · exact absurd (Nat.lt_of_lt_of_le (Heap.lt_size (I.pin p hp).1) (by rw [z]; exact hb)) (Nat.lt_irrefl _)
structure Turn (P : Program) (w : World) (K : PySem.W.Frag) (tg : Expr) (J : It) (fp : List Addr) (it : Addr) (tn : Nat → Heap → Prop) : Prop where
  mem : it ∈ fp
  obj : ∀ i h, tn i h → ∀ b ∈ fp, ∃ o, h.get? b = some o ∧ ∀ v, o.data ≠ .cell v
  keep : ∀ i h h', tn i h → (∀ b ∈ fp, ∀ o, h.get? b = some o → h'.get? b = some o) → tn i h'
  item : ∀ (X : Cx), X.prog = P → X.w = w → X.K = K → X.calm = true → ∀ (i : Nat) (pins : List (Addr × Obj)) (s : Shared) (σ : St) (H : Hp) (E : Value → Shared → Prop), Inv X pins σ H s → (∀ b ∈ fp, FpOk X pins H b) → tn i s.heap → J.go i H →
    wpAny (model P w) X.A (pyNext (.ref it)) (fun r s1 => ∃ u, r = some u ∧
      wpAny (model P w) X.A (letOwnedTupleGo tg (.ref it) u) (fun _ s2 => ∃ x H', Inv X pins σ H' s2 ∧ RelV x u ∧ J.yld i H x H' ∧ tn (i + 1) s2.heap ∧ ∀ b ∈ fp, H' b = none) E s1) E s
  done : ∀ (X : Cx), X.prog = P → X.w = w → X.K = K → X.calm = true → ∀ (i : Nat) (pins : List (Addr × Obj)) (s : Shared) (σ : St) (H : Hp) (E : Value → Shared → Prop), Inv X pins σ H s → (∀ b ∈ fp, FpOk X pins H b) → tn i s.heap → J.stop i H →
    wpAny (model P w) X.A (pyNext (.ref it)) (fun r s1 => r = none ∧ Inv X pins σ H s1) E s
  self : ∀ (A : Around) (i : Nat) (s : Shared) (Q : Value → Shared → Prop) (E : Value → Shared → Prop), tn i s.heap → Q (.ref it) s → wpAny (model P w) A (pyIter (.ref it)) Q E s
abbrev TI := St → Hp → (It → Hp → Prop) → Prop
def PIE (X : Cx) (pins : List (Addr × Obj)) (σ : St) (tg : Expr) (R : It → Hp → Prop) (itv : Value) (s2 : Shared) : Prop :=
  ∃ (it : Addr) (fp : List Addr) (tn : Nat → Heap → Prop) (J : It) (H' : Hp), itv = .ref it ∧ Inv X pins σ H' s2 ∧ Turn X.prog X.w X.K tg J fp it tn ∧ tn 0 s2.heap ∧ (∀ b ∈ fp, FpOk X pins H' b) ∧ R J H'
def PI (X : Cx) (tg iter : Expr) (wi : TI) : Prop :=
  ∀ (pins : List (Addr × Obj)) (s : Shared) (σ : St) (H : Hp) (R : It → Hp → Prop), Inv X pins σ H s → wi σ H R →
    wpAny (model X.prog X.w) X.A (eval iter X.env) (fun v s1 => wpAny (model X.prog X.w) X.A (pyIter v) (PIE X pins σ tg R) X.xe s1) X.xe s
theorem go_of {M : Model} {A : Around} {E : Value → Shared → Prop} {s : Shared} {tg : Expr} {it : Addr} {u : Value} {o : Obj} {n : String} {vs : Array Value} {Q : Unit → Shared → Prop} (ho : s.heap.get? it = some o) (hc : o.cls = .type n) (hd : o.data = .fields vs)
    (hn : ["enumerate", "zip", "dict_itemiterator", "dict_reverseitemiterator", "odict_iterator", "itertools.zip_longest", "itertools.pairwise"].contains n = false) (hQ : Q () s) : wpAny M A (letOwnedTupleGo tg (.ref it) u) Q E s := by
  unfold letOwnedTupleGo
  cases tg <;> first
    | exact wpAny_pure hQ
    | (cases u <;> first
        | exact wpAny_pure hQ
        | (refine wpAny_bind (wpAny_load ho ?_)
           rw [hc, hd]
           show wpAny M A (if (["enumerate", "zip", "dict_itemiterator", "dict_reverseitemiterator", "odict_iterator", "itertools.zip_longest", "itertools.pairwise"].contains n && vs[0]? == some (rawInt _)) = true then _ else _) Q E s
           rw [if_neg (by intro h; rw [hn, Bool.false_and] at h; cases h)]
           exact wpAny_pure hQ))
def Itl (K : PySem.W.Frag) (a : Addr) : It :=
  ⟨fun i H => ∃ xs x, SqL K H a xs ∧ xs[i]? = some x, fun i H x H' => H' = H ∧ ∀ xs, SqL K H a xs → xs[i]? = some x, fun i H => ∃ xs, SqL K H a xs ∧ xs.length ≤ i⟩
def Itt (K : PySem.W.Frag) (a : Addr) : It :=
  ⟨fun i H => ∃ xs x, SqT K H a xs ∧ xs[i]? = some x, fun i H x H' => H' = H ∧ ∀ xs, SqT K H a xs → xs[i]? = some x, fun i H => ∃ xs, SqT K H a xs ∧ xs.length ≤ i⟩
def Itr (lo : Int) (n : Nat) : It := ⟨fun i _ => i < n, fun i H x H' => H' = H ∧ x = .int (lo + i), fun i _ => n ≤ i⟩
theorem turn_list {P : Program} {w : World} {K : PySem.W.Frag} {tg : Expr} (a it : Addr) : Turn P w K tg (Itl K a) [it] it (fun i h => h.IsListIter it a i) where
  mem := by simp
  obj := fun i h st b hb => by
    have e : b = it := by simpa using hb
    subst e
    obtain ⟨o, e, c, d⟩ := st
    exact ⟨o, e, fun v z => by rw [d] at z; cases z⟩
  keep := fun i h h' st k => st.at fun o e => k it (by simp) o e
  item := by
    intro X hP hw hK hc i pins s σ H E I hf st hg
    subst hP hw hK
    obtain ⟨xs, x, hq, hx⟩ := hg
    obtain ⟨its, rv, p, hz⟩ := I.list hq
    obtain ⟨u, hu, ru⟩ := rv.get hx
    obtain ⟨f0, f1, f2, f3, f4, f5⟩ := hf it (by simp)
    refine wpAny_pyNext_list_item st p.isList (x := u) (by simpa using hu) fun h' st' sb => ?_
    have I1 : Inv X pins σ H { s with heap := h' } := I.turned (t' := s.toks) (fun b o hb e => (sb.2 b hb).trans e) f0 f1 f3 f4 f5
    obtain ⟨o, e, c, d⟩ := id st'
    exact ⟨u, rfl, go_of (s := { s with heap := h' }) e c d (by decide) ⟨x, H, I1, ru, ⟨rfl, fun ys hy => by rw [I.list_inj hy hq]; exact hx⟩, st', fun b hb => (hf b hb).1⟩⟩
  done := by
    intro X hP hw hK hc i pins s σ H E I hf st hg
    subst hP hw hK
    obtain ⟨xs, hq, hx⟩ := hg
    obtain ⟨its, rv, p, hz⟩ := I.list hq
    obtain ⟨f0, f1, f2, f3, f4, f5⟩ := hf it (by simp)
    have hl := rv.length
    exact wpAny_pyNext_list_end (I.ok.hd hc) st p.isList (by simp; omega) fun h' eb => ⟨rfl, I.turned (t' := s.toks) (fun b o hb e => eb b o hb e) f0 f1 f3 f4 f5⟩
  self := fun _ _ _ _ _ st h => wpAny_pyIter_listiter st h
theorem turn_tuple {P : Program} {w : World} {K : PySem.W.Frag} {tg : Expr} (a it : Addr) : Turn P w K tg (Itt K a) [it] it (fun i h => h.IsTupleIter it a i) where
  mem := by simp
  obj := fun i h st b hb => by
    have e : b = it := by simpa using hb
    subst e
    obtain ⟨o, e, c, d⟩ := st
    exact ⟨o, e, fun v z => by rw [d] at z; cases z⟩
  keep := fun i h h' st k => st.at fun o e => k it (by simp) o e
  item := by
    intro X hP hw hK hc i pins s σ H E I hf st hg
    subst hP hw hK
    obtain ⟨xs, x, hq, hx⟩ := hg
    obtain ⟨its, rv, p, hz⟩ := I.tuple hq
    obtain ⟨u, hu, ru⟩ := rv.get hx
    obtain ⟨f0, f1, f2, f3, f4, f5⟩ := hf it (by simp)
    refine wpAny_pyNext_tuple_item st (show s.heap.IsTuple a its.toArray from p) (x := u) (by simpa using hu) fun h' st' sb => ?_
    have I1 : Inv X pins σ H { s with heap := h' } := I.turned (t' := s.toks) (fun b o hb e => (sb.2 b hb).trans e) f0 f1 f3 f4 f5
    obtain ⟨o, e, c, d⟩ := id st'
    exact ⟨u, rfl, go_of (s := { s with heap := h' }) e c d (by decide) ⟨x, H, I1, ru, ⟨rfl, fun ys hy => by rw [I.tuple_inj hy hq]; exact hx⟩, st', fun b hb => (hf b hb).1⟩⟩
  done := by
    intro X hP hw hK hc i pins s σ H E I hf st hg
    subst hP hw hK
    obtain ⟨xs, hq, hx⟩ := hg
    obtain ⟨its, rv, p, hz⟩ := I.tuple hq
    obtain ⟨f0, f1, f2, f3, f4, f5⟩ := hf it (by simp)
    have hl := rv.length
    exact wpAny_pyNext_tuple_end (I.ok.hd hc) st (show s.heap.IsTuple a its.toArray from p) (by simp; omega) fun h' eb => ⟨rfl, I.turned (t' := s.toks) (fun b o hb e => eb b o hb e) f0 f1 f3 f4 f5⟩
  self := fun _ _ _ _ _ st h => wpAny_pyIter_tupleiter st h
theorem turn_range {P : Program} {w : World} {K : PySem.W.Frag} {tg : Expr} (it : Addr) (lo : Int) (n : Nat) : Turn P w K tg (Itr lo n) [it] it (fun i h => IsRangeIter h it (lo + (i : Nat) * 1) ((n : Int) - (i : Nat)) 1) where
  mem := by simp
  obj := fun i h st b hb => by
    have e : b = it := by simpa using hb
    subst e
    exact ⟨_, st, fun v z => by
      have z' : Data.fields _ = Data.cell v := z
      cases z'⟩
  keep := fun i h h' st k => k it (by simp) _ st
  item := by
    intro X hP hw hK hc i pins s σ H E I hf st hg
    subst hP hw hK
    obtain ⟨f0, f1, f2, f3, f4, f5⟩ := hf it (by simp)
    have W := Walks.range (prog := X.prog) (w := X.w) (I.ok.hd hc) it lo 1 n
    refine W.item i s _ _ hg st fun v h' tk hv st' kk => ?_
    obtain ⟨t, rfl⟩ := hv
    have I1 : Inv X pins σ H { s with heap := h', toks := tk } := I.turned (fun b o hb e => kk b o (by simpa using hb) e) f0 f1 f3 f4 f5
    refine ⟨_, rfl, go_of (s := { s with heap := h', toks := tk }) (n := "range_iterator") st' rfl rfl (by decide) ⟨.int (lo + i), H, I1, ⟨t, ?_⟩, ⟨rfl, rfl⟩, st', fun b hb => (hf b hb).1⟩⟩
    rw [Int.mul_one]
  done := by
    intro X hP hw hK hc i pins s σ H E I hf st hg
    subst hP hw hK
    obtain ⟨f0, f1, f2, f3, f4, f5⟩ := hf it (by simp)
    exact wpAny_pyNext_range_end (I.ok.hd hc) st (by have : n ≤ i := hg; omega) fun h' eb => ⟨rfl, I.turned (t' := s.toks) (fun b o hb e => eb b o hb e) f0 f1 f3 f4 f5⟩
  self := fun _ _ _ _ _ st h => wpAny_pyIter_rangeiter st h
end L2
namespace L2
open PySem PySem.Spec PyProof.Rows
section
variable {X : Cx} {tg : Expr}
def iList (K : PySem.W.Frag) (tl : TE) : TI := fun σ H R => tl σ H fun x H1 => ∃ a, x = .ref a ∧ (∃ xs, SqL K H1 a xs) ∧ R (Itl K a) H1
def iTup (K : PySem.W.Frag) (tl : TE) : TI := fun σ H R => tl σ H fun x H1 => ∃ a, x = .ref a ∧ (∃ xs, SqT K H1 a xs) ∧ R (Itt K a) H1
theorem pi_list {l : Expr} {tl : TE} (hl : PE X l tl) : PI X tg l (iList X.K tl) := by
  intro pins s σ H R I h
  refine thn (hl pins s σ H _ I h) fun v s1 ⟨x, H1, I1, r1, q1⟩ => ?_
  obtain ⟨a, e, ⟨xs, hq⟩, q⟩ := q1
  subst e
  cases r1
  obtain ⟨its, rv, p, hz⟩ := I1.list hq
  refine wpAny_pyIter_list p.isList ?_
  refine ⟨s1.heap.objs.size, [s1.heap.objs.size], _, _, H1, rfl, I1.kept (t' := s1.toks) fun b o e => Heap.get?_push_of_some _ e, turn_list a _, ⟨_, Heap.get?_push_size _ rfl, rfl, rfl⟩, fun b hb => ?_, q⟩
  have e : b = s1.heap.objs.size := by simpa using hb
  subst e
  exact I1.fpOk (Nat.le_refl _) (I1.hok.fresh (Nat.le_refl _))
theorem pi_tup {l : Expr} {tl : TE} (hl : PE X l tl) : PI X tg l (iTup X.K tl) := by
  intro pins s σ H R I h
  refine thn (hl pins s σ H _ I h) fun v s1 ⟨x, H1, I1, r1, q1⟩ => ?_
  obtain ⟨a, e, ⟨xs, hq⟩, q⟩ := q1
  subst e
  cases r1
  obtain ⟨its, rv, p, hz⟩ := I1.tuple hq
  refine wpAny_pyIter_tuple (show s1.heap.IsTuple a its.toArray from p) ?_
  refine ⟨s1.heap.objs.size, [s1.heap.objs.size], _, _, H1, rfl, I1.kept (t' := s1.toks) fun b o e => Heap.get?_push_of_some _ e, turn_tuple a _, ⟨_, Heap.get?_push_size _ rfl, rfl, rfl⟩, fun b hb => ?_, q⟩
  have e : b = s1.heap.objs.size := by simpa using hb
  subst e
  exact I1.fpOk (Nat.le_refl _) (I1.hok.fresh (Nat.le_refl _))
theorem range_it {pins : List (Addr × Obj)} {σ : St} {H : Hp} {s : Shared} {R : It → Hp → Prop} {E : Value → Shared → Prop} {lo hi : Int} {t u v : Tok} {tk : Nat} (I : Inv X pins σ H s) (h1 : -(2 ^ 62) ≤ lo) (h2 : lo < 2 ^ 62) (h3 : -(2 ^ 62) ≤ hi) (h4 : hi < 2 ^ 62)
    (q : R (Itr lo (hi - lo).toNat) H) : wpAny (model X.prog X.w) X.A (pyIter (.ref s.heap.objs.size)) (PIE X pins σ tg R) E { s with heap := s.heap.push { cls := .type "range", data := .fields #[.int lo t, .int hi u, .int 1 v] }, toks := tk } := by
  refine wpAny_pyIter_range (IsRange.new ..) (small_one h1 h2 h3 h4) ?_
  have I1 : Inv X pins σ H { s with heap := s.heap.push { cls := .type "range", data := .fields #[.int lo t, .int hi u, .int 1 v] }, toks := tk } := I.kept fun b o e => Heap.get?_push_of_some _ e
  refine ⟨(s.heap.push { cls := .type "range", data := .fields #[.int lo t, .int hi u, .int 1 v] }).objs.size, [(s.heap.push { cls := .type "range", data := .fields #[.int lo t, .int hi u, .int 1 v] }).objs.size], _, _, H, rfl,
    I1.kept (t' := tk) fun b o e => Heap.get?_push_of_some _ e, turn_range _ lo (hi - lo).toNat, ?_, fun b hb => ?_, q⟩
  · have e1 : lo + ((0 : Nat) : Int) * 1 = lo := by simp
    have e2 : (((hi - lo).toNat : Nat) : Int) - ((0 : Nat) : Int) = Builtin.Range.rangeSize lo hi 1 := by rw [rangeSize_one]; split <;> omega
    show IsRangeIter _ _ (lo + ((0 : Nat) : Int) * 1) ((((hi - lo).toNat : Nat) : Int) - ((0 : Nat) : Int)) 1
    rw [e1, e2]
    exact Heap.get?_push_size _ rfl
  · have e : b = (s.heap.push { cls := .type "range", data := .fields #[.int lo t, .int hi u, .int 1 v] }).objs.size := by simpa using hb
    subst e
    exact I1.fpOk (Nat.le_refl _) (I1.hok.fresh (Nat.le_refl _))
def iRng1 (ta : TA) : TI := fun σ H R => ta σ H fun vs H1 => ∃ j : Int, vs = [.int j] ∧ -(2 ^ 62) ≤ j ∧ j < 2 ^ 62 ∧ R (Itr 0 j.toNat) H1
def iRng2 (ta : TA) : TI := fun σ H R => ta σ H fun vs H1 => ∃ i j : Int, vs = [.int i, .int j] ∧ (-(2 ^ 62) ≤ i ∧ i < 2 ^ 62 ∧ -(2 ^ 62) ≤ j ∧ j < 2 ^ 62) ∧ R (Itr i (j - i).toNat) H1
theorem pi_range1 {a : Expr} {ta : TA} {p pos : Pos} (hg : Gl X "range") (hm : X.mg "range" = none) (ha : PA X [a] ta) (hs : starEach [a] X.env = [(false, eval a X.env)] := by rfl) : PI X tg (.Call (.Name "range" p) [a] [] pos) (iRng1 ta) := by
  intro pins s σ H R I h
  refine Call_ (ld_blt I hg hm boot_range (PyProof.Rows.callWith_type1 (thn (ha pos pins s σ H _ I h) fun us s1 ⟨vs, H1, I1, r1, q1⟩ => ?_) hs rfl))
  obtain ⟨j, e, q1, q2, q⟩ := q1
  subst e
  cases r1 with
  | cons r rr =>
    cases rr
    obtain ⟨t, rfl⟩ := r
    exact call_range_1 (range_it I1 (by omega) (by omega) q1 q2 (by simpa using q))
def tFor (wi : TI) (g : TG) (tb : TS) : TS := fun D σ H => wi σ H fun J H1 => ∃ W : Nat → Nat → St → Hp → Prop, (∃ m, W 0 m σ H1) ∧ ∀ i m σ H, W i m σ H →
  (J.stop i H ∧ D.nx σ H) ∨ (J.go i H ∧ ∃ N : St → Hp → Prop, (∀ σ' H', N σ' H' → ∃ m', m' < m ∧ W (i + 1) m' σ' H') ∧ ∀ x H', J.yld i H x H' → g x σ H' fun σ2 H2 => tb { D with nx := N, ct := N, bk := D.nx } σ2 H2)
def pinsAt (fp : List Addr) (h : Heap) : List (Addr × Obj) := fp.filterMap fun b => (h.get? b).map fun o => (b, o)
theorem mem_pinsAt {fp : List Addr} {h : Heap} {b : Addr} {o : Obj} (hb : b ∈ fp) (e : h.get? b = some o) : (b, o) ∈ pinsAt fp h := List.mem_filterMap.mpr ⟨b, hb, by rw [e]; rfl⟩
theorem of_pinsAt {fp : List Addr} {h : Heap} {p : Addr × Obj} (hp : p ∈ pinsAt fp h) : p.1 ∈ fp ∧ h.get? p.1 = some p.2 := by
  obtain ⟨b, hb, e⟩ := List.mem_filterMap.mp hp
  cases q : h.get? b with
  | none => rw [q] at e; cases e
  | some o =>
    rw [q] at e
    have e' : (b, o) = p := Option.some.inj e
    subst e'
    exact ⟨hb, q⟩
theorem Inv.pinned {pins : List (Addr × Obj)} {σ : St} {H : Hp} {s : Shared} {fp : List Addr} (I : Inv X pins σ H s) (hf : ∀ b ∈ fp, FpOk X pins H b) (ho : ∀ b ∈ fp, ∃ o, s.heap.get? b = some o ∧ ∀ v, o.data ≠ .cell v) : Inv X (pins ++ pinsAt fp s.heap) σ H s :=
  I.pins_of fun p hp => (List.mem_append.mp hp).elim (fun z => I.pin p (List.mem_append_right _ z)) fun z => by
    obtain ⟨hb, e⟩ := of_pinsAt z
    obtain ⟨f0, f1, f2, _⟩ := hf p.1 hb
    obtain ⟨o, e', d⟩ := ho p.1 hb
    rw [e] at e'; cases e'
    exact ⟨e, f0, f1, f2, d⟩
theorem Inv.unpinned {pins pl : List (Addr × Obj)} {σ : St} {H : Hp} {s : Shared} (I : Inv X (pins ++ pl) σ H s) : Inv X pins σ H s := I.pins_of fun p hp => I.pin p (List.mem_append_right _ (List.mem_append_left _ hp))
theorem ps_for {iter : Expr} {body : List Stmt} {wi : TI} {g : TG} {tb : TS} {pos : Pos} (hp : PassesOwn (model X.prog X.w) X.A X.env X.xe) (hc : X.calm = true) (hi : PI X tg iter wi) (hg : PG X tg g) (hb : PSs X body tb)
    (hs : ∀ x, foldedSetIterable iter X.env x = pure x := by intro _; rfl) : PS X (.For tg iter body [] pos) (tFor wi g tb) := by
  intro pins s σ H D I h
  refine wpAny_For (thn (hi pins s σ H _ I h) fun v s1 h1 => thn h1 fun itv s2 h2 => ?_) hs
  obtain ⟨it, fp, tn, J, H2, e, I2, T, st2, f2, W, ⟨m0, w0⟩, turn⟩ := h2
  subst e
  -- what stays true of the iterator's objects through the loop
  have stat : ∀ {H' : Hp}, (∀ b ∈ fp, H' b = none) → ∀ b ∈ fp, FpOk X pins H' b := fun hn b hb => ⟨hn b hb, (f2 b hb).2⟩
  refine codeAny_forLoop_any (fun n s' => ∃ i σ' H', Inv X pins σ' H' s' ∧ tn i s'.heap ∧ (∀ b ∈ fp, H' b = none) ∧ W i n σ' H') ?_ m0 ⟨0, σ, H2, I2, st2, fun b hb => (f2 b hb).1, w0⟩
  rintro n s3 ⟨i, σ3, H3, I3, st3, fr3, w3⟩
  rcases turn i n σ3 H3 w3 with ⟨stop, qn⟩ | ⟨go, N, hN, step⟩
  · refine wpAny_passesOwn hp (thn (T.done X rfl rfl rfl hc i pins s3 σ3 H3 X.xe I3 (stat fr3) st3 stop) fun r s4 ⟨hr, I4⟩ => ?_)
    subst hr
    exact wpAny_execs_nil ⟨σ3, H3, I4, qn⟩
  · refine wpAny_passesOwn hp (thn (T.item X rfl rfl rfl hc i pins s3 σ3 H3 X.xe I3 (stat fr3) st3 go) fun r s4 ⟨u, hr, h4⟩ => ?_)
    subst hr
    refine wpAny_passesOwn hp (thn h4 fun _ s5 ⟨x, H5, I5, r5, y5, st5, fr5⟩ => ?_)
    have I5' := I5.pinned (stat fr5) (T.obj _ _ st5)
    refine wpAny_passesOwn hp (thn (hg _ s5 σ3 H5 x u _ I5' r5 (step x H5 y5)) fun _ s6 ⟨σ6, H6, I6, q6⟩ => ?_)
    refine wpAny_passesOwn hp (thn (hb _ s6 σ6 H6 _ I6 q6) fun f s7 q7 => ?_)
    have again : ∀ {σ7 : St} {H7 : Hp}, Inv X (pins ++ pinsAt fp s5.heap) σ7 H7 s7 → N σ7 H7 → ∃ m, m < n ∧ ∃ i σ' H', Inv X pins σ' H' s7 ∧ tn i s7.heap ∧ (∀ b ∈ fp, H' b = none) ∧ W i m σ' H' := fun {σ7 H7} I7 n7 => by
      obtain ⟨m', hm, w7⟩ := hN σ7 H7 n7
      refine ⟨m', hm, i + 1, σ7, H7, I7.unpinned, T.keep _ _ _ st5 fun b hb o e => (I7.pin (b, o) (List.mem_append_right _ (List.mem_append_right _ (mem_pinsAt hb e)))).1, fun b hb => ?_, w7⟩
      obtain ⟨o, e, d⟩ := T.obj _ _ st5 b hb
      exact (I7.pin (b, o) (List.mem_append_right _ (List.mem_append_right _ (mem_pinsAt hb e)))).2.1
    cases f with
    | next => obtain ⟨σ7, H7, I7, n7⟩ := q7; exact again I7 n7
    | cont => obtain ⟨σ7, H7, I7, n7⟩ := q7; exact again I7 n7
    | brk => obtain ⟨σ7, H7, I7, q7⟩ := q7; exact ⟨σ7, H7, I7.unpinned, q7⟩
    | ret v => obtain ⟨x7, σ7, H7, I7, r7, q7⟩ := q7; exact ⟨x7, σ7, H7, I7.unpinned, r7, q7⟩
end
theorem for_list {K : PySem.W.Frag} {a : Addr} {xs : List V} {g : TG} {tb : TS} {D : Ends} {σ : St} {H : Hp} (Pv : Nat → St → Hp → Prop) (h0 : Pv 0 σ H) (hl : ∀ i σ H, i ≤ xs.length → Pv i σ H → SqL K H a xs)
    (hs : ∀ i x σ H, xs[i]? = some x → Pv i σ H → g x σ H fun σ2 H2 => tb { D with nx := Pv (i + 1), ct := Pv (i + 1), bk := D.nx } σ2 H2) (hd : ∀ σ H, Pv xs.length σ H → D.nx σ H) :
    ∃ W : Nat → Nat → St → Hp → Prop, (∃ m, W 0 m σ H) ∧ ∀ i m σ H, W i m σ H →
      ((Itl K a).stop i H ∧ D.nx σ H) ∨ ((Itl K a).go i H ∧ ∃ N : St → Hp → Prop, (∀ σ' H', N σ' H' → ∃ m', m' < m ∧ W (i + 1) m' σ' H') ∧ ∀ x H', (Itl K a).yld i H x H' → g x σ H' fun σ2 H2 => tb { D with nx := N, ct := N, bk := D.nx } σ2 H2) := by
  refine ⟨fun i m σ H => m = xs.length - i ∧ i ≤ xs.length ∧ Pv i σ H, ⟨xs.length, by simp, Nat.zero_le _, h0⟩, ?_⟩
  rintro i m σ H ⟨rfl, hi, p⟩
  have q := hl i σ H hi p
  by_cases hlt : i < xs.length
  · refine .inr ⟨⟨xs, xs[i], q, by simp [hlt]⟩, Pv (i + 1), fun σ' H' p' => ⟨xs.length - (i + 1), by omega, rfl, hlt, p'⟩, fun x H' y => ?_⟩
    obtain ⟨e, y⟩ := y
    subst e
    exact hs i x σ _ (y xs q) p
  · have e : i = xs.length := by omega
    subst e
    exact .inl ⟨⟨xs, q, Nat.le_refl _⟩, hd σ H p⟩
theorem for_range {lo : Int} {n : Nat} {g : TG} {tb : TS} {D : Ends} {σ : St} {H : Hp} (Pv : Nat → St → Hp → Prop) (h0 : Pv 0 σ H)
    (hs : ∀ i σ H, i < n → Pv i σ H → g (.int (lo + i)) σ H fun σ2 H2 => tb { D with nx := Pv (i + 1), ct := Pv (i + 1), bk := D.nx } σ2 H2) (hd : ∀ σ H, Pv n σ H → D.nx σ H) :
    ∃ W : Nat → Nat → St → Hp → Prop, (∃ m, W 0 m σ H) ∧ ∀ i m σ H, W i m σ H →
      ((Itr lo n).stop i H ∧ D.nx σ H) ∨ ((Itr lo n).go i H ∧ ∃ N : St → Hp → Prop, (∀ σ' H', N σ' H' → ∃ m', m' < m ∧ W (i + 1) m' σ' H') ∧ ∀ x H', (Itr lo n).yld i H x H' → g x σ H' fun σ2 H2 => tb { D with nx := N, ct := N, bk := D.nx } σ2 H2) := by
  refine ⟨fun i m σ H => m = n - i ∧ i ≤ n ∧ Pv i σ H, ⟨n, by simp, Nat.zero_le _, h0⟩, ?_⟩
  rintro i m σ H ⟨rfl, hi, p⟩
  by_cases hlt : i < n
  · refine .inr ⟨hlt, Pv (i + 1), fun σ' H' p' => ⟨n - (i + 1), by omega, rfl, hlt, p'⟩, fun x H' y => ?_⟩
    obtain ⟨e, y⟩ := y
    subst e y
    exact hs i σ _ hlt p
  · have e : i = n := by omega
    subst e
    exact .inl ⟨Nat.le_refl _, hd σ H p⟩
end L2
namespace L2
open PySem PySem.Spec PyProof.Rows
abbrev R2 := V → V → Hp → VK → Prop
def OpR (X : Cx) (f : Value → Value → Sem Value) (r : R2) : Prop :=
  ∀ (pins : List (Addr × Obj)) (s : Shared) (σ : St) (H : Hp) (x y : V) (v u : Value) (Q : VK), Inv X pins σ H s → RelV x v → RelV y u → r x y H Q →
    wpAny (model X.prog X.w) X.A (f v u) (EP X pins σ Q) X.xe s
def UnR (X : Cx) (f : Value → Sem Value) (r : V → Hp → VK → Prop) : Prop :=
  ∀ (pins : List (Addr × Obj)) (s : Shared) (σ : St) (H : Hp) (x : V) (v : Value) (Q : VK), Inv X pins σ H s → RelV x v → r x H Q →
    wpAny (model X.prog X.w) X.A (f v) (EP X pins σ Q) X.xe s
def CallR (X : Cx) (f : Value) (r : List V → Hp → VK → Prop) : Prop :=
  ∀ (pins : List (Addr × Obj)) (s : Shared) (σ : St) (H : Hp) (xs : List V) (us : List Value) (Q : VK), Inv X pins σ H s → Vals xs us → r xs H Q →
    wpAny (model X.prog X.w) X.A (call f us) (EP X pins σ Q) X.xe s
def TruR (X : Cx) (r : V → Hp → (Bool → Hp → Prop) → Prop) : Prop :=
  ∀ (pins : List (Addr × Obj)) (s : Shared) (σ : St) (H : Hp) (x : V) (v : Value) (Q : Bool → Hp → Prop), Inv X pins σ H s → RelV x v → r x H Q →
    wpAny (model X.prog X.w) X.A (truthy v) (TP X pins σ Q) X.xe s
def tOp (r : R2) (ta tb : TE) : TE := fun σ H Q => ta σ H fun x H1 => tb σ H1 fun y H2 => r x y H2 Q
def tUn (r : V → Hp → VK → Prop) (ta : TE) : TE := fun σ H Q => ta σ H fun x H1 => r x H1 Q
def rI (C : Int → Int → Prop) (g : Int → Int → V) : R2 := fun x y H Q => ∃ i j, x = .int i ∧ y = .int j ∧ C i j ∧ Q (g i j) H
def rI0 (g : Int → Int → V) : R2 := fun x y H Q => ∃ i j, x = .int i ∧ y = .int j ∧ Q (g i j) H
def rU (g : Int → V) : V → Hp → VK → Prop := fun x H Q => ∃ i, x = .int i ∧ Q (g i) H
section
variable {X : Cx} {a b c : Expr} {ta tb tc : TE} {pos : Pos}
theorem binT (ha : PE X a ta) (hb : PE X b tb) {pins : List (Addr × Obj)} {s : Shared} {σ : St} {H : Hp} {R : V → V → Hp → Prop} (I : Inv X pins σ H s)
    (h : ta σ H fun x H1 => tb σ H1 fun y H2 => R x y H2) {Q : Value → Shared → Prop} {f : Value → Value → Sem Value}
    (hf : ∀ v u s2 x y H2, Inv X pins σ H2 s2 → RelV x v → RelV y u → R x y H2 → wpAny (model X.prog X.w) X.A (f v u) Q X.xe s2) :
    wpAny (model X.prog X.w) X.A (eval a X.env) (fun v s₁ => wpAny (model X.prog X.w) X.A (eval b X.env) (fun u s₂ => wpAny (model X.prog X.w) X.A (f v u) Q X.xe s₂) X.xe s₁) X.xe s := by
  refine thn (ha pins s σ H _ I h) fun v s1 ⟨x, H1, I1, r1, q1⟩ => ?_
  refine thn (hb pins s1 σ H1 _ I1 q1) fun u s2 ⟨y, H2, I2, r2, q2⟩ => ?_
  exact hf v u s2 x y H2 I2 r1 r2 q2
theorem pe_op {op : Operator} {r : R2} (ho : OpR X (binaryOp op) r) (ha : PE X a ta) (hb : PE X b tb) : PE X (.BinOp a op b pos) (tOp r ta tb) := by
  intro pins s σ H Q I h
  exact wpAny_BinOp (binT ha hb I h fun v u s2 x y H2 I2 rx ry q => ho pins s2 σ H2 x y v u Q I2 rx ry q)
theorem opI {f : Value → Value → Sem Value} {C : Int → Int → Prop} {g : Int → Int → Int}
    (rule : ∀ (i j : Int) (t u : Tok) (s : Shared) (Q : Value → Shared → Prop) (E : Value → Shared → Prop), C i j → Q (.int (g i j) s.toks) { s with toks := s.toks + 1 } → wpAny (model X.prog X.w) X.A (f (.int i t) (.int j u)) Q E s) :
    OpR X f (rI C fun i j => .int (g i j)) := by
  intro pins s σ H x y v u Q I rx ry h
  obtain ⟨i, j, rfl, rfl, hc, q⟩ := h
  obtain ⟨t, rfl⟩ := rx
  obtain ⟨t', rfl⟩ := ry
  exact rule i j t t' s _ _ hc ⟨.int (g i j), H, I.tok _, ⟨_, rfl⟩, q⟩
theorem opI0 {f : Value → Value → Sem Value} {g : Int → Int → Int}
    (rule : ∀ (i j : Int) (t u : Tok) (s : Shared) (Q : Value → Shared → Prop) (E : Value → Shared → Prop), Q (.int (g i j) s.toks) { s with toks := s.toks + 1 } → wpAny (model X.prog X.w) X.A (f (.int i t) (.int j u)) Q E s) :
    OpR X f (rI0 fun i j => .int (g i j)) := by
  intro pins s σ H x y v u Q I rx ry h
  obtain ⟨i, j, rfl, rfl, q⟩ := h
  obtain ⟨t, rfl⟩ := rx
  obtain ⟨t', rfl⟩ := ry
  exact rule i j t t' s _ _ ⟨.int (g i j), H, I.tok _, ⟨_, rfl⟩, q⟩
theorem opB0 {f : Value → Value → Sem Value} {g : Int → Int → Bool}
    (rule : ∀ (i j : Int) (t u : Tok) (s : Shared) (Q : Value → Shared → Prop) (E : Value → Shared → Prop), Q (.bool (g i j)) s → wpAny (model X.prog X.w) X.A (f (.int i t) (.int j u)) Q E s) :
    OpR X f (rI0 fun i j => .bl (g i j)) := by
  intro pins s σ H x y v u Q I rx ry h
  obtain ⟨i, j, rfl, rfl, q⟩ := h
  obtain ⟨t, rfl⟩ := rx
  obtain ⟨t', rfl⟩ := ry
  exact rule i j t t' s _ _ ⟨.bl (g i j), H, I, rfl, q⟩
def CDiv (i j : Int) : Prop := 0 < j ∧ j < 1073741824
def CDivN (i j : Int) : Prop := j ≠ 0 ∧ j.natAbs < 1073741824
def CPow (i j : Int) : Prop := 0 ≤ j ∧ j ≤ 1000000 ∧ i.natAbs < 2 ^ 64
def CMul (i j : Int) : Prop := (-(2 ^ 64) < i ∧ i < 2 ^ 64) ∨ (-(2 ^ 64) < j ∧ j < 2 ^ 64)
theorem CMul.ok {i j : Int} (h : CMul i j) : IntMulOk i j := by
  rcases h with ⟨h1, h2⟩ | ⟨h1, h2⟩
  · exact .of_left (intBits_le_64 h1 h2)
  · exact .of_right (intBits_le_64 h1 h2)
theorem op_add : OpR X (binaryOp .Add) (rI0 fun i j => .int (i + j)) := opI0 fun _ _ _ _ _ _ _ q => add_int q
theorem op_sub : OpR X (binaryOp .Sub) (rI0 fun i j => .int (i - j)) := opI0 fun _ _ _ _ _ _ _ q => sub_int q
theorem op_mul : OpR X (binaryOp .Mult) (rI CMul fun i j => .int (i * j)) := opI fun _ _ _ _ _ _ _ hc q => mul_int q hc.ok
theorem op_fdiv : OpR X (binaryOp .FloorDiv) (rI CDiv fun i j => .int (i / j)) := opI fun i j _ _ _ _ _ hc q => by
  have h1 : (0 : Int) < j := hc.1
  have h2 : j < 1073741824 := hc.2
  exact floordiv_int (by omega) (by rw [Int.fdiv_eq_ediv_of_nonneg i (by omega)]; exact q) (.inl (PyProof.noPylong_small (by omega)))
theorem op_mod : OpR X (binaryOp .Mod) (rI (fun _ j => 0 < j) fun i j => .int (i % j)) := opI fun i j _ _ _ _ _ hc q => by
  have h1 : (0 : Int) < j := hc
  exact mod_int' (by omega) (by rw [Int.fmod_eq_emod_of_nonneg i (by omega)]; exact q)
theorem op_pow : OpR X (binaryOp .Pow) (rI CPow fun i j => .int (i ^ j.toNat)) := opI fun _ _ _ _ _ _ _ hc q => pow_int_small hc.1 hc.2.1 hc.2.2 q
end
def scal : V → V → Bool
  | .non, .non => true | .non, .int _ => true | .int _, .non => true | .non, .bl _ => true | .bl _, .non => true | .non, .str _ => true | .str _, .non => true
  | .int _, .int _ => true | .bl _, .bl _ => true | .str _, .str _ => true | .byt _, .byt _ => true
  | .int _, .str _ => true | .str _, .int _ => true | .bl _, .str _ => true | .str _, .bl _ => true
  | _, _ => false
def rEq : R2 := fun x y H Q => scal x y = true ∧ Q (.bl (decide (x = y))) H
def rNe : R2 := fun x y H Q => scal x y = true ∧ Q (.bl (!decide (x = y))) H
theorem dec_int {i j : Int} : decide (V.int i = V.int j) = (i == j) := by
  rw [Bool.eq_iff_iff]
  simp
theorem dec_bl {i j : Bool} : decide (V.bl i = V.bl j) = (i == j) := by
  rw [Bool.eq_iff_iff]
  simp
theorem dec_str {i j : Str} : decide (V.str i = V.str j) = (i == j) := by
  rw [Bool.eq_iff_iff]
  simp
theorem dec_byt {i j : Array UInt8} : decide (V.byt i = V.byt j) = (i.toList == j.toList) := by
  rw [Bool.eq_iff_iff]
  cases i
  cases j
  simp
section
variable {X : Cx} {a b c : Expr} {ta tb tc : TE} {pos : Pos}
theorem fin_bl {pins : List (Addr × Obj)} {σ : St} {H : Hp} {s : Shared} {Q : VK} {k k' : Bool} (I : Inv X pins σ H s) (q : Q (.bl k) H) (e : k = k') : EP X pins σ Q (.bool k') s := by
  subst e
  exact ⟨.bl k, H, I, rfl, q⟩
theorem op_eq : OpR X (compareOp .Eq) rEq := by
  intro pins s σ H x y v u Q I rx ry h
  obtain ⟨hs, q⟩ := h
  cases x with
  | non =>
    cases rx
    cases y with
    | non => cases ry; exact PySem.EqNone.eq_none_none (fin_bl I q (by simp))
    | bl j => cases ry; exact PySem.EqNone.eq_none_bool (fin_bl I q (by simp))
    | int j => obtain ⟨t', rfl⟩ := ry; exact PySem.EqNone.eq_none_int (fin_bl I q (by simp))
    | str j => obtain ⟨t', rfl⟩ := ry; exact PySem.EqNone.eq_none_str (fin_bl I q (by simp))
    | _ => exact absurd (show false = true from hs) Bool.false_ne_true
  | bl i =>
    cases rx
    cases y with
    | non => cases ry; exact PySem.EqNone.eq_bool_none (fin_bl I q (by simp))
    | bl j => cases ry; exact eq_bool (fin_bl I q dec_bl)
    | str j => obtain ⟨t', rfl⟩ := ry; exact PySem.EqMixed.eq_bool_str (fin_bl I q (by simp))
    | _ => exact absurd (show false = true from hs) Bool.false_ne_true
  | int i =>
    obtain ⟨t, rfl⟩ := rx
    cases y with
    | non => cases ry; exact PySem.EqNone.eq_int_none (fin_bl I q (by simp))
    | int j => obtain ⟨t', rfl⟩ := ry; exact eq_int (fin_bl I q dec_int)
    | str j => obtain ⟨t', rfl⟩ := ry; exact PySem.EqMixed.eq_int_str (fin_bl I q (by simp))
    | _ => exact absurd (show false = true from hs) Bool.false_ne_true
  | str i =>
    obtain ⟨t, rfl⟩ := rx
    cases y with
    | non => cases ry; exact PySem.EqNone.eq_str_none (fin_bl I q (by simp))
    | bl j => cases ry; exact PySem.EqMixed.eq_str_bool (fin_bl I q (by simp))
    | int j => obtain ⟨t', rfl⟩ := ry; exact PySem.EqMixed.eq_str_int (fin_bl I q (by simp))
    | str j => obtain ⟨t', rfl⟩ := ry; exact eq_str (fin_bl I q dec_str)
    | _ => exact absurd (show false = true from hs) Bool.false_ne_true
  | byt i =>
    obtain ⟨t, rfl⟩ := rx
    cases y with
    | byt j => obtain ⟨t', rfl⟩ := ry; exact PySem.W.eq_bytes (fin_bl I q dec_byt)
    | _ => exact absurd (show false = true from hs) Bool.false_ne_true
  | _ => cases y <;> exact absurd (show false = true from hs) Bool.false_ne_true
theorem op_ne : OpR X (compareOp .NotEq) rNe := by
  intro pins s σ H x y v u Q I rx ry h
  obtain ⟨hs, q⟩ := h
  cases x with
  | non =>
    cases rx
    cases y with
    | non => cases ry; exact PySem.EqNone.ne_none_none (fin_bl I q (by simp))
    | bl j => cases ry; exact PySem.EqNone.ne_none_bool (fin_bl I q (by simp))
    | int j => obtain ⟨t', rfl⟩ := ry; exact PySem.EqNone.ne_none_int (fin_bl I q (by simp))
    | str j => obtain ⟨t', rfl⟩ := ry; exact PySem.EqNone.ne_none_str (fin_bl I q (by simp))
    | _ => exact absurd (show false = true from hs) Bool.false_ne_true
  | bl i =>
    cases rx
    cases y with
    | non => cases ry; exact PySem.EqNone.ne_bool_none (fin_bl I q (by simp))
    | bl j => cases ry; exact ne_bool (fin_bl I q (congrArg not dec_bl))
    | str j => obtain ⟨t', rfl⟩ := ry; exact PySem.EqMixed.ne_bool_str (fin_bl I q (by simp))
    | _ => exact absurd (show false = true from hs) Bool.false_ne_true
  | int i =>
    obtain ⟨t, rfl⟩ := rx
    cases y with
    | non => cases ry; exact PySem.EqNone.ne_int_none (fin_bl I q (by simp))
    | int j => obtain ⟨t', rfl⟩ := ry; exact ne_int (fin_bl I q (congrArg not dec_int))
    | str j => obtain ⟨t', rfl⟩ := ry; exact PySem.EqMixed.ne_int_str (fin_bl I q (by simp))
    | _ => exact absurd (show false = true from hs) Bool.false_ne_true
  | str i =>
    obtain ⟨t, rfl⟩ := rx
    cases y with
    | non => cases ry; exact PySem.EqNone.ne_str_none (fin_bl I q (by simp))
    | bl j => cases ry; exact PySem.EqMixed.ne_str_bool (fin_bl I q (by simp))
    | int j => obtain ⟨t', rfl⟩ := ry; exact PySem.EqMixed.ne_str_int (fin_bl I q (by simp))
    | str j => obtain ⟨t', rfl⟩ := ry; exact ne_str (fin_bl I q (congrArg not dec_str))
    | _ => exact absurd (show false = true from hs) Bool.false_ne_true
  | byt i =>
    obtain ⟨t, rfl⟩ := rx
    cases y with
    | byt j => obtain ⟨t', rfl⟩ := ry; exact PySem.W.ne_bytes (fin_bl I q (congrArg not dec_byt))
    | _ => exact absurd (show false = true from hs) Bool.false_ne_true
  | _ => cases y <;> exact absurd (show false = true from hs) Bool.false_ne_true
theorem op_lt : OpR X (compareOp .Lt) (rI0 fun i j => .bl (decide (i < j))) := opB0 fun _ _ _ _ _ _ _ q => lt_int q
theorem op_gt : OpR X (compareOp .Gt) (rI0 fun i j => .bl (decide (j < i))) := opB0 fun _ _ _ _ _ _ _ q => gt_int q
theorem op_isN : OpR X (compareOp .Is) (fun x y H Q => y = .non ∧ Q (.bl (decide (x = .non))) H) := by
  intro pins s σ H x y v u Q I rx ry h
  obtain ⟨rfl, q⟩ := h
  cases ry
  refine is_none_gen (fin_bl I q ?_)
  cases x <;> first
    | (cases rx; rfl)
    | (obtain ⟨t, rfl⟩ := rx; rfl)
theorem op_notN : OpR X (compareOp .IsNot) (fun x y H Q => y = .non ∧ Q (.bl (!decide (x = .non))) H) := by
  intro pins s σ H x y v u Q I rx ry h
  obtain ⟨rfl, q⟩ := h
  cases ry
  refine isnot_none_gen (fin_bl I q ?_)
  cases x <;> first
    | (cases rx; rfl)
    | (obtain ⟨t, rfl⟩ := rx; rfl)
def isObj : HO → Bool
  | .lst _ => true
  | .ins _ _ _ => true
  | _ => false
theorem OpR.or {f : Value → Value → Sem Value} {r r' : R2} (h : OpR X f r) (h' : OpR X f r') : OpR X f (fun x y H Q => r x y H Q ∨ r' x y H Q) := by
  intro pins s σ H x y v u Q I rx ry q
  rcases q with q | q
  · exact h pins s σ H x y v u Q I rx ry q
  · exact h' pins s σ H x y v u Q I rx ry q
theorem nomark (b : Expr) {op : CmpOp} (h : op ≠ .In := by decide) (h2 : op ≠ .NotIn := by decide) : behindInMarks op b = false := by
  have e1 : (op == CmpOp.In) = false := by cases op <;> first | rfl | exact absurd rfl h
  have e2 : (op == CmpOp.NotIn) = false := by cases op <;> first | rfl | exact absurd rfl h2
  cases b <;> simp [behindInMarks, e1, e2]
theorem pe_cmpR {op : CmpOp} {r : R2} (ho : OpR X (compareOp op) r) (ha : PE X a ta) (hb : PE X b tb) (hm : behindInMarks op b = false) : PE X (.Compare a [op] [b] pos) (tOp r ta tb) := by
  intro pins s σ H Q I h
  exact wpAny_Compare1 (binT ha hb I h fun v u s2 x y H2 I2 rx ry q => ho pins s2 σ H2 x y v u Q I2 rx ry q) hm
def tTest (t : TE) : TT := fun σ H Q => t σ H fun x H' => ∃ k, x = .bl k ∧ Q k H'
theorem pt_cmpR {op : CmpOp} {r : R2} (ho : OpR X (compareOp op) r) (ha : PE X a ta) (hb : PE X b tb) (hm : behindInMarks op b = false) : PT X (.Compare a [op] [b] pos) (tTest (tOp r ta tb)) := by
  intro pins s σ H Q I h
  refine wpAny_isTrue_Compare1 (thn (ha pins s σ H _ I h) fun v s1 ⟨x, H1, I1, r1, q1⟩ => thn (hb pins s1 σ H1 _ I1 q1) fun u s2 ⟨y, H2, I2, r2, q2⟩ =>
    thn (ho pins s2 σ H2 x y v u _ I2 r1 r2 q2) fun c s3 ⟨z, H3, I3, r3, k, e, q3⟩ => ?_) hm
  subst e
  cases r3
  exact wpAny_truthy_bool ⟨H3, I3, q3⟩
def tChain (r r' : R2) (ta tb tc : TE) : TE := fun σ H Q => ta σ H fun x H1 => tb σ H1 fun y H2 => r x y H2 fun z H3 => ∃ k, z = .bl k ∧
  (if k = true then tc σ H3 fun w' H4 => r' y w' H4 Q else Q (.bl false) H3)
def TruV (K : PySem.W.Frag) (x : V) (H : Hp) (k : Bool) : Prop :=
  match x with
  | .non => k = false
  | .bl b => k = b
  | .int i => k = (i != 0)
  | .str y => y.length ≤ sizeLine ∧ k = ((y.length : Int) != 0)
  | .byt y => y.size ≤ sizeLine ∧ k = ((y.size : Int) != 0)
  | .ref p => (∃ xs, SqL K H p xs ∧ k = !xs.isEmpty) ∨ (∃ xs, SqT K H p xs ∧ k = !xs.isEmpty) ∨ ∃ kvs, H p = some (.dK kvs) ∧ k = !kvs.isEmpty
  | _ => False
theorem isEmpty_kv {κ : Type} {kvs : List (κ × V)} {vs : List (κ × Value)} (r : KV kvs vs) : (!vs.isEmpty) = !kvs.isEmpty := by
  cases r <;> rfl
theorem isEmpty_of {xs : List V} {its : List Value} (r : Vals xs its) : (!its.toArray.isEmpty) = !xs.isEmpty := by
  cases r <;> simp
theorem line63 : (sizeLine : Nat) < 2 ^ 63 := by rw [sizeLine_eq]; decide
theorem tru_ok : TruR X (fun x H Q => ∃ k, TruV X.K x H k ∧ Q k H) := by
  intro pins s σ H x v Q I rx h
  obtain ⟨k, e, q⟩ := h
  have hl := line63
  have hs : sizeLine = 16777216 := sizeLine_eq
  cases x with
  | non =>
    cases rx
    have e' : k = false := e
    subst e'
    exact truthy_none ⟨H, I, q⟩
  | bl b =>
    cases rx
    have e' : k = b := e
    subst e'
    exact wpAny_truthy_bool ⟨H, I, q⟩
  | int i =>
    obtain ⟨t, rfl⟩ := rx
    have e' : k = (i != 0) := e
    subst e'
    exact PySem.P.truthy_int ⟨H, I, q⟩
  | str y =>
    obtain ⟨t, rfl⟩ := rx
    obtain ⟨hy, e'⟩ : y.length ≤ sizeLine ∧ k = ((y.length : Int) != 0) := e
    subst e'
    exact PySem.P.truthy_str (by omega) ⟨H, I.tok _, q⟩
  | byt y =>
    obtain ⟨t, rfl⟩ := rx
    obtain ⟨hy, e'⟩ : y.size ≤ sizeLine ∧ k = ((y.size : Int) != 0) := e
    subst e'
    exact PySem.W.truthy_bytes (by omega) ⟨H, I.tok _, q⟩
  | ref p =>
    cases rx
    have e' : (∃ xs, SqL X.K H p xs ∧ k = !xs.isEmpty) ∨ (∃ xs, SqT X.K H p xs ∧ k = !xs.isEmpty) ∨ ∃ kvs, H p = some (.dK kvs) ∧ k = !kvs.isEmpty := e
    rcases e' with ⟨xs, hx, e'⟩ | ⟨xs, hx, e'⟩ | ⟨kvs, hx, e'⟩
    · subst e'
      obtain ⟨its, r, pl, hz⟩ := I.list hx
      have hlen := r.length
      exact wpAny_truthy_list pl.isList (by simp only [List.size_toArray]; omega) ⟨H, I.tok _, by rw [isEmpty_of r]; exact q⟩
    · subst e'
      obtain ⟨its, r, pl, hz⟩ := I.tuple hx
      have hlen := r.length
      exact truthy_tuple pl (by simp only [List.size_toArray]; omega) ⟨H, I.tok _, by rw [isEmpty_of r]; exact q⟩
    · subst e'
      obtain ⟨hz, hS, vs, r, m⟩ : kvs.length ≤ sizeLine ∧ (p == sysModules) = false ∧ ∃ vs, KV kvs vs ∧ s.heap.DictOf (mixKind X.prog X.w) p vs := I.hok p _ hx
      have hlen : kvs.length = vs.length := Paired.length r
      exact wpAny_truthy_dict hS m (by omega) ⟨H, I.tok _, by rw [isEmpty_kv r]; exact q⟩
  | _ => exact (show False from e).elim
theorem pt_truth (ha : PE X a ta) (he : ∀ whole, isTrue a X.env whole = (do let v ← whole; standAt a.pos; holding [v] (truthy v))) :
    PT X a (fun σ H Q => ta σ H fun x H' => ∃ k, TruV X.K x H' k ∧ Q k H') := by
  intro pins s σ H Q I h
  exact isTrue_plain (thn (ha pins s σ H _ I h) fun v s1 ⟨x, H1, I1, r1, q1⟩ => tru_ok pins s1 σ H1 x v Q I1 r1 q1) (he _)
def PlainIxT (b : Expr) : Prop := ∀ o i, subscripted b false o i = operate [o, i] (getItem o i)
theorem vals1 {x : V} {us : List Value} (r : Vals [x] us) : ∃ u, us = [u] ∧ RelV x u := by
  cases r with
  | cons r1 r2 => cases r2; exact ⟨_, rfl, r1⟩
theorem vals2 {x y : V} {us : List Value} (r : Vals [x, y] us) : ∃ u w', us = [u, w'] ∧ RelV x u ∧ RelV y w' := by
  cases r with
  | cons r1 r2 =>
    cases r2 with
    | cons r3 r4 => cases r4; exact ⟨_, _, rfl, r1, r3⟩
theorem call_min2 (hc : X.calm = true) : CallR X (.builtin "min") (fun xs H Q => ∃ i j, xs = [.int i, .int j] ∧ Q (.int (if j < i then j else i)) H) := by
  intro pins s σ H xs us Q I r h
  obtain ⟨i, j, rfl, q⟩ := h
  obtain ⟨u, w', rfl, ⟨t, rfl⟩, ⟨t', rfl⟩⟩ := vals2 r
  refine min_two_ints (I.ok.hd hc) fun h' tk k => ⟨_, H, I.kept k, ?_, q⟩
  by_cases hj : j < i
  · rw [if_pos hj, if_pos hj]; exact ⟨_, rfl⟩
  · rw [if_neg hj, if_neg hj]; exact ⟨_, rfl⟩
theorem call_int1 : CallR X (.type "int") (fun xs H Q => (∃ i, xs = [.int i] ∧ Q (.int i) H) ∨ ∃ k, xs = [.bl k] ∧ Q (.int (if k then 1 else 0)) H) := by
  intro pins s σ H xs us Q I r h
  rcases h with ⟨i, rfl, q⟩ | ⟨k, rfl, q⟩
  · obtain ⟨u, rfl, t, rfl⟩ := vals1 r
    exact call_int_int ⟨.int i, H, I, ⟨_, rfl⟩, q⟩
  · obtain ⟨u, rfl, r1⟩ := vals1 r
    cases r1
    exact call_int_bool ⟨.int (if k then 1 else 0), H, I.tok _, ⟨_, rfl⟩, q⟩
def LenV (K : PySem.W.Frag) (x : V) (H : Hp) (n : Nat) : Prop :=
  match x with
  | .str y => y.length ≤ sizeLine ∧ n = y.length
  | .byt y => y.size ≤ sizeLine ∧ n = y.size
  | .ref p => (∃ xs, SqL K H p xs ∧ n = xs.length) ∨ ∃ xs, SqT K H p xs ∧ n = xs.length
  | _ => False
end
end L2
namespace L2
open PySem PySem.Spec PyProof.Rows
structure ObjM (h : Heap) (x dx C : Addr) (mA : Str → Option Value) : Prop where
  obj : h.get? x = some (PySem.W.instObj C dx)
  ns : h.Ns1 dx mA
  ne : dx ≠ x
theorem lookIn_ns {h : Heap} {dx : Addr} {mA : Str → Option Value} (n : h.Ns1 dx mA) : ∃ od, h.get? dx = some od ∧ ∀ name, PySem.W.lookIn name od = some (mA name) := by
  obtain ⟨o, es, ep, ho, hd, hk, _, hm⟩ := n
  refine ⟨o, ho, fun name => ?_⟩
  have e := hm name
  unfold nsFind findBy at e
  rw [← Array.find?_toList] at e
  unfold PySem.W.lookIn
  rw [hd]
  dsimp only
  split
  · rename_i y q
    rw [q] at e
    exact congrArg some e
  · rename_i q
    rw [q] at e
    have a : es.toList.any (·.refKey) = false := by
      rw [List.any_eq_false]
      intro y hy
      obtain ⟨z, t, hkey⟩ := hk y (Array.mem_toList_iff.mp hy)
      simp [DictEntry.refKey, hkey]
    have a' : ¬ es.toList.any (·.refKey) = true := by rw [a]; exact Bool.false_ne_true
    rw [if_neg a']
    exact congrArg some e
theorem ObjM.look {h : Heap} {x dx C : Addr} {mA : Str → Option Value} (I : ObjM h x dx C mA) : ∃ od, PySem.W.InstAt h x (PySem.W.instObj C dx) C (some od) ∧ ∀ name, PySem.W.lookIn name od = some (mA name) :=
  let ⟨od, ho, hl⟩ := lookIn_ns I.ns
  ⟨od, ⟨I.obj, rfl, rfl, ho⟩, hl⟩
section
variable {prog : Program} {w : World} {A : Around} {E : Value → Shared → Prop} {s : Shared} {K : PySem.W.Frag} {x dx C f : Addr} {mA : Str → Option Value} {name : Str} {v : Value}
end
def putF (f : Str) (v : V) : List (Str × V) → List (Str × V)
  | [] => [(f, v)]
  | (g, x) :: r => if g = f then (g, v) :: r else (g, x) :: putF f v r
theorem RelO.some_of {v : V} {o : Option Value} (r : RelO (some v) o) : ∃ u, o = some u ∧ RelV v u := by
  cases o with
  | none => exact (show False from r).elim
  | some u => exact ⟨u, rfl, r⟩
theorem RelO.none_of {o : Option Value} (r : RelO none o) : o = none := by
  cases o with
  | none => rfl
  | some u => exact (show False from r).elim
section
variable {P : Program} {w : World} {H H' : Hp} {h h' : Heap} {a C dx : Addr} {fs fs' : List (Str × V)}
end
structure Cls (K : PySem.W.Frag) (C : Addr) : Prop where
  pg : PySem.W.plainGet K C Str.empty = true
  hd : PySem.W.hasDictIn K C = true
  po : PySem.W.plainOver K C = true
  sa : PySem.W.findIn K (.ref C) "__setattr__" = some (some (.builtin "object.__setattr__"))
theorem Cls.get {K : PySem.W.Frag} {C : Addr} (c : Cls K C) (f : Str) : PySem.W.plainGet K C f = true := c.pg
def NoAttr (K : PySem.W.Frag) (C : Addr) (f : Str) : Prop := PySem.W.findIn K (.ref C) f = some none
structure Con (K : PySem.W.Frag) (C : Addr) (f : Str) (v : V) (u : Value) : Prop where
  at_ : PySem.W.findIn K (.ref C) f = some (some u)
  rel : RelV v u
  get : PySem.W.specialIn K u "__get__" = some none
  cp : PySem.W.copiedNames.contains f = false
structure Meth (K : PySem.W.Frag) (C : Addr) (m : Str) (f : Addr) : Prop where
  at_ : PySem.W.findIn K (.ref C) m = some (some (.ref f))
  fn : PySem.W.isFn K (.ref f) = true
  kp : PySem.W.keepIn K (.ref f) = true
section
variable {X : Cx} {pins : List (Addr × Obj)} {σ : St} {H : Hp} {s : Shared} {a C dx : Addr} {fs : List (Str × V)} {f : Str} {v : V} {A : Around} {E : Value → Shared → Prop}
theorem Inv.made (I : Inv X pins σ H s) : Inv X pins σ (upd (upd H s.heap.objs.size (.own (s.heap.objs.size + 1))) (s.heap.objs.size + 1) (.ins C s.heap.objs.size []))
    { s with heap := (s.heap.push PySem.W.emptyDict).push (PySem.W.instObj C s.heap.objs.size) } := by
  have e1 : (s.heap.push PySem.W.emptyDict).get? s.heap.objs.size = some PySem.W.emptyDict := Heap.get?_push_size s.heap rfl
  have e2 : ((s.heap.push PySem.W.emptyDict).push (PySem.W.instObj C s.heap.objs.size)).get? (s.heap.objs.size + 1) = some (PySem.W.instObj C s.heap.objs.size) := by
    have := Heap.get?_push_size (s.heap.push PySem.W.emptyDict) (o := PySem.W.instObj C s.heap.objs.size) rfl
    rwa [Heap.size_push] at this
  have e3 : (s.heap.push PySem.W.emptyDict).Ns s.heap.objs.size (fun _ => none) := ⟨PySem.W.emptyDict, #[], _, e1, rfl, (fun e he => absurd he (by simp)), fun _ => rfl⟩
  have I1 := I.laid (a := s.heap.objs.size) (o := .own (s.heap.objs.size + 1)) (h' := s.heap.push PySem.W.emptyDict) (t' := s.toks) (fun b u q => Heap.get?_push_of_some _ q) (Nat.le_refl _) ⟨_, e1⟩
  refine I1.laid (a := s.heap.objs.size + 1) (o := .ins C s.heap.objs.size []) (t' := s.toks) (fun b u q => Heap.get?_push_of_some _ q) (Nat.le_of_eq (Heap.size_push _ _)) ?_
  have ne : s.heap.objs.size ≠ s.heap.objs.size + 1 := Nat.ne_of_lt (Nat.lt_succ_self _)
  refine ⟨by rw [upd_ne ne, upd_same], Nat.zero_le _, ne, e2, fun _ => none, (Heap.Ns1.of_empty e3).at fun o q => Heap.get?_push_of_some _ q, fun _ => True.intro, fun y hy => absurd rfl hy⟩
end
def tFld (K : PySem.W.Frag) (ta : TE) (f : Str) : TE := fun σ H Q => ta σ H fun x H1 => ∃ a C dx fs v, x = .ref a ∧ H1 a = some (.ins C dx fs) ∧ Cls K C ∧ NoAttr K C f ∧ fs.lookup f = some v ∧ Q v H1
def tCon (K : PySem.W.Frag) (ta : TE) (f : Str) : TE := fun σ H Q => ta σ H fun x H1 => ∃ a C dx fs v u, x = .ref a ∧ H1 a = some (.ins C dx fs) ∧ Cls K C ∧ Con K C f v u ∧ fs.lookup f = none ∧ Q v H1
def sFld (K : PySem.W.Frag) (ta tv : TE) (f : Str) : TS := fun D σ H => tv σ H fun y H1 => ta σ H1 fun x H2 => ∃ a C dx fs, x = .ref a ∧ H2 a = some (.ins C dx fs) ∧ Cls K C ∧ NoAttr K C f ∧ fs.length < 1000 ∧
  D.nx σ (upd H2 a (.ins C dx (putF f y fs)))
def InOp (X : Cx) (op : Operator) (rd : V → V → Hp → VK → Prop) : Prop :=
  ∀ (pins : List (Addr × Obj)) (s : Shared) (σ : St) (H : Hp) (x y : V) (u v : Value) (Q : VK), Inv X pins σ H s → RelV x u → RelV y v → rd x y H Q → wpAny (model X.prog X.w) X.A (inplaceOp op u v) (EP X pins σ Q) X.xe s
def sFldAug (K : PySem.W.Frag) (ta tv : TE) (rd : V → V → Hp → VK → Prop) (f : Str) : TS := fun D σ H => ta σ H fun x H1 => ∃ a C dx fs v, x = .ref a ∧ H1 a = some (.ins C dx fs) ∧ Cls K C ∧ NoAttr K C f ∧ fs.lookup f = some v ∧
  tv σ H1 fun y H2 => rd v y H2 fun z H3 => ∃ dx' fs', H3 a = some (.ins C dx' fs') ∧ fs'.length < 1000 ∧ D.nx σ (upd H3 a (.ins C dx' (putF f z fs')))
section
variable {X : Cx} {o e value : Expr} {f : Str} {pos pos' tpos : Pos} {ta tv : TE}
def rAdd : V → V → Hp → VK → Prop := fun x y H Q => ∃ i j, x = .int i ∧ y = .int j ∧ Q (.int (i + j)) H
def rSub : V → V → Hp → VK → Prop := fun x y H Q => ∃ i j, x = .int i ∧ y = .int j ∧ Q (.int (i - j)) H
end
section
variable {X : Cx} {pins : List (Addr × Obj)} {σ : St} {H : Hp} {s : Shared} {A : Around} {E : Value → Shared → Prop} {Q : Value → Shared → Prop} {c : Value} {b : Bool}
inductive TyOf (K : PySem.W.Frag) (H : Hp) : V → Value → Prop where
  | non : TyOf K H .non (.type "NoneType")
  | bl (x : Bool) : TyOf K H (.bl x) (.type "bool")
  | int (i : Int) : TyOf K H (.int i) (.type "int")
  | str (x : Str) : TyOf K H (.str x) (.type "str")
  | flt (x : UInt64) : TyOf K H (.flt x) (.type "float")
  | lst {a : Addr} {xs : List V} (e : H a = some (.lst xs)) : TyOf K H (.ref a) (.type "list")
  | frz {a : Addr} {o : Obj} {xs : List V} (e : H a = some (.frz o (.lst xs))) : TyOf K H (.ref a) (.type "list")
  | tup {a : Addr} {xs : List V} (e : H a = some (.tup xs)) : TyOf K H (.ref a) (.type "tuple")
  | dK {a : Addr} {kvs : List (Key × V)} (e : H a = some (.dK kvs)) : TyOf K H (.ref a) (.type "dict")
  | dT {a : Addr} {kvs : List (List Key × V)} (e : H a = some (.dT kvs)) : TyOf K H (.ref a) (.type "dict")
  | ins {a C dx : Addr} {fs : List (Str × V)} (e : H a = some (.ins C dx fs)) (cl : Cls K C) (ha : PySem.W.findIn K (.ref C) "__class__" = some (some (.builtin "object.__class__")))
      (hn : PySem.W.specialIn K (.builtin "object.__class__") "__get__" = some (some (.builtin "getset_descriptor.__get__"))) (htk : PySem.W.takesIn K (.builtin "object.__class__") = some true)
      (hm : PySem.W.mroIn K C (.type "object") = some true) : TyOf K H (.ref a) (.ref C)
end
end L2
namespace L2
open PySem PySem.Spec PyProof.Rows
structure Room (k : Nat) (A : Around) : Prop where
  hd : A.handled = none
  dp : A.depth + 3 * k + 5 < recursionLimit
  un : A.units + 16 * k + 200 < cLine
theorem Room.mono {j k : Nat} {A : Around} (r : Room k A) (h : j ≤ k) : Room j A := ⟨r.hd, by have := r.dp; omega, by have := r.un; omega⟩
theorem Room.deeper {k : Nat} {A : Around} (r : Room (k + 1) A) (env : Env) : Room k (A.deeper env) :=
  ⟨r.hd, by have := r.dp; show A.depth + 1 + 3 * k + 5 < _; omega, by have := r.un; show A.units + 3 + 16 * k + 200 < _; omega⟩
theorem Room.in1 {k : Nat} {A : Around} (r : Room (k + 1) A) : Room k A.in1 :=
  ⟨r.hd, by have := r.dp; show A.depth + 3 * k + 5 < _; omega, by have := r.un; show A.units + 1 + 16 * k + 200 < _; omega⟩
theorem make_depth {A : Around} {C : Addr} {us : List Value} {kw : List (Str × Value)} : (A.under (.builtin "type.__call__" ⟨.ref C :: us, kw⟩)).depth = A.depth + 1 := by
  first | rfl | simp [Around.under, Code.weight, Code.isCreation, Code.isGuard, Code.isCaller, Code.frames, Code.isFrame, guardIds]
theorem make_units {A : Around} {C : Addr} {us : List Value} {kw : List (Str × Value)} : (A.under (.builtin "type.__call__" ⟨.ref C :: us, kw⟩)).units = A.units + 1 := by
  first | rfl | simp [Around.under, Code.cUnits, Code.frames, Code.isFrame]
theorem Room.make {k : Nat} {A : Around} (r : Room (k + 1) A) (C : Addr) (us : List Value) (kw : List (Str × Value)) : Room k (A.under (.builtin "type.__call__" ⟨.ref C :: us, kw⟩)) :=
  ⟨r.hd, by have := r.dp; rw [make_depth]; omega, by have := r.un; rw [make_units]; omega⟩
theorem Room.depth {k : Nat} {A : Around} (r : Room k A) : A.depth < recursionLimit := by have := r.dp; omega
theorem Room.units {k : Nat} {A : Around} (r : Room k A) : A.units + 64 < cLine := by have := r.un; omega
def tNil : TA := fun _ H Q => Q [] H
def tCons (ta : TE) (tr : TA) : TA := fun σ H Q => ta σ H fun x H1 => tr σ H1 fun xs H2 => Q (x :: xs) H2
section
variable {X : Cx} {e : Expr} {es : List Expr} {te : TE} {t : TA} {pos : Pos}
theorem pa_nil : PA X [] tNil := fun _ _ _ _ H Q I h => Calls.spliced_nil ⟨[], H, I, .nil, h⟩
theorem pa_cons (ha : PE X e te) (hr : PA X es t) (hs : starEach (e :: es) X.env = (false, eval e X.env) :: starEach es X.env := by rfl) : PA X (e :: es) (tCons te t) := by
  intro pos pins s σ H Q I h
  rw [hs]
  show wpAny _ _ (spliced ((false, eval e X.env) :: backTo pos (starEach es X.env))) _ _ s
  refine Calls.spliced_cons (thn (ha pins s σ H _ I h) fun u s1 ⟨x, H1, I1, r1, q1⟩ => ?_)
  exact thn (hr pos pins s1 σ H1 _ I1 q1) fun us s2 ⟨xs, H2, I2, r2, q2⟩ => ⟨x :: xs, H2, I2, .cons r1 r2, q2⟩
def tTup (t : TA) : TE := fun σ H Q => t σ H fun xs H1 => xs.length ≤ sizeLine ∧ ∀ p, H1 p = none → Q (.ref p) (upd H1 p (.tup xs))
def tLst (t : TA) : TE := fun σ H Q => t σ H fun xs H1 => xs.length ≤ sizeLine ∧ ∀ p, H1 p = none → Q (.ref p) (upd H1 p (.lst xs))
theorem pe_tup {x1} (h : PA X es t) : PE X (.Tuple es x1 pos) (tTup t) := by
  intro pins s σ H Q I hq
  refine wpAny_Tuple_spliced (thn (h pos pins s σ H _ I hq) fun us s1 ⟨xs, H1, I1, r, z, q⟩ => ⟨by rw [← r.length]; exact z, ?_⟩)
  have hf : H1 s1.heap.objs.size = none := I1.hok.fresh (Nat.le_refl _)
  refine ⟨.ref s1.heap.objs.size, upd H1 s1.heap.objs.size (.tup xs), I1.laid (t' := s1.toks) (fun b u e => Heap.get?_push_of_some _ e) (Nat.le_refl _) ?_, rfl, q _ hf⟩
  exact ⟨z, us, r, ⟨_, Heap.get?_push_size _ rfl, rfl, _, rfl⟩⟩
theorem pe_lst (h : PA X es t) : PE X (.List es pos) (tLst t) := by
  intro pins s σ H Q I hq
  refine wpAny_List_spliced (thn (h pos pins s σ H _ I hq) fun us s1 ⟨xs, H1, I1, r, z, q⟩ => ⟨by rw [← r.length]; exact z, ?_⟩)
  have hf : H1 s1.heap.objs.size = none := I1.hok.fresh (Nat.le_refl _)
  refine ⟨.ref s1.heap.objs.size, upd H1 s1.heap.objs.size (.lst xs), I1.laid (t' := s1.toks) (fun b u e => Heap.get?_push_of_some _ e) (Nat.le_refl _) ?_, rfl, q _ hf⟩
  exact ⟨z, us, 0, r, Heap.get?_push_size _ rfl⟩
end
abbrev Sp := List V → Hp → VK → XK → Prop
abbrev CXT := List Env → Hp → Shared → XK → Value → Shared → Prop
structure Env0 (P : Program) (w : World) (K : PySem.W.Frag) (mg : Str → Option Value) (base : Heap) (A : Around) (outer : List Env) (s : Shared) (H : Hp) : Prop where
  frames : A.frames = some outer
  mod : Mod K mg base
  bs : ∀ b o, base.get? b = some o → s.heap.get? b = some o ∧ H b = none
  bsz : base.objs.size ≤ s.heap.objs.size
  funs : s.heap.FunFrames base outer
  frf : ∀ b ∈ frs outer, H b = none
  hok : HOk P w H s.heap
  bare : AllBare s.gens
def CE (outer : List Env) (P : Program) (w : World) (H : Hp) (s : Shared) (Q : VK) (u : Value) (s' : Shared) : Prop :=
  ∃ v H', s'.os = s.os ∧ AllBare s'.gens ∧ Un (frs outer) [] H H' s.heap s'.heap ∧ HOk P w H' s'.heap ∧ RelV v u ∧ Q v H'
def CR (CX : CXT) (outer : List Env) (P : Program) (w : World) (H : Hp) (s : Shared) (Q : VK) (E : XK) (r : Result) (s' : Shared) : Prop :=
  match r with
  | .ok (.ret u) => CE outer P w H s Q u s'
  | .ok _ => False
  | .error e => CX outer H s E e s'
structure FnOk (P : Program) (w : World) (K : PySem.W.Frag) (mg : Str → Option Value) (base : Heap) (CX : CXT) (k : Nat) (f : Addr) (fd : FuncData) (ps : List Str) (sp : Sp) : Prop where
  len : ∀ vs H Q E, sp vs H Q E → vs.length = ps.length
  run : ∀ (A : Around) (outer : List Env) (s : Shared) (H : Hp) (args : Args) (us : List Value) (vs : List V) (Q : VK) (E : XK), Room k A → Env0 P w K mg base A outer s H → BindsTo s fd args (ps.zip us) → Vals vs us → sp vs H Q E →
    codeAny (model P w) A (.call (.ref f) args) (CR CX outer P w H s Q E) s
theorem FnOk.mono {P : Program} {w : World} {K : PySem.W.Frag} {mg : Str → Option Value} {base : Heap} {CX : CXT} {j k : Nat} {f : Addr} {fd : FuncData} {ps : List Str} {sp : Sp} (F : FnOk P w K mg base CX j f fd ps sp) (h : j ≤ k) :
    FnOk P w K mg base CX k f fd ps sp := ⟨F.len, fun A outer s H args us vs Q E hr => F.run A outer s H args us vs Q E (hr.mono h)⟩
theorem FnOk.imp {P : Program} {w : World} {K : PySem.W.Frag} {mg : Str → Option Value} {base : Heap} {CX : CXT} {k : Nat} {f : Addr} {fd : FuncData} {ps : List Str} {sp sp' : Sp} (F : FnOk P w K mg base CX k f fd ps sp)
    (h : ∀ vs H Q E, sp' vs H Q E → sp vs H Q E) : FnOk P w K mg base CX k f fd ps sp' :=
  ⟨fun vs H Q E q => F.len vs H Q E (h _ _ _ _ q), fun A outer s H args us vs Q E hr he hb hv hs => F.run A outer s H args us vs Q E hr he hb hv (h _ _ _ _ hs)⟩
theorem Env0.make {P : Program} {w : World} {K : PySem.W.Frag} {mg : Str → Option Value} {base : Heap} {A : Around} {outer : List Env} {s : Shared} {H : Hp} (e : Env0 P w K mg base A outer s H) (C : Addr) (us : List Value) (kw : List (Str × Value)) :
    Env0 P w K mg base (A.under (.builtin "type.__call__" ⟨.ref C :: us, kw⟩)) outer s H := ⟨by first | exact e.frames | (simpa [Around.under, Code.envs, Code.isFrame, pushEnvs] using e.frames), e.mod, e.bs, e.bsz, e.funs, e.frf, e.hok, e.bare⟩
theorem Env0.in1 {P : Program} {w : World} {K : PySem.W.Frag} {mg : Str → Option Value} {base : Heap} {A : Around} {outer : List Env} {s : Shared} {H : Hp} (e : Env0 P w K mg base A outer s H) :
    Env0 P w K mg base A.in1 outer s H := ⟨e.frames, e.mod, e.bs, e.bsz, e.funs, e.frf, e.hok, e.bare⟩
section
variable {X : Cx} {pins : List (Addr × Obj)} {σ : St} {H : Hp} {s s' : Shared}
theorem Inv.env0 (I : Inv X pins σ H s) : Env0 X.prog X.w X.K X.mg X.base X.A X.stack s H :=
  ⟨I.ok.frames, I.ok.mod, I.bs, Nat.le_trans I.ok.bsz I.sz, I.stack, I.stkFree, I.hok, I.bare⟩
theorem Inv.after {Q : VK} {u : Value} (I : Inv X pins σ H s) (h : CE X.stack X.prog X.w H s Q u s') : EP X pins σ Q u s' := by
  obtain ⟨v, H', os, bare, un, hok, r, q⟩ := h
  obtain ⟨hh, g, d, t, os'⟩ := s'
  obtain rfl : os' = s.os := os
  exact ⟨v, H', I.call (h' := hh) (g' := g) (d' := d) (t' := t) (ch := []) un hok bare (fun b z => absurd z (by simp)), r, q⟩
end
def tCall (sp : Sp) (dvs : List V) (E : XK) (t : TA) : TE := fun σ H Q => t σ H fun vs H1 => sp (vs ++ dvs) H1 Q E
def tMeth (C : Addr) (m : Str) (sp : Sp) (dvs : List V) (E : XK) (ta : TE) (t : TA) : TE := fun σ H Q => ta σ H fun x H1 => ∃ a dx fs, x = .ref a ∧ H1 a = some (.ins C dx fs) ∧ fs.lookup m = none ∧
  t σ H1 fun vs H2 => sp (x :: (vs ++ dvs)) H2 Q E
def tMake (C : Addr) (sp : Sp) (dvs : List V) (E : XK) (t : TA) : TE := fun σ H Q => t σ H fun vs H1 => ∀ x dx, H1 x = none → H1 dx = none → dx ≠ x →
  sp (.ref x :: (vs ++ dvs)) (upd (upd H1 dx (.own x)) x (.ins C dx [])) (fun v H2 => v = .non ∧ Q (.ref x) H2) E
def Binds (K : PySem.W.Frag) (fd : FuncData) (ps : List Str) (ds : List Value) : Prop :=
  ∀ (s : Shared) (us : List Value), K.In s.heap → (us ++ ds).length = ps.length → BindsTo s fd ⟨us, []⟩ (ps.zip (us ++ ds))
theorem Binds.all {K : PySem.W.Frag} {fd : FuncData} {ps : List Str} (h : ∀ us : List Value, us.length = ps.length → bindArgs fd ⟨us, []⟩ = pure (ps.zip us)) : Binds K fd ps [] := fun s us _ hl => by
  rw [List.append_nil] at hl ⊢
  exact .of_eq (h us hl)
def Passes (CX : CXT) (X : Cx) (E : XK) : Prop := ∀ (pins : List (Addr × Obj)) (σ : St) (H : Hp) (s : Shared) (e : Value) (s' : Shared), Inv X pins σ H s → CX X.stack H s E e s' → X.xe e s'
section
variable {X : Cx} {CX : CXT} {k : Nat} {f C : Addr} {fd : FuncData} {ps : List Str} {sp : Sp} {dvs : List V} {ds : List Value} {E : XK} {x m : Str} {p pos apos : Pos} {e o : Expr} {es : List Expr} {ta : TE} {t : TA}
theorem run_fn {pins : List (Addr × Obj)} {σ : St} {H : Hp} {s : Shared} {Q : VK} {us : List Value} {vs : List V} (F : FnOk X.prog X.w X.K X.mg X.base CX k f fd ps sp) (hr : Room k X.A) (hb : Binds X.K fd ps ds) (hd : Vals dvs ds) (hx : Passes CX X E)
    (I : Inv X pins σ H s) (r : Vals vs us) (h : sp (vs ++ dvs) H Q E) : wpAny (model X.prog X.w) X.A (call (.ref f) us) (EP X pins σ Q) X.xe s := by
  have r2 : Vals (vs ++ dvs) (us ++ ds) := r.append hd
  have hl : (us ++ ds).length = ps.length := by rw [← r2.length]; exact F.len _ _ _ _ h
  refine wpAny_call (codeAny_mono (F.run X.A X.stack s H ⟨us, []⟩ (us ++ ds) (vs ++ dvs) Q E hr I.env0 (hb s us I.kIn hl) r2 h) fun r s' hq => ?_)
  cases r with
  | error e => exact hx pins σ H s e s' I hq
  | ok fl =>
    cases fl with
    | ret u => exact I.after hq
    | next => exact False.elim hq
    | brk => exact False.elim hq
    | cont => exact False.elim hq
theorem pe_call (F : FnOk X.prog X.w X.K X.mg X.base CX k f fd ps sp) (hr : Room k X.A) (hg : Gl X x) (hm : X.mg x = some (.ref f)) (hk : PySem.W.keepIn X.K (.ref f) = true) (hb : Binds X.K fd ps ds) (hd : Vals dvs ds) (hx : Passes CX X E)
    (ha : PA X (e :: es) t) (hdb : (x == ("__debug__" : Str)) = false := by decide) (he : starEach (e :: es) X.env = (false, eval e X.env) :: starEach es X.env := by rfl) (hpl : (backTo pos (starEach es X.env)).any (·.1) = false := by rfl) :
    PE X (.Call (.Name x p) (e :: es) [] pos) (tCall sp dvs E t) := by
  intro pins s σ H Q I h
  refine wpAny_Call_Name_kw (ld_glob I hg hm ?_ hdb)
  refine PySem.W.callWith_K (h₀ := X.base) I.ok.mod.kin hk (thn (ha pos pins s σ H _ I h) fun us s1 ⟨vs, H1, I1, r, q⟩ => ⟨I1.kIn, ?_⟩) he hpl
  exact run_fn F hr hb hd hx I1 r q
structure Mk (K : PySem.W.Frag) (C f : Addr) : Prop where
  makes : PySem.W.makesIn K C = true
  init : PySem.W.findIn K (.ref C) "__init__" = some (some (.ref f))
  fn : PySem.W.isFn K (.ref f) = true
  kp : PySem.W.keepIn K (.ref C) = true
end
def PK (X : Cx) (kws : List Keyword) (t : TA) : Prop :=
  ∀ (pos : Pos) (pins : List (Addr × Obj)) (s : Shared) (σ : St) (H : Hp) (Q : List V → Hp → Prop), Inv X pins σ H s → t σ H Q → wpAny (model X.prog X.w) X.A (evalAll ((backToKw pos (keywordEach kws X.env)).map (·.2))) (AP X pins σ Q) X.xe s
section
variable {X : Cx} {CX : CXT} {k : Nat} {f C : Addr} {fd : FuncData} {ps ks : List Str} {sp : Sp} {E : XK} {x m : Str} {p pos apos kpos : Pos} {e o : Expr} {es : List Expr} {kws : List Keyword} {te ta : TE} {t tk : TA} {nm : Option Str}
structure KBinds (K : PySem.W.Frag) (fd : FuncData) (ps ks : List Str) (g : List Value → List Value → List Value) (gV : List V → List V → List V) : Prop where
  to : ∀ (s : Shared) (us ws : List Value), K.In s.heap → (g us ws).length = ps.length → BindsTo s fd ⟨us, ks.zip ws⟩ (ps.zip (g us ws))
  rel : ∀ {vs : List V} {us : List Value} {zs : List V} {ws : List Value}, Vals vs us → Vals zs ws → Vals (gV vs zs) (g us ws)
def tCallK (sp : Sp) (gV : List V → List V → List V) (E : XK) (t tk : TA) : TE := fun σ H Q => t σ H fun vs H1 => tk σ H1 fun zs H2 => sp (gV vs zs) H2 Q E
variable {g : List Value → List Value → List Value} {gV : List V → List V → List V}
end
structure FnScope (N P : List Str) (sc : Scope) : Prop where
  kind : sc.kind = .function
  co : sc.isCoroutine = false
  gen : sc.isGenerator = false
  nd : N.Nodup
  pre : N.take P.length = P
  par : ∀ x ∈ P, sc.names.lookup x = some .local ∨ sc.names.lookup x = some .cell
  nofree : ∀ y ∈ sc.names, y.2 ≠ .free
theorem bindL_out {kindOf : Str → Option NameKind} {x : Str} : ∀ {binds : List (Str × Value)} {m : Str → Option Value}, (∀ v, (x, v) ∉ binds) → bindL kindOf binds m x = m x
  | [], _, _ => rfl
  | (n, v) :: r, m, h => by
    unfold bindL
    rw [bindL_out fun w hw => h w (List.mem_cons_of_mem _ hw)]
    split
    · have : x ≠ n := by rintro rfl; exact h v List.mem_cons_self
      simp [this]
    · rfl
theorem bindC_out {kindOf : Str → Option NameKind} {x : Str} : ∀ {binds : List (Str × Value)} {m : Str → Option Value}, (∀ v, (x, v) ∉ binds) → bindC kindOf binds m x = m x
  | [], _, _ => rfl
  | (n, v) :: r, m, h => by
    unfold bindC
    rw [bindC_out fun w hw => h w (List.mem_cons_of_mem _ hw)]
    split
    · rfl
    · have : x ≠ n := by rintro rfl; exact h v List.mem_cons_self
      simp [this]
theorem bindL_get {kindOf : Str → Option NameKind} {x : Str} {v : Value} : ∀ {P : List Str} {vs : List Value} {i : Nat} {m : Str → Option Value}, P.Nodup → P[i]? = some x → vs[i]? = some v → kindOf x = some .local →
    bindL kindOf (P.zip vs) m x = some v
  | [], _, _, _, _, h, _, _ => by simp at h
  | _ :: _, [], _, _, _, _, h, _ => by simp at h
  | p :: P, w :: vs, 0, m, nd, h1, h2, hk => by
    simp at h1 h2; subst h1; subst h2
    show bindL kindOf ((p, w) :: P.zip vs) m p = _
    unfold bindL
    rw [bindL_out fun v hv => (List.nodup_cons.mp nd).1 (List.of_mem_zip hv).1, if_pos hk]
    simp
  | p :: P, w :: vs, i + 1, m, nd, h1, h2, hk => by
    show bindL kindOf ((p, w) :: P.zip vs) m x = _
    unfold bindL
    exact bindL_get (i := i) (List.nodup_cons.mp nd).2 (by simpa using h1) (by simpa using h2) hk
theorem bindC_get {kindOf : Str → Option NameKind} {x : Str} {v : Value} : ∀ {P : List Str} {vs : List Value} {i : Nat} {m : Str → Option Value}, P.Nodup → P[i]? = some x → vs[i]? = some v → kindOf x ≠ some .local →
    bindC kindOf (P.zip vs) m x = some v
  | [], _, _, _, _, h, _, _ => by simp at h
  | _ :: _, [], _, _, _, _, h, _ => by simp at h
  | p :: P, w :: vs, 0, m, nd, h1, h2, hk => by
    simp at h1 h2; subst h1; subst h2
    show bindC kindOf ((p, w) :: P.zip vs) m p = _
    unfold bindC
    rw [bindC_out fun v hv => (List.nodup_cons.mp nd).1 (List.of_mem_zip hv).1, if_neg hk]
    simp
  | p :: P, w :: vs, i + 1, m, nd, h1, h2, hk => by
    show bindC kindOf ((p, w) :: P.zip vs) m x = _
    unfold bindC
    exact bindC_get (i := i) (List.nodup_cons.mp nd).2 (by simpa using h1) (by simpa using h2) hk
def start (N : List Str) (vs : List V) : St := vs.map some ++ List.replicate (N.length - vs.length) none
def cxOf (CX : CXT) (P : Program) (w : World) (K : PySem.W.Frag) (mg : Str → Option Value) (base : Heap) (N : List Str) (qual : Str) (scope : Scope) (f : Addr) (cd : Value) (A : Around) (outer : List Env) (s : Shared) (H : Hp) (E : XK) : Cx where
  prog := P
  w := w
  K := K
  mg := mg
  base := base
  A := A.deeper (envOfC qual scope s.heap.objs.size f cd)
  N := N
  s₀ := s
  H₀ := H
  env := envOfC qual scope s.heap.objs.size f cd
  outer := outer
  stack := envOfC qual scope s.heap.objs.size f cd :: outer
  ex := []
  calm := true
  fn := fun _ => true
  pn := []
  xe := fun e s' => wpAny (model P w) (A.deeper (envOfC qual scope s.heap.objs.size f cd)) (leaving (envOfC qual scope s.heap.objs.size f cd) e) (fun _ s'' => CX outer H s E e s'') (fun e' s'' => CX outer H s E e' s'') s'
theorem cell_has {sc : Scope} {n : Nat} {x : Str} (h : sc.names.lookup x = some .cell) : ∃ c, (cellsFrom n sc.names []).lookup x = some c := by
  have q := PySem.W.cellsFrom_some sc.names n [] (.inl h)
  exact Option.isSome_iff_exists.mp q
theorem inv_start {CX : CXT} {P : Program} {w : World} {K : PySem.W.Frag} {mg : Str → Option Value} {base : Heap} {N ps : List Str} {qual : Str} {scope : Scope} {f : Addr} {cd : Value} {A : Around} {outer : List Env} {s s1 : Shared} {H : Hp} {E : XK} {us : List Value} {vs : List V}
    (S : FnScope N ps scope) (hd : A.handled = none) (e0 : Env0 P w K mg base A outer s H) (hl : vs.length = ps.length) (r : Vals vs us)
    (x : InCallC s s.heap.objs.size (bindL (envOfC qual scope s.heap.objs.size f cd).kindOf (ps.zip us) fun _ => none) (cellsFrom (s.heap.objs.size + 1) scope.names []) (bindC (envOfC qual scope s.heap.objs.size f cd).kindOf (ps.zip us) fun _ => none) s1) :
    Inv (cxOf CX P w K mg base N qual scope f cd A outer s H E) [] (start N vs) H s1 := by
  have hpl : ps.length ≤ N.length := by have := congrArg List.length S.pre; rw [List.length_take] at this; omega
  obtain ⟨h1, tk, rfl, hk⟩ := x.done
  have noA : ∀ b : Addr, b ∉ (cxOf CX P w K mg base N qual scope f cd A outer s H E).ex := fun b z => absurd (show b ∈ ([] : List Addr) from z) (by simp)
  refine ⟨⟨e0.mod, S.kind, rfl, rfl, Nat.le_refl _, fun y z c h1 h2 => ?_, fun y hy => ?_, fun y c _ h => ?_, fun _ => hd, Around.frames_deeper e0.frames, .inr ⟨rfl, rfl⟩, fun b z => absurd z (noA b), e0.bs, e0.bsz, fun b _ _ => noA b, fun b z => absurd z (noA b), e0.funs, e0.frf⟩,
    rfl, e0.bare, Un.kept hk, ⟨_, x.toInCall.ns, fun i y v h1 h2 h3 => ?_⟩, fun y c h => ⟨_, x.cell y c h⟩, e0.hok.fresh (Nat.le_refl _), fun y c h => ?_, fun p hp => absurd (show p ∈ ([] : List (Addr × Obj)) from hp) (by simp), e0.hok.kept hk, ?_⟩
  · exact name_of_addr x.apart (PySem.mem_of_lookup h1) (PySem.mem_of_lookup h2)
  · have hy : scope.names.lookup y = some .cell ∨ scope.names.lookup y = some .free := hy
    rcases hy with hy | hy
    · exact cell_has hy
    · exact absurd rfl (S.nofree _ (PySem.mem_of_lookup hy))
  · exact Nat.le_of_lt (x.above y c (PySem.mem_of_lookup h))
  · have hi : i < vs.length := by
      unfold start at h2
      by_cases hi : i < vs.length
      · exact hi
      · rw [List.getElem?_append_right (by simpa using hi)] at h2
        rw [List.getElem?_replicate] at h2
        split at h2 <;> cases h2
    have ha : vs[i]? = some v := by
      unfold start at h2
      rw [List.getElem?_append_left (by simpa using hi), List.getElem?_map] at h2
      cases e : vs[i]? with
      | none => rw [e] at h2; cases h2
      | some a => rw [e] at h2; cases h2; rfl
    obtain ⟨u, hu, rv⟩ := r.get ha
    have hp : ps[i]? = some y := by
      rw [← S.pre, List.getElem?_take_of_lt (by omega)]; exact h1
    have ndP : ps.Nodup := by rw [← S.pre]; exact S.nd.sublist (List.take_sublist _ _)
    refine ⟨u, rv, ?_⟩
    rcases S.par y (List.mem_of_getElem? hp) with k | k
    · exact .inl ⟨k, bindL_get ndP hp hu k⟩
    · obtain ⟨c, e⟩ := cell_has (n := s.heap.objs.size + 1) k
      refine .inr ⟨.inl k, c, e, ?_⟩
      have q := x.cell y c e
      rw [bindC_get ndP hp hu (by show scope.names.lookup y ≠ _; rw [k]; decide)] at q
      exact q
  · exact e0.hok.fresh (Nat.le_of_lt (x.above y c (PySem.mem_of_lookup h)))
  · unfold start
    show _ = N.length
    rw [List.length_append, List.length_map, List.length_replicate]
    omega
theorem fn_of {CX : CXT} {P : Program} {w : World} {K : PySem.W.Frag} {mg : Str → Option Value} {base : Heap} {k : Nat} {f : Addr} {name qual : Str} {params : Arguments} {body : List Stmt} {scope : Scope} {dV kV doc pm cdv ct oc : Value} {an od : Option Addr}
    {osl : Array (Option Value)} {N ps : List Str} {sp : Sp} (lk : K.lookup f = some ⟨oc, od, .func (PySem.W.fnOf name qual params body scope dV kV doc pm an cdv ct), osl⟩) (hcd : PySem.W.codeIn K cdv qual = true) (S : FnScope N ps scope)
    (len : ∀ vs H Q E, sp vs H Q E → vs.length = ps.length)
    (hbody : ∀ (A : Around) (outer : List Env) (s : Shared) (H : Hp) (vs : List V) (Q : VK) (E : XK), Room k (A.deeper (envOfC qual scope s.heap.objs.size f cdv)) → sp vs H Q E →
      ∃ t, PSs (cxOf CX P w K mg base N qual scope f cdv A outer s H E) body t ∧ t { nx := fun _ H' => Q .non H', rt := Q } (start N vs) H) :
    FnOk P w K mg base CX (k + 1) f (PySem.W.fnOf name qual params body scope dV kV doc pm an cdv ct) ps sp := by
  refine ⟨len, fun A outer s H args us vs Q E hr e0 hb r hsp => ?_⟩
  have hl := len _ _ _ _ hsp
  have KX : K.In s.heap := e0.mod.kin.keeps fun b o e => (e0.bs b o e).1
  have lim : s.heap.NoLimit := e0.mod.nolimit.keeps fun b o e => (e0.bs b o e).1
  have hkind : ∀ y ∈ ps.zip us, scope.names.lookup y.1 = some .local ∨ (scope.names.lookup y.1 = some .cell ∧ ((cellsFrom (s.heap.objs.size + 1) scope.names []).lookup y.1).isSome = true) := fun ⟨n, v⟩ hy => by
    rcases S.par n (List.of_mem_zip hy).1 with q | q
    · exact .inl q
    · exact .inr ⟨q, PySem.W.cellsFrom_some _ _ _ (.inl q)⟩
  refine codeAny_call_function hr.depth (KX _ _ lk) rfl S.co S.gen rfl (PySem.W.codeRec_of KX hcd) (hb _ _ _ _ ?_)
  refine wpAny_newFunctionEnv_cells S.kind hkind fun env he s1 x => ?_
  subst he
  refine ⟨lim.keeps x.toInCall.keep, codeAny_func ?_⟩
  obtain ⟨t, ht, hq⟩ := hbody A outer s H vs Q E (hr.deeper _) hsp
  have I : Inv (cxOf CX P w K mg base N qual scope f cdv A outer s H E) [] (start N vs) H s1 := inv_start S hr.hd e0 hl r x
  refine wpAny_mono (ht [] s1 (start N vs) H _ I hq) (fun fl s' hs => ?_) fun e s' hs => hs
  have fin : ∀ {σ' : St} {H' : Hp} {v : V} {u : Value}, Inv (cxOf CX P w K mg base N qual scope f cdv A outer s H E) [] σ' H' s' → RelV v u → Q v H' → CE outer P w H s Q u s' :=
    fun {σ' H' v u} J rv q => ⟨v, H', J.os, J.bare, J.base, J.hok, rv, q⟩
  cases fl with
  | ret u =>
    obtain ⟨v, σ', H', J, rv, q⟩ := hs
    exact fin J rv q
  | next =>
    obtain ⟨σ', H', J, q⟩ := hs
    exact fin (v := V.non) (u := Value.none) J rfl q
  | brk =>
    obtain ⟨_, _, _, q⟩ := hs
    exact False.elim q
  | cont =>
    obtain ⟨_, _, _, q⟩ := hs
    exact False.elim q
end L2
namespace L2
open PySem PySem.Spec PyProof.Rows
section
variable {X : Cx} {x : Str} {p pos : Pos} {e : Expr} {es : List Expr} {t : TA} {id T : String} {r : List V → Hp → VK → Prop}
def tCB (r : List V → Hp → VK → Prop) (t : TA) : TE := fun σ H Q => t σ H fun vs H1 => r vs H1 Q
theorem pe_callB (hc : CallR X (.builtin id) r) (hg : Gl X x) (hm : X.mg x = none) (hv : bootBuiltins x = some (.builtin id)) (ha : PA X (e :: es) t) (hn : x ≠ "__name__" := by decide) (hdb : (x == ("__debug__" : Str)) = false := by decide)
    (he : starEach (e :: es) X.env = (false, eval e X.env) :: starEach es X.env := by rfl) (hpl : (backTo pos (starEach es X.env)).any (·.1) = false := by rfl) : PE X (.Call (.Name x p) (e :: es) [] pos) (tCB r t) := by
  intro pins s σ H Q I h
  refine wpAny_Call_Name_kw (ld_blt I hg hm hv ?_ hn hdb)
  exact PyProof.Rows.callWith_builtin1 (thn (ha pos pins s σ H _ I h) fun us s1 ⟨vs, H1, I1, r1, q1⟩ => hc pins s1 σ H1 vs us Q I1 r1 q1) he hpl
theorem pe_callTy (hc : CallR X (.type T) r) (hg : Gl X x) (hm : X.mg x = none) (hv : bootBuiltins x = some (.type T)) (ha : PA X (e :: es) t) (hn : x ≠ "__name__" := by decide) (hdb : (x == ("__debug__" : Str)) = false := by decide)
    (he : starEach (e :: es) X.env = (false, eval e X.env) :: starEach es X.env := by rfl) (hpl : (backTo pos (starEach es X.env)).any (·.1) = false := by rfl) : PE X (.Call (.Name x p) (e :: es) [] pos) (tCB r t) := by
  intro pins s σ H Q I h
  refine wpAny_Call_Name_kw (ld_blt I hg hm hv ?_ hn hdb)
  exact PyProof.Rows.callWith_type1 (thn (ha pos pins s σ H _ I h) fun us s1 ⟨vs, H1, I1, r1, q1⟩ => hc pins s1 σ H1 vs us Q I1 r1 q1) he hpl
end
end L2
namespace HT
open PySem PyProof.Rows
def lexLt : List Int → List Int → Bool
  | [], [] => false
  | [], _ :: _ => true
  | _ :: _, [] => false
  | x :: xs, y :: ys => if x = y then lexLt xs ys else decide (x < y)
theorem eqAt_int (A : Around) (s : Shared) (a : Int) (t : Tok) (c : Int) (u : Tok) : ∃ e, SeqAt.EqAt A s (.int a t) (.int c u) e ∧ (e = true ↔ a = c) :=
  ⟨(a == c), SeqAt.EqAt.int_int a t c u, by simp⟩
section
open PySem.SeqAt
open PySem.AutoSeq1 (wpAny_loadPart')
open PySem.MeetsSeq PySem.MeetsSeq2 PySem.MeetsSeq3
end
section
variable {prog : Program} {w : World} {A : Around} {E : Value → Shared → Prop} {s : Shared}
def sIx (n d : Nat) : Option Int → Nat
  | none => d
  | some v => if v < 0 then (v + (n : Int)).toNat else min v.toNat n
end
end HT
namespace L2
open PySem PySem.Spec PyProof.Rows
abbrev TO := St → Hp → (Option Int → Hp → Prop) → Prop
def PO (X : Cx) (e : Option Expr) (t : TO) : Prop :=
  ∀ (pins : List (Addr × Obj)) (s : Shared) (σ : St) (H : Hp) (Q : Option Int → Hp → Prop), Inv X pins σ H s → t σ H Q →
    wpAny (model X.prog X.w) X.A (evalPart e X.env) (fun u s' => ∃ o H', Inv X pins σ H' s' ∧ IsPart u o ∧ Q o H') X.xe s
def tNoPart : TO := fun _ H Q => Q none H
def tPart (t : TE) : TO := fun σ H Q => t σ H fun x H1 => ∃ i, x = .int i ∧ Q (some i) H1
theorem intsAre_of {ns : List Int} : ∀ {us : List Value}, Vals (ns.map V.int) us → IntsAre us ns := by
  induction ns with
  | nil => intro us r; rw [List.map_nil] at r; cases r; exact .nil
  | cons n ns ih =>
    intro us r
    rw [List.map_cons] at r
    cases r with
    | cons r1 r2 =>
      obtain ⟨t, e⟩ := r1
      subst e
      exact .cons n t (ih r2)
section
variable {X : Cx} {e : Expr} {te : TE} {lo hi : Option Expr} {tl th : TO} {pos p2 : Pos}
theorem po_some (h : PE X e te) : PO X (some e) (tPart te) := by
  intro pins s σ H Q I hw
  rw [evalPart_some]
  refine thn (h pins s σ H _ I hw) fun u s1 ⟨x, H1, I1, r1, q1⟩ => ?_
  obtain ⟨i, rfl, q⟩ := q1
  obtain ⟨t, rfl⟩ := r1
  exact ⟨some i, H1, I1, .int i t, q⟩
def SlR (X : Cx) (r : V → Option Int → Option Int → Hp → VK → Prop) : Prop :=
  ∀ (pins : List (Addr × Obj)) (s : Shared) (σ : St) (H : Hp) (x : V) (v vl vu : Value) (lo hi : Option Int) (sl : Addr) (Q : VK), Inv X pins σ H s → RelV x v → s.heap.IsSliceOf sl vl vu .none → IsPart vl lo → IsPart vu hi → r x lo hi H Q →
    ∃ T id, typeLookup (.type T) "__getitem__" = pure (some (.builtin id)) ∧ s.TypeIs v T ∧ wpAny (model X.prog X.w) X.A (getItem v (.ref sl)) (EP X pins σ Q) X.xe s
theorem SlR.or {r r' : V → Option Int → Option Int → Hp → VK → Prop} (h : SlR X r) (h' : SlR X r') : SlR X (fun x lo hi H Q => r x lo hi H Q ∨ r' x lo hi H Q) := by
  intro pins s σ H x v vl vu lo hi sl Q I rx hs pl pu q
  rcases q with q | q
  · exact h pins s σ H x v vl vu lo hi sl Q I rx hs pl pu q
  · exact h' pins s σ H x v vl vu lo hi sl Q I rx hs pl pu q
def tSl (r : V → Option Int → Option Int → Hp → VK → Prop) (te : TE) (tl th : TO) : TE := fun σ H Q => te σ H fun x H1 => tl σ H1 fun l H2 => th σ H2 fun u H3 => r x l u H3 Q
theorem pe_slice {r : V → Option Int → Option Int → Hp → VK → Prop} (hr : SlR X r) (he : PE X e te) (hl : PO X lo tl) (hu : PO X hi th) : PE X (.Subscript e (.Slice lo hi none p2) pos) (tSl r te tl th) := by
  intro pins s σ H Q I h
  refine Subscript_ (thn (he pins s σ H _ I h) fun v s1 ⟨x, H1, I1, r1, q1⟩ => ?_)
  refine wpAny_Slice (thn (hl pins s1 σ H1 _ I1 q1) fun vl s2 ⟨l, H2, I2, pl, q2⟩ => thn (hu pins s2 σ H2 _ I2 q2) fun vu s3 ⟨u, H3, I3, pu, q3⟩ => ?_)
  rw [evalPart_none]
  refine wpAny_pure ?_
  have I4 : Inv X pins σ H3 { s3 with heap := s3.heap.push { cls := .type "slice", data := .fields #[vl, vu, .none] } } := I3.kept (t' := s3.toks) fun b ob q => Heap.get?_push_of_some _ q
  obtain ⟨T, id, hT, ht, hg⟩ := hr pins { s3 with heap := s3.heap.push { cls := .type "slice", data := .fields #[vl, vu, .none] } } σ H3 x v vl vu l u s3.heap.objs.size Q I4 r1 (Heap.IsSliceOf.new ..) pl pu q3
  show wpAny (model X.prog X.w) X.A (subscriptTail e (.Slice lo hi none p2) v (.ref s3.heap.objs.size)) (EP X pins σ Q) X.xe { s3 with heap := s3.heap.push { cls := .type "slice", data := .fields #[vl, vu, .none] } }
  exact tail_any (ops := [.ref s3.heap.objs.size, v]) ht hT hg (by with_unfolding_all rfl)
def cutV (xs : List V) (lo hi : Option Int) : List V := (xs.drop (HT.sIx xs.length 0 lo)).take (HT.sIx xs.length xs.length hi - HT.sIx xs.length 0 lo)
theorem cutV_length (xs : List V) (lo hi : Option Int) : (cutV xs lo hi).length ≤ xs.length := by
  unfold cutV
  rw [List.length_take, List.length_drop]
  omega
def rSlT (K : PySem.W.Frag) : V → Option Int → Option Int → Hp → VK → Prop := fun x lo hi H Q => ∃ a xs, x = .ref a ∧ SqT K H a xs ∧
  ¬ (HT.sIx xs.length 0 lo = 0 ∧ HT.sIx xs.length xs.length hi = xs.length) ∧ ∀ p, H p = none → Q (.ref p) (upd H p (.tup (cutV xs lo hi)))
def rLtT (K : PySem.W.Frag) : R2 := fun x y H Q => ∃ a b ns ms, x = .ref a ∧ y = .ref b ∧ SqT K H a (ns.map V.int) ∧ SqT K H b (ms.map V.int) ∧ Q (.bl (HT.lexLt ns ms)) H
def rCatT (K : PySem.W.Frag) : R2 := fun x y H Q => ∃ a b xs ys, x = .ref a ∧ y = .ref b ∧ SqT K H a xs ∧ SqT K H b ys ∧ xs ≠ [] ∧ xs.length + ys.length ≤ sizeLine ∧
  (ys = [] → Q (.ref a) H) ∧ (ys ≠ [] → ∀ p, H p = none → Q (.ref p) (upd H p (.tup (xs ++ ys))))
end
end L2
namespace L2
open PySem PySem.Spec PyProof.Rows
def ixN (n : Nat) (i : Int) : Option Nat := if 0 ≤ i then (if i < n then some i.toNat else none) else if -(n : Int) ≤ i then some (i + n).toNat else none
def atI {α : Type} (xs : List α) (i : Int) : Option α := (ixN xs.length i).bind fun j => xs[j]?
theorem ixN_seq {n : Nat} {i : Int} {j : Nat} (h : ixN n i = some j) : seqIndex? i n = some j ∧ j < n ∧ -(n : Int) ≤ i ∧ i < n := by
  unfold ixN at h
  by_cases h0 : 0 ≤ i
  · rw [if_pos h0] at h
    by_cases h1 : i < n
    · rw [if_pos h1] at h
      have e : i.toNat = j := Option.some.inj h
      exact ⟨by rw [seqIndex_of h0 h1, e], by omega, by omega, h1⟩
    · rw [if_neg h1] at h; cases h
  · rw [if_neg h0] at h
    by_cases h1 : -(n : Int) ≤ i
    · rw [if_pos h1] at h
      have e : (i + n).toNat = j := Option.some.inj h
      exact ⟨by rw [seqIndex_neg (by omega) h1, e], by omega, h1, by omega⟩
    · rw [if_neg h1] at h; cases h
theorem atI_get {α : Type} {xs : List α} {i : Int} {v : α} (h : atI xs i = some v) : ∃ j, seqIndex? i xs.length = some j ∧ xs[j]? = some v ∧ j < xs.length ∧ -(xs.length : Int) ≤ i ∧ i < xs.length := by
  unfold atI at h
  cases e : ixN xs.length i with
  | none => rw [e] at h; cases h
  | some j =>
    rw [e] at h
    obtain ⟨h1, h2, h3, h4⟩ := ixN_seq e
    exact ⟨j, h1, h, h2, h3, h4⟩
theorem atI_nat {α : Type} {xs : List α} {j : Nat} {v : α} (h : xs[j]? = some v) : atI xs (j : Int) = some v := by
  have hj : j < xs.length := (List.getElem?_eq_some_iff.mp h).1
  have e : ixN xs.length (j : Int) = some j := by
    unfold ixN
    rw [if_pos (by omega), if_pos (by omega)]; simp
  unfold atI; rw [e]; exact h
def PlainIx (b : Expr) : Prop := ∀ o i, subscripted b false o i = operate [o, i] (getItem o i)
def IxR (X : Cx) (r : R2) : Prop :=
  ∀ (value slice : Expr) (pins : List (Addr × Obj)) (s : Shared) (σ : St) (H : Hp) (x y : V) (v u : Value) (Q : VK), Inv X pins σ H s → RelV x v → RelV y u → r x y H Q →
    subscripted slice false v u = operate [v, u] (getItem v u) → wpAny (model X.prog X.w) X.A (subscriptTail value slice v u) (EP X pins σ Q) X.xe s
def MtR (X : Cx) (id : String) (r : V → List V → Hp → VK → Prop) : Prop :=
  ∀ (pins : List (Addr × Obj)) (s : Shared) (σ : St) (H : Hp) (x : V) (xs : List V) (v : Value) (us : List Value) (Q : VK), Inv X pins σ H s → RelV x v → Vals xs us → r x xs H Q →
    wpAny (model X.prog X.w) X.A (call (.builtin id) (v :: us)) (EP X pins σ Q) X.xe s
section
variable {X : Cx} {a b : Expr} {ta tb : TE} {pos : Pos}
theorem IxR.or {r r' : R2} (h : IxR X r) (h' : IxR X r') : IxR X (fun x y H Q => r x y H Q ∨ r' x y H Q) := by
  intro value slice pins s σ H x y v u Q I rx ry q hs
  rcases q with q | q
  · exact h value slice pins s σ H x y v u Q I rx ry q hs
  · exact h' value slice pins s σ H x y v u Q I rx ry q hs
theorem MtR.or {id : String} {r r' : V → List V → Hp → VK → Prop} (h : MtR X id r) (h' : MtR X id r') : MtR X id (fun x xs H Q => r x xs H Q ∨ r' x xs H Q) := by
  intro pins s σ H x xs v us Q I rx rs q
  rcases q with q | q
  · exact h pins s σ H x xs v us Q I rx rs q
  · exact h' pins s σ H x xs v us Q I rx rs q
theorem pe_ix {r : R2} (hr : IxR X r) (ha : PE X a ta) (hb : PE X b tb) (hs : PlainIx b) : PE X (.Subscript a b pos) (tOp r ta tb) := by
  intro pins s σ H Q I h
  exact Subscript_ (binT ha hb I h fun v u s2 x y H2 I2 rx ry q => hr a b pins s2 σ H2 x y v u Q I2 rx ry q (hs _ _))
def rIxL (K : PySem.W.Frag) : R2 := fun x y H Q => ∃ p xs i v, x = .ref p ∧ y = .int i ∧ SqL K H p xs ∧ atI xs i = some v ∧ Q v H
def rIxT (K : PySem.W.Frag) : R2 := fun x y H Q => ∃ p xs i v, x = .ref p ∧ y = .int i ∧ SqT K H p xs ∧ atI xs i = some v ∧ Q v H
def rIxS : R2 := fun x y H Q => ∃ z i c, x = .str z ∧ y = .int i ∧ z.length ≤ sizeLine ∧ atI z.cps.toList i = some c ∧ Q (.str ⟨#[c]⟩) H
theorem ix_list : IxR X (rIxL X.K) := by
  intro value slice pins s σ H x y v u Q I rx ry h hs
  obtain ⟨p, xs, i, z, rfl, rfl, hq, he, q⟩ := h
  cases rx
  obtain ⟨t, rfl⟩ := ry
  obtain ⟨its, r, pl, hz⟩ := I.list hq
  obtain ⟨j, h1, h2, h3, h4, h5⟩ := atI_get he
  obtain ⟨w, ew, rw'⟩ := r.get h2
  have hl := r.length
  have hn := line63
  have fin : EP X pins σ Q w s := ⟨z, H, I, rw', q⟩
  by_cases h0 : 0 ≤ i
  · have hj : i.toNat = j := by
      rw [seqIndex_of h0 h5] at h1
      exact Option.some.inj h1
    exact item_listR pl.isList h0 (by omega) (by rw [hj]; simpa using ew) fin hs
  · have hj : (i + (its.toArray.size : Int)).toNat = j := by
      rw [seqIndex_neg (by omega) h4] at h1
      rw [List.size_toArray, ← hl]
      exact Option.some.inj h1
    exact subscriptTail_builtinR (x := w) pl.isList.typeIs slot_list_getitem.lookup
      (wpAny_getItem_list_neg (Q := fun r s' => r = w ∧ EP X pins σ Q r s') pl.isList (by omega) (by rw [List.size_toArray] <;> omega) (by omega) (by rw [hj]; simpa using ew) ⟨rfl, fin⟩) hs
theorem ix_tup : IxR X (rIxT X.K) := by
  intro value slice pins s σ H x y v u Q I rx ry h hs
  obtain ⟨p, xs, i, z, rfl, rfl, hq, he, q⟩ := h
  cases rx
  obtain ⟨t, rfl⟩ := ry
  obtain ⟨its, r, pl, hz⟩ := I.tuple hq
  obtain ⟨j, h1, h2, h3, h4, h5⟩ := atI_get he
  obtain ⟨w, ew, rw'⟩ := r.get h2
  have hl := r.length
  have hn := line63
  have fin : EP X pins σ Q w s := ⟨z, H, I, rw', q⟩
  exact subscriptTail_builtinR (x := w) pl.typeIs slot_tuple_getitem.lookup
    (getItem_tuple (j := j) (Q := fun r s' => r = w ∧ EP X pins σ Q r s') pl (by omega) (by omega) (by rw [List.size_toArray, ← hl]; exact h1) (by simpa using ew) ⟨rfl, fin⟩) hs
def rIx (K : PySem.W.Frag) : R2 := fun x y H Q => rIxL K x y H Q ∨ rIxT K x y H Q ∨ rIxS x y H Q
theorem Inv.lst {pins : List (Addr × Obj)} {σ : St} {H : Hp} {s : Shared} {p : Addr} {xs : List V} (I : Inv X pins σ H s) (h : H p = some (.lst xs)) :
    ∃ (its : List Value) (n : Nat), Vals xs its ∧ s.heap.get? p = some { cls := .type "list", data := .seq its.toArray n } ∧ xs.length ≤ sizeLine := by
  obtain ⟨z, its, n, r, e⟩ := I.hok p _ h
  exact ⟨its, n, r, e, z⟩
def rSetL : V → V → V → Hp → (Hp → Prop) → Prop := fun o i v H Q => ∃ p xs k j, o = .ref p ∧ i = .int k ∧ H p = some (.lst xs) ∧ ixN xs.length k = some j ∧ Q (upd H p (.lst (xs.set j v)))
theorem slice_bounds (lo hi : Option Int) (n : Nat) : (sliceBounds lo hi none n).1 = ((HT.sIx n 0 lo : Nat) : Int) ∧ (sliceBounds lo hi none n).2.1 = ((HT.sIx n n hi : Nat) : Int) ∧ (sliceBounds lo hi none n).2.2 = 1 := by
  refine ⟨?_, ?_, rfl⟩
  · cases lo with
    | none => simp [sliceBounds, HT.sIx]
    | some i =>
      simp only [sliceBounds, HT.sIx, Option.getD_none, show (1 : Int) > 0 by decide, if_true]
      by_cases h : i < 0
      · simp only [h, if_true] <;> omega
      · simp only [h, if_false] <;> omega
  · cases hi with
    | none => simp [sliceBounds, HT.sIx]
    | some i =>
      simp only [sliceBounds, HT.sIx, Option.getD_none, show (1 : Int) > 0 by decide, if_true]
      by_cases h : i < 0
      · simp only [h, if_true] <;> omega
      · simp only [h, if_false] <;> omega
theorem slicePick_cut (its : List Value) (lo hi : Option Int) : slicePick its.toArray lo hi none = ((its.drop (HT.sIx its.length 0 lo)).take (HT.sIx its.length its.length hi - HT.sIx its.length 0 lo)).toArray := by
  obtain ⟨h1, h2, h3⟩ := slice_bounds lo hi its.toArray.size
  unfold slicePick
  rw [h1, h2, h3]
  simp only [sliceRange_one, pick_run, List.size_toArray] <;> rfl
def rSlL (K : PySem.W.Frag) : V → Option Int → Option Int → Hp → VK → Prop := fun x lo hi H Q => ∃ a xs, x = .ref a ∧ SqL K H a xs ∧ ∀ p, H p = none → Q (.ref p) (upd H p (.lst (cutV xs lo hi)))
theorem sl_list : SlR X (rSlL X.K) := by
  intro pins s σ H x v vl vu lo hi sl Q I rx hs pl pu h
  obtain ⟨a, xs, rfl, hx, q⟩ := h
  cases rx
  obtain ⟨its, r, ht, hz⟩ := I.list hx
  have hlen := r.length
  refine ⟨"list", _, slot_list_getitem.lookup, ht.isList.typeIs, ?_⟩
  refine wpAny_getItem_list_slice ht.isList hs pl pu .none (by simp) ?_ (by rw [List.size_toArray] <;> omega)
  rw [slicePick_cut, ← hlen]
  refine ⟨.ref s.heap.objs.size, _, I.laid (t' := s.toks) (o := .lst (cutV xs lo hi)) (fun b ob q => Heap.get?_push_of_some _ q) (Nat.le_refl _) ?_, rfl, q _ (I.hok.fresh (Nat.le_refl _))⟩
  exact ⟨Nat.le_trans (cutV_length xs lo hi) hz, _, 0, (r.drop (HT.sIx xs.length 0 lo)).take (HT.sIx xs.length xs.length hi - HT.sIx xs.length 0 lo), Heap.get?_push_size _ rfl⟩
def flatV : V → Bool
  | .non => true
  | .bl _ => true
  | .int _ => true
  | .str _ => true
  | _ => false
def eqV : V → V → Bool
  | .non, .non => true
  | .bl a, .bl b => a == b
  | .bl a, .int b => (if a then 1 else 0) == b
  | .int a, .bl b => a == (if b then 1 else 0)
  | .int a, .int b => a == b
  | .str a, .str b => a == b
  | _, _ => false
theorem eqAt_V {A : Around} {s : Shared} {y x : V} {u v : Value} (ry : RelV y u) (rx : RelV x v) (fy : flatV y = true) (fx : flatV x = true) : SeqAt.EqAt A s u v (eqV y x) := by
  cases y with
  | non =>
    cases ry
    cases x with
    | non => cases rx; exact SeqAt.EqAt.same _
    | bl b => cases rx; exact SeqAt.EqAt.none_bool b
    | int b => obtain ⟨t, rfl⟩ := rx; exact SeqAt.EqAt.none_int b t
    | str b => obtain ⟨t, rfl⟩ := rx; exact SeqAt.EqAt.none_str b t
    | _ => exact absurd (show false = true from fx) Bool.false_ne_true
  | bl a =>
    cases ry
    cases x with
    | non => cases rx; exact SeqAt.EqAt.bool_none a
    | bl b => cases rx; exact SeqAt.EqAt.bool_bool a b
    | int b => obtain ⟨t, rfl⟩ := rx; exact SeqAt.EqAt.bool_int a b t
    | str b => obtain ⟨t, rfl⟩ := rx; exact SeqAt.EqAt.bool_str a b t
    | _ => exact absurd (show false = true from fx) Bool.false_ne_true
  | int a =>
    obtain ⟨t', rfl⟩ := ry
    cases x with
    | non => cases rx; exact SeqAt.EqAt.int_none a t'
    | bl b => cases rx; exact SeqAt.EqAt.int_bool a t' b
    | int b => obtain ⟨t, rfl⟩ := rx; exact SeqAt.EqAt.int_int a t' b t
    | str b => obtain ⟨t, rfl⟩ := rx; exact SeqAt.EqAt.int_str a t' b t
    | _ => exact absurd (show false = true from fx) Bool.false_ne_true
  | str a =>
    obtain ⟨t', rfl⟩ := ry
    cases x with
    | non => cases rx; exact SeqAt.EqAt.str_none a t'
    | bl b => cases rx; exact SeqAt.EqAt.str_bool a t' b
    | int b => obtain ⟨t, rfl⟩ := rx; exact SeqAt.EqAt.str_int a t' b t
    | str b => obtain ⟨t, rfl⟩ := rx; exact SeqAt.EqAt.str_str a t' b t
    | _ => exact absurd (show false = true from fx) Bool.false_ne_true
  | _ => exact absurd (show false = true from fy) Bool.false_ne_true
def eqU (x : V) (u : Value) : Bool := match u with
  | .none => eqV .non x
  | .bool b => eqV (.bl b) x
  | .int i _ => eqV (.int i) x
  | .str z _ => eqV (.str z) x
  | _ => false
def inV (x : V) (xs : List V) : Bool := xs.any fun y => eqV y x
def rIn (K : PySem.W.Frag) (neg : Bool) : R2 := fun x y H Q => ∃ p xs, y = .ref p ∧ (SqL K H p xs ∨ SqT K H p xs) ∧ flatV x = true ∧ xs.all flatV = true ∧ Q (.bl (if neg then !inV x xs else inV x xs)) H
theorem call_len_seq : CallR X (.builtin "len") (fun xs H Q => ∃ p ys, xs = [.ref p] ∧ (SqL X.K H p ys ∨ SqT X.K H p ys) ∧ Q (.int ys.length) H) := by
  intro pins s σ H xs us Q I r h
  obtain ⟨p, ys, rfl, hq, q⟩ := h
  obtain ⟨u, rfl, rx⟩ := vals1 r
  cases rx
  have hn := line63
  rcases hq with hq | hq
  · obtain ⟨its, r', pl, hz⟩ := I.list hq
    have hlen := r'.length
    exact Calls.call_len_list pl.isList (by simp only [List.size_toArray] <;> omega) ⟨.int ys.length, H, I.tok _, ⟨s.toks + 1, by rw [List.size_toArray, hlen]⟩, q⟩
  · obtain ⟨its, r', pl, hz⟩ := I.tuple hq
    have hlen := r'.length
    exact len_tuple pl (by simp only [List.size_toArray] <;> omega) ⟨.int ys.length, H, I.tok _, ⟨s.toks + 1, by rw [List.size_toArray, hlen]⟩, q⟩
theorem CallR.or {f : Value} {r r' : List V → Hp → VK → Prop} (h : CallR X f r) (h' : CallR X f r') : CallR X f (fun xs H Q => r xs H Q ∨ r' xs H Q) := by
  intro pins s σ H xs us Q I rs q
  rcases q with q | q
  · exact h pins s σ H xs us Q I rs q
  · exact h' pins s σ H xs us Q I rs q
theorem call_tuple_of : CallR X (.type "tuple") (fun xs H Q => ∃ p ys, xs = [.ref p] ∧ ((SqL X.K H p ys ∧ ∀ l, H l = none → Q (.ref l) (upd H l (.tup ys))) ∨ (SqT X.K H p ys ∧ Q (.ref p) H))) := by
  intro pins s σ H xs us Q I r h
  obtain ⟨p, ys, rfl, h⟩ := h
  obtain ⟨u, rfl, rx⟩ := vals1 r
  cases rx
  rcases h with ⟨hq, q⟩ | ⟨hq, q⟩
  · obtain ⟨its, r', pl, hz⟩ := I.list hq
    have hlen := r'.length
    refine call_tuple_list pl.isList (fun h' kp => ?_) (by simp only [List.size_toArray] <;> omega)
    have I1 : Inv X pins σ H { s with heap := h' } := I.kept (t' := s.toks) kp
    have I2 : Inv X pins σ (upd H h'.objs.size (.tup ys)) { s with heap := h'.push { cls := .type "tuple", data := .seq its.toArray } } :=
      I1.laid (t' := s.toks) (fun b o e => Heap.get?_push_of_some _ e) (Nat.le_refl _) (show ObjOk X.prog X.w _ _ _ (.tup ys) from ⟨hz, its, r', IsTup.new _ _⟩)
    exact ⟨.ref h'.objs.size, _, I2, rfl, q _ (I1.hok.fresh (Nat.le_refl _))⟩
  · obtain ⟨its, r', pl, hz⟩ := I.tuple hq
    exact call_tuple_same pl ⟨.ref p, H, I, rfl, q⟩
def tyV (K : PySem.W.Frag) (T : String) (x : V) (H : Hp) : Prop := match x with
  | .str _ => T = "str"
  | .int _ => T = "int"
  | .ref p => (T = "list" ∧ ∃ xs, SqL K H p xs) ∨ (T = "tuple" ∧ ∃ o, K.lookup p = some o ∧ o.cls = .type "tuple" ∧ o.dict = none) ∨
      (T = "dict" ∧ ((∃ kvs, H p = some (.dK kvs)) ∨ ∃ kvs, H p = some (.dT kvs))) ∨ (T = "set" ∧ ∃ S n, H p = some (.set S n))
  | _ => False
theorem tyV_is {pins : List (Addr × Obj)} {σ : St} {H : Hp} {s : Shared} {T : String} {x : V} {v : Value} (I : Inv X pins σ H s) (r : RelV x v) (ty : tyV X.K T x H) :
    s.TypeIs v T ∧ ∀ a, v = .ref a → ∃ ob, s.heap.get? a = some ob ∧ ob.dict = none := by
  cases x with
  | str z =>
    obtain ⟨t, rfl⟩ := r
    cases (show T = "str" from ty)
    exact ⟨typeIs_str s z t, fun _ e => nomatch e⟩
  | int i =>
    obtain ⟨t, rfl⟩ := r
    cases (show T = "int" from ty)
    exact ⟨typeIs_int s i t, fun _ e => nomatch e⟩
  | ref p =>
    cases r
    rcases ty with ⟨rfl, xs, hq⟩ | ⟨rfl, o, hk, hc, hd⟩ | ⟨rfl, hk⟩ | ⟨rfl, S, n, hk⟩
    · obtain ⟨its, _, pl, _⟩ := I.list hq
      refine ⟨pl.isList.typeIs, fun a e => ?_⟩
      cases e
      obtain ⟨o, n, e, c, hd, _⟩ := pl
      exact ⟨o, e, hd⟩
    · refine ⟨⟨o, I.kIn p o hk, hc⟩, fun a e => ?_⟩
      cases e
      exact ⟨o, I.kIn _ o hk, hd⟩
    · have z : ∃ o, s.heap.get? p = some o ∧ o.ExactDict := by
        rcases hk with ⟨kvs, hk⟩ | ⟨kvs, hk⟩
        · obtain ⟨_, _, _, _, o, _, _, e, ex, _⟩ := I.hok p _ hk
          exact ⟨o, e, ex⟩
        · obtain ⟨_, _, _, _, o, _, _, e, ex, _⟩ := I.hok p _ hk
          exact ⟨o, e, ex⟩
      obtain ⟨o, e, ex⟩ := z
      refine ⟨⟨o, e, ex.1⟩, fun a e2 => ?_⟩
      cases e2
      exact ⟨o, e, ex.2.1⟩
    · obtain ⟨o, _, _, _, e, ex, _⟩ := I.hok p _ hk
      refine ⟨⟨o, e, ex.1⟩, fun a e2 => ?_⟩
      cases e2
      exact ⟨o, e, ex.2.1⟩
  | _ => exact False.elim ty
def tBM0 (K : PySem.W.Frag) (T : String) (r : V → List V → Hp → VK → Prop) (to : TE) : TE := fun σ H Q => to σ H fun x H1 => tyV K T x H1 ∧ r x [] H1 Q
def tBM (K : PySem.W.Frag) (T : String) (r : V → List V → Hp → VK → Prop) (to : TE) (t : TA) : TE := fun σ H Q => to σ H fun x H1 => tyV K T x H1 ∧ t σ H1 fun xs H2 => r x xs H2 Q
variable {o e : Expr} {es : List Expr} {to : TE} {t : TA} {name : Str} {apos cpos : Pos} {T id : String} {r : V → List V → Hp → VK → Prop}
theorem pe_bm0 (pa : PlainAttrs T) (slot : Slot T name id) (hty : typeOf (.builtin id) = pure (.type "method_descriptor")) (hm : MtR X id r) (ho : PE X o to)
    (hbase : attributeBase o name X.env (eval o X.env) = eval o X.env := by rfl) (hline : (apos.endLine == cpos.line) = true := by rfl) : PE X (.Call (.Attribute o name apos) [] [] cpos) (tBM0 X.K T r to) := by
  intro pins s σ H Q I h
  refine wpAny_Call_method0_late hbase hline (thn (ho pins s σ H _ I h) fun v s1 ⟨x, H1, I1, r1, ty, q1⟩ => ?_)
  obtain ⟨h1, h2⟩ := tyV_is I1 r1 ty
  exact ⟨T, id, pa, slot, hty, h1, h2, Calls.callWith_builtin rfl (PySem.evalArgs_none (hm pins s1 σ H1 x [] v [] Q I1 r1 .nil q1))⟩
theorem pe_bm (pa : PlainAttrs T) (slot : Slot T name id) (hty : typeOf (.builtin id) = pure (.type "method_descriptor")) (hm : MtR X id r) (ho : PE X o to) (ha : PA X (e :: es) t)
    (hbase : attributeBase o name X.env (eval o X.env) = eval o X.env := by rfl)
    (hfew : ((backTo cpos (starEach (e :: es) X.env)).all (fun x => !x.1) && (backToKw cpos (keywordEach [] X.env)).all (fun x => x.1.isSome)
      && decide ((e :: es).length + ([] : List Keyword).length + (if ([] : List Keyword).isEmpty then 0 else 1) < 30)) = true := by rfl)
    (hline : (apos.endLine == cpos.line) = true := by rfl) (hs : starEach (e :: es) X.env = (false, eval e X.env) :: starEach es X.env := by rfl) (hplain : (backTo cpos (starEach es X.env)).any (·.1) = false := by rfl) :
    PE X (.Call (.Attribute o name apos) (e :: es) [] cpos) (tBM X.K T r to t) := by
  intro pins s σ H Q I h
  refine wpAny_Call_method_late hbase hfew hline rfl (thn (ho pins s σ H _ I h) fun v s1 ⟨x, H1, I1, r1, ty, q1⟩ => ?_)
  obtain ⟨h1, h2⟩ := tyV_is I1 r1 ty
  refine ⟨T, id, pa, slot, hty, h1, h2, ?_⟩
  have hA := ha cpos pins s1 σ H1 _ I1 q1
  rw [hs] at hA ⊢
  refine Calls.callWith_builtin (by show (false || (backTo cpos (starEach es X.env)).any (·.1)) = false; rw [hplain] <;> rfl) (Calls.evalArgs_plain ?_)
  exact thn hA fun us s2 ⟨vs, H2, I2, r2, q2⟩ => hm pins s2 σ H2 x vs v us Q I2 r1 r2 q2
/- xs.append(e), list.index on a module's tuple .. are MtR facts of 06m -/
end
end L2
namespace L2
open PySem PySem.Spec PyProof.Rows
def MtM (X : Cx) (id : String) (r : V → List V → Hp → VK → Prop) : Prop :=
  ∀ (pins : List (Addr × Obj)) (s : Shared) (σ : St) (H : Hp) (x : V) (xs : List V) (v : Value) (us : List Value) (Q : VK), Inv X pins σ H s → RelV x v → Vals xs us → r x xs H Q →
    wpAny (model X.prog X.w) X.A (call (.builtin id) (v :: us)) (EP X pins σ Q) X.xe s
theorem Vals.one : ∀ {x : V} {us : List Value}, Vals [x] us → ∃ u, us = [u] ∧ RelV x u
  | _, _, .cons r .nil => ⟨_, rfl, r⟩
theorem Vals.two : ∀ {x y : V} {us : List Value}, Vals [x, y] us → ∃ u v, us = [u, v] ∧ RelV x u ∧ RelV y v
  | _, _, _, .cons r (.cons q .nil) => ⟨_, _, rfl, r, q⟩
theorem Vals.zero : ∀ {us : List Value}, Vals [] us → us = []
  | _, .nil => rfl
theorem Vals.dropLast {xs : List V} {us : List Value} (h : Vals xs us) : Vals xs.dropLast us.dropLast := by
  induction h with
  | nil => exact .nil
  | cons r t ih =>
    cases t with
    | nil => exact .nil
    | cons q t' => exact .cons r ih
theorem Vals.eraseIdx : ∀ {xs : List V} {us : List Value} (i : Nat), Vals xs us → Vals (xs.eraseIdx i) (us.eraseIdx i)
  | _, _, _, .nil => .nil
  | _, _, 0, .cons _ t => t
  | _, _, i + 1, .cons r t => .cons r (Vals.eraseIdx i t)
theorem Vals.reverse {xs : List V} {us : List Value} (h : Vals xs us) : Vals xs.reverse us.reverse := by
  induction h with
  | nil => exact .nil
  | cons r t ih => rw [List.reverse_cons, List.reverse_cons]; exact Vals.append ih (.cons r .nil)
theorem erase_last {α : Type} (l : List α) : l.eraseIdx (l.length - 1) = l.dropLast := by
  induction l with
  | nil => rfl
  | cons a r ih =>
    cases r with
    | nil => rfl
    | cons b r =>
      have e : (a :: b :: r).length - 1 = ((b :: r).length - 1) + 1 := by
        have h1 : (a :: b :: r).length = r.length + 2 := rfl
        have h2 : (b :: r).length = r.length + 1 := rfl
        omega
      rw [e, List.eraseIdx_cons_succ, ih]
      all_goals rfl
section
variable {X : Cx} {pins : List (Addr × Obj)} {σ : St} {H : Hp} {s : Shared} {l b : Addr} {xs ys zs : List V}
theorem Inv.lset {its its' : List Value} {n : Nat} {f : Array Value → Array Value} {t' : Nat} (I : Inv X pins σ H s) (hH : H l = some (.lst xs))
    (e : s.heap.get? l = some { cls := .type "list", data := .seq its.toArray n }) (hf : f its.toArray = its'.toArray) (hv : Vals ys its') (hz : ys.length ≤ sizeLine) :
    Inv X pins σ (upd H l (.lst ys)) { s with heap := s.heap.update l (Obj.mapSeq f), toks := t' } := by
  have q := PySem.IsL.update e f
  rw [hf] at q
  refine I.write (x := l) (e := l) (by rw [hH]; exact trivial) (.inl rfl) (fun b' u hb hu => (Heap.get?_update_other s.heap (Obj.mapSeq f) (Ne.symm hb)).trans hu) ⟨_, q⟩ ?_
  exact ⟨hz, its', _, hv, q⟩
theorem Inv.lnew {its : List Value} {t' : Nat} (I : Inv X pins σ H s) (hv : Vals ys its) (hz : ys.length ≤ sizeLine) :
    Inv X pins σ (upd H s.heap.objs.size (.lst ys)) { s with heap := s.heap.push { cls := .type "list", data := .seq its.toArray }, toks := t' } :=
  I.laid (fun _ _ q => Heap.get?_push_of_some _ q) (Nat.le_refl _) ⟨hz, its, 0, hv, Heap.get?_push_size _ rfl⟩
theorem Inv.fresh (I : Inv X pins σ H s) : H s.heap.objs.size = none := I.hok.fresh (Nat.le_refl _)
theorem Inv.lstM (I : Inv X pins σ H s) (hH : H l = some (.lst xs)) : xs.length ≤ sizeLine ∧ ∃ (its : List Value) (n : Nat), Vals xs its ∧ xs.length = its.length ∧ s.heap.get? l = some { cls := .type "list", data := .seq its.toArray n } := by
  obtain ⟨z, its, n, r, e⟩ := I.hok l _ hH
  exact ⟨z, its, n, r, r.length, e⟩
theorem notLongL {n : Nat} (h : n ≤ sizeLine) : Builtin.List.listTooLong n = false := by
  unfold Builtin.List.listTooLong
  exact decide_eq_false (by omega)
end
section
variable {X : Cx}
def rAppend : V → List V → Hp → VK → Prop := fun x vs H Q => ∃ l xs y, x = .ref l ∧ vs = [y] ∧ H l = some (.lst xs) ∧ xs.length < sizeLine ∧ Q .non (upd H l (.lst (xs ++ [y])))
theorem mt_append : MtM X "list.append" rAppend := by
  intro pins s σ H x vs v us Q I rx rv h
  obtain ⟨l, xs, y, rfl, rfl, hH, hz, q⟩ := h
  cases rx
  obtain ⟨u, rfl, ru⟩ := rv.one
  obtain ⟨z, its, n, r, hl, e⟩ := I.lstM hH
  refine call_meets F.slot_list_append ⟨_, e, rfl⟩ F.entry_list_append (F.args_list_append_2 _ _) (PySem.list_append l its.toArray n u (by rw [List.size_toArray]; omega)) ⟨e, ?_⟩
  refine ⟨.non, _, I.lset (its' := its ++ [u]) hH e (by simp) (r.append (.cons ru .nil)) ?_, rfl, q⟩
  rw [List.length_append, List.length_singleton]
  omega
def rExtend : V → List V → Hp → VK → Prop := fun x vs H Q => ∃ l b xs zs, x = .ref l ∧ vs = [.ref b] ∧ H l = some (.lst xs) ∧ H b = some (.lst zs) ∧ xs.length + zs.length ≤ sizeLine ∧ Q .non (upd H l (.lst (xs ++ zs)))
def rPop : V → List V → Hp → VK → Prop := fun x vs H Q => ∃ l xs y, x = .ref l ∧ vs = [] ∧ H l = some (.lst xs) ∧ xs[xs.length - 1]? = some y ∧ Q y (upd H l (.lst xs.dropLast))
theorem mt_pop : MtM X "list.pop" rPop := by
  intro pins s σ H x vs v us Q I rx rv h
  obtain ⟨l, xs, y, rfl, rfl, hH, hy, q⟩ := h
  cases rx
  have hus := rv.zero
  subst hus
  obtain ⟨z, its, n, r, hl, e⟩ := I.lstM hH
  obtain ⟨u, hu, ru⟩ := r.get hy
  have hy' : its.toArray[its.toArray.size - 1]? = some u := by
    show its.toArray[its.length - 1]? = some u
    rw [← Array.getElem?_toList, ← hl]
    exact hu
  refine call_meets F.slot_list_pop ⟨_, e, rfl⟩ F.entry_list_pop (F.args_list_pop_1 _) (MeetsSeq.list_pop_last l its.toArray n u hy' (by rw [List.size_toArray]; omega)) ⟨e, ?_⟩
  refine ⟨y, _, I.lset (its' := its.dropLast) hH e ?_ r.dropLast ?_, ru, q⟩
  · show its.toArray.eraseIdxIfInBounds (its.toArray.size - 1) = its.dropLast.toArray
    rw [List.size_toArray, List.eraseIdxIfInBounds_toArray, erase_last]
  · rw [List.length_dropLast]
    omega
def rPopAt : V → List V → Hp → VK → Prop := fun x vs H Q => ∃ l xs i k y, x = .ref l ∧ vs = [.int i] ∧ H l = some (.lst xs) ∧ -(2 ^ 63) ≤ i ∧ i < 2 ^ 63 ∧ seqIndex? i xs.length = some k ∧ xs[k]? = some y ∧ Q y (upd H l (.lst (xs.eraseIdx k)))
def rReverse : V → List V → Hp → VK → Prop := fun x vs H Q => ∃ l xs, x = .ref l ∧ vs = [] ∧ H l = some (.lst xs) ∧ Q .non (upd H l (.lst xs.reverse))
def rClear : V → List V → Hp → VK → Prop := fun x vs H Q => ∃ l xs, x = .ref l ∧ vs = [] ∧ H l = some (.lst xs) ∧ Q .non (upd H l (.lst []))
def rCat : R2 := fun x y H Q => ∃ l b xs zs, x = .ref l ∧ y = .ref b ∧ H l = some (.lst xs) ∧ H b = some (.lst zs) ∧ xs.length + zs.length ≤ sizeLine ∧ ∀ p, H p = none → Q (.ref p) (upd H p (.lst (xs ++ zs)))
def rRep : R2 := fun x y H Q => ∃ l k xs, x = .ref l ∧ y = .int k ∧ H l = some (.lst xs) ∧ -(2 ^ 63) ≤ k ∧ k < 2 ^ 63 ∧ xs.length * k.toNat ≤ sizeLine ∧
  ∀ p, H p = none → Q (.ref p) (upd H p (.lst (List.replicate k.toNat xs).flatten))
end
section
variable {prog : Program} {w : World} {A : Around} {E : Value → Shared → Prop} {s : Shared}
theorem bounds_run {a c n : Nat} (hac : a ≤ c) (hc : c ≤ n) : sliceBounds (some (a : Int)) (some (c : Int)) none n = ((a : Int), (c : Int), 1) := by
  simp only [sliceBounds, Option.getD_none]
  have h1 : ¬ ((a : Int) < 0) := by omega
  have h2 : ¬ ((c : Int) < 0) := by omega
  simp only [h1, h2, if_false, show (1 : Int) > 0 by decide, if_true]
  congr 1
  · omega
  · congr 1; omega
set_option maxRecDepth 100000 in
theorem setItem_slice {l b sl : Addr} {items new : Array Value} {n n2 : Nat} {vl vu : Value} {a c : Nat} {Q : Unit → Shared → Prop}
    (e : s.heap.get? l = some { cls := .type "list", data := .seq items n }) (e2 : s.heap.get? b = some { cls := .type "list", data := .seq new n2 }) (hne : l ≠ b)
    (hs : s.heap.IsSliceOf sl vl vu .none) (pl : IsPart vl (some (a : Int))) (pu : IsPart vu (some (c : Int))) (hac : a ≤ c) (hc : c ≤ items.size)
    (hsz : items.size + new.size ≤ sizeLine) (h : Q () { s with heap := s.heap.update l (Obj.mapSeq fun xs => xs.extract 0 a ++ new ++ xs.extract c xs.size) }) :
    wpAny (model prog w) A (setItem (.ref l) (.ref sl) (.ref b)) Q E s := by
  have hl : s.heap.IsList l items := PySem.IsL.isList e
  have hb : s.heap.IsList b new := PySem.IsL.isList e2
  obtain ⟨os, hos, hcs, hds⟩ := id hs
  have hTs : s.TypeIs (.ref sl) "slice" := ⟨os, hos, hcs⟩
  have hstep : ¬ ((rawPart none == rawInt 0) = true) := Bool.false_ne_true
  have hsame : Builtin.List.listSameRef (.ref l) (.ref b) = false := by
    unfold Builtin.List.listSameRef
    exact beq_eq_false_iff_ne.mpr hne
  have hmax : (max (a : Int) (c : Int)).toNat = c := by omega
  have hz' : ((fun xs : Array Value => xs.extract 0 a ++ new ++ xs.extract c xs.size) items).size ≤ sizeLine + 1 := by
    simp only [Array.size_append, Array.size_extract]
    omega
  unfold setItem
  try with_reducible refine wpAny_holding ?_
  first | refine wpAny_bind (wpAny_pure ?_) | skip
  refine wpAny_bind (wpAny_sequenceKey hl.typeIs (by decide) ?_)
  refine wpAny_bind (wpAny_callSpecial?_slot (name := Str.ofString "__setitem__") hl.typeIs slot_list_setitem
    (wpAny_call_entry slot_list_setitem hl.typeIs entry_list_setitem ?_ (args_list_setitem _ _ _)))
  show wpAny _ _ (Builtin.List.listSubscript? (.ref sl) >>= _) _ _ s
  refine wpAny_bind ?_
  unfold Builtin.List.listSubscript?
  refine wpAny_bind (wpAny_specialOf hTs slice_no_index ?_)
  simp only [Option.isNone_none, if_true]
  refine wpAny_pure ?_
  show wpAny _ _ (typeOf (.ref sl) >>= _) _ _ s
  refine wpAny_bind (wpAny_typeOf hTs ?_)
  first
    | rw [if_neg (by decide)]
    | refine PySem.W.KFB.if_not (by decide) ?_
  rw [listSliceParts_eq]
  refine wpAny_bind (wpAny_bind (wpAny_field hos hds (x := .none) rfl (wpAny_bind (wpAny_listPart .none ?_))))
  rw [if_neg hstep]
  refine wpAny_bind (wpAny_field hos hds (x := vl) rfl (wpAny_bind (wpAny_listPart pl ?_)))
  refine wpAny_bind (wpAny_field hos hds (x := vu) rfl (wpAny_bind (wpAny_listPart pu (wpAny_pure ?_))))
  first
    | simp only [hsame, Bool.false_eq_true, if_false]
    | refine PySem.W.KFB.if_not hsame ?_
    | (dsimp only
       rw [if_neg (by rw [hsame]; exact Bool.false_ne_true)])
  refine wpAny_bind (m := Builtin.List.listAllItems (.ref b) "must assign iterable to extended slice") ?_
  unfold Builtin.List.listAllItems
  refine wpAny_bind (wpAny_typeOf hb.typeIs ?_)
  first
    | refine PySem.W.KFB.if_so (by decide) ?_
    | rw [if_pos (by decide)]
    | simp only [beq_self_eq_true, Bool.true_or, if_true]
  unfold Builtin.List.listItems
  refine wpAny_bind (wpAny_seqItems e2 rfl (wpAny_pure ?_))
  refine wpAny_bind (wpAny_bind (wpAny_seqItems e rfl (wpAny_pure ?_)))
  refine wpAny_bind (wpAny_of_eq ((sliceIndices_raw (some (a : Int)) (some (c : Int)) none items.size (by simp)).trans (congrArg (pure : Int × Int × Int → Sem (Int × Int × Int)) (bounds_run hac hc))) ?_)
  show wpAny _ _ (if ((1 : Int) == 1) = true then _ else _) _ _ s
  rw [if_pos (by decide)]
  refine wpAny_bind (wpAny_rule ?_)
  first
    | simp only [notLongL hsz, Bool.false_eq_true, if_false]
    | refine PySem.W.KFB.if_not (notLongL hsz) ?_
  first | refine wpAny_bind (wpAny_pure ?_) | skip
  show wpAny _ _ (updateSeq l (fun xs => xs.extract 0 ((a : Int)).toNat ++ new ++ xs.extract (max (a : Int) (c : Int)).toNat xs.size) >>= _) _ _ s
  rw [hmax, Int.toNat_natCast]
  refine wpAny_bind (wpAny_updateSeq (hz := Nat.le_trans (Nat.le_add_right _ _) hsz) (_hz' := hz') e rfl ?_)
  refine wpAny_bind (wpAny_letGo ?_)
  first
    | exact wpAny_bind (wpAny_pure (wpAny_pure ⟨.none, rfl, wpAny_pure h⟩))
    | exact wpAny_pure ⟨.none, rfl, wpAny_pure h⟩
end
section
variable {X : Cx}
end
end L2
namespace Att
open PySem PySem.W PySem.Calls PyProof.Rows
theorem ints_of_wellAll {P : Params} {h : Heap} : ∀ (ns : List Int) (vs : List Value), WellAll P h vs (ns.map WData.int) → IntsAre vs ns := by
  intro ns
  induction ns with
  | nil =>
    intro vs w
    rw [List.map_nil] at w
    cases w
    exact .nil
  | cons n ns ih =>
    intro vs w
    rw [List.map_cons] at w
    cases w with
    | cons a b =>
      cases a
      exact .cons _ _ (ih _ b)
theorem script_of {l : OpenLaw} {n : Nat} (hn : l.most = some n) {P : Params} {h : Heap} {args : List WData} {vals : List Value}
    (hpre : l.row.toRowW.claim.pre args = true) (hwl : WellAll P h vals args) :
    ∃ a vs ns, vals = [Value.ref a] ∧ args = [WData.list (ns.map WData.int)] ∧ h.get? a = some { cls := .type "list", data := .seq vs.toArray } ∧ IntsAre vs ns ∧ ns.length ≤ n := by
  have hsh : WShape.hasAll [] args [.list .int] = true := (pre_splitW hpre).1
  have hc : l.pre.holds [] { args := args } = true := (pre_splitW hpre).2
  obtain ⟨d, r, rfl, h1, h2⟩ := hasAllW_cons hsh
  obtain rfl := hasAllW_nil h2
  obtain ⟨xs, rfl, h3⟩ := hasW_list h1
  obtain ⟨ns, rfl⟩ := items_int h3
  have hlen : ns.length ≤ n := by
    unfold OpenLaw.pre at hc
    have h4 : (WTm.not (.lt (.lit (.int (n : Int))) (.len (.arg 0)))).holds [] { args := [.list (ns.map .int)] } = true := by
      have h4 := (holds_andW hc).1
      rw [hn] at h4
      exact h4
    have h5 := condW_of h4 (w_not (w_lt w_lit (w_len_list (w_arg rfl))))
    rw [List.length_map] at h5
    refine Nat.le_of_not_lt fun q => ?_
    have q' : (n : Int) < ((ns.length : Nat) : Int) := by omega
    first
      | (rw [decide_eq_true q'] at h5; exact absurd h5 (by decide))
      | (simp at h5; omega)
  cases hwl with
  | cons w1 w2 =>
    cases w2
    cases w1 with
    | list ho hall => exact ⟨_, _, ns, rfl, rfl, ho, ints_of_wellAll ns _ hall, hlen⟩
theorem post_true (l : OpenLaw) (args : List WData) : l.row.toRowW.claim.post args (.bool true) args = true :=
  postW_of (r := l.row.toRowW) (X := (true == true))
    (show WShape.has [] (.bool true) .bool = true by first | rfl | decide | simp [WShape.has, WShape.arms, WShape.armsAll])
    (show (WTm.eq .res (.lit (.bool true))).value [] { args := args, res := some (.bool true), after := args } = some (.bool (true == true)) from w_eq_bool (w_res rfl) w_lit) rfl
theorem attach_call {l : OpenLaw} {n : Nat} {q : Program} {loose : List Str} {XP : (Str → Option Value) → Heap → Prop} {YP : World → Heap → Prop} {d : DefRec}
    (hn : l.most = some n) (hdf : d.params.defaults = [])
    (call : ∀ (w : World) (s₀ s₁ : Shared) (mg mb : Str → Option Value) (fa : Addr) (o : Obj) (pm cd doc : Value) (a : Addr) (vs : List Value) (ns : List Int),
      Ground q loose [] XP w s₀ mg mb s₁.heap → YP w s₁.heap →
      s₁.heap.get? fa = some o → o.data = .func (docDef d.name d.params d.body d.scope pm cd doc) → s₁.heap.CodeRec cd d.name → mg d.name = some (.ref fa) →
      s₁.heap.get? a = some { cls := .type "list", data := .seq vs.toArray } → IntsAre vs ns → ns.length ≤ n → s₁.gens = #[] →
      codeAny (model l.prog w) callerA (.call (.ref fa) ⟨[.ref a], []⟩) (fun r s' => r = .ok (.ret (.bool true)) ∧ OldK s₁.heap s'.heap ∧ s'.os = s₁.os ∧ AllBare s'.gens) s₁) :
    WalkO q loose XP YP l.row.toRowW d [] (fun f vs => PySem.call f vs) := by
  intro w s₀ s₁ mg mb G Y fa o pm cd doc dV kV ho hd hcd hD hmg hg args vals as hpre hlay hrd hwl hlo
  obtain rfl : dV = .none := Dflts.none hD hdf
  obtain rfl : kV = .none := Dflts.noKw hD
  obtain ⟨a, vs, ns, rfl, rfl, hobj, hints, hlen⟩ := script_of hn hpre hwl
  refine enter_call (codeAny_mono (call w s₀ s₁ mg mb fa o pm cd doc a vs ns G Y ho (fd_plain hd) hcd hmg hobj hints hlen hg) fun r s' hq => ?_)
  obtain ⟨rfl, h2, h3, h4⟩ := hq
  exact ⟨.inl ⟨.bool true, .bool true, [], rfl, fun _ => rfl, .bool true, post_true l _, fun _ => ⟨List.Pairwise.nil, fun _ hm => (nomatch hm)⟩⟩, h2, h3, h4⟩
section
variable {prog : Program} {w : World} {A : Around} {E : Value → Shared → Prop} {s : Shared} {K : Frag}
def noObjs (h : Heap) : Heap := { h with objs := #[] }
def ledger (h : Heap) (L d : Addr) : List (Addr × Obj) := (List.range h.objs.size).filterMap fun a => if a = L ∨ a = d then none else (h.get? a).map fun o => (a, o)
end
end Att
namespace L2
open PySem PySem.Spec PyProof.Rows
theorem vals_ints : ∀ {vs : List Value} {ns : List Int}, IntsAre vs ns → Vals (ns.map V.int) vs
  | _, _, .nil => .nil
  | _, _, .cons n t h => .cons ⟨t, rfl⟩ (vals_ints h)
def Only (H : Hp) : Prop := ∀ b, H b = none ∨ ∃ o xs, H b = some (.frz o (.lst xs))
theorem law_call {P : Program} {w : World} {K : PySem.W.Frag} {mg mb : Str → Option Value} {CX : CXT} {k : Nat} {fa a : Addr} {fd : FuncData} {x : Str} {sp : Sp} {s₁ : Shared} {vs : List Value} {ns : List Int}
    (KX : K.In s₁.heap) (hns : s₁.heap.Ns mainGlobals mg) (hb : s₁.heap.Ns builtinsNs mb) (hbb : ∀ x : Str, x ≠ "__name__" → mb x = bootBuiltins x) (hlim : s₁.heap.NoLimit) (hg : s₁.gens = #[])
    (ha : s₁.heap.get? a = some { cls := .type "list", data := .seq vs.toArray }) (hi : IntsAre vs ns) (hl : ns.length ≤ sizeLine) (hr : Room k callerA)
    (F : ∀ base : Heap, K.In base → base.Ns mainGlobals mg → FnOk P w K mg base CX k fa fd [x] sp) (hbind : ∀ (s : Shared) (u : Value), BindsTo s fd ⟨[u], []⟩ [(x, u)])
    (hsp : ∀ H : Hp, Only H → SqL K H a (ns.map V.int) → sp [.ref a] H (fun v _ => v = .bl true) fun _ _ _ => False)
    (hCX : ∀ H e s', CX [] H s₁ (fun _ _ _ => False) e s' → False) :
    codeAny (model P w) callerA (.call (.ref fa) ⟨[.ref a], []⟩) (fun r s' => r = .ok (.ret (.bool true)) ∧ OldK s₁.heap s'.heap ∧ s'.os = s₁.os ∧ AllBare s'.gens) s₁ := by
  have rv := vals_ints hi
  have lenV := hi.length
  -- from an abstract heap in which nothing but the script may be tracked
  have core : ∀ H : Hp, Only H → SqL K H a (ns.map V.int) → HOk P w H s₁.heap → (∀ b, H b ≠ none → b = a) → (H a ≠ none → K.lookup a = none) →
      codeAny (model P w) callerA (.call (.ref fa) ⟨[.ref a], []⟩) (fun r s' => r = .ok (.ret (.bool true)) ∧ OldK s₁.heap s'.heap ∧ s'.os = s₁.os ∧ AllBare s'.gens) s₁ := by
    intro H hO hS hok hA hK
    have base_of : ∀ {b : Addr} {o : Obj}, s₁.heap.get? b = some o → H b = none → (hidT s₁.heap H).get? b = some o := fun e n => hidT_get e n
    have noA : ∀ {b : Addr} {o : Obj} {es : Array DictEntry} {ep : Nat}, s₁.heap.get? b = some o → o.data = .dict es ep → H b = none := fun {b o es ep} e d => by
      cases q : H b with
      | none => rfl
      | some u =>
        have e' : b = a := hA b (by rw [q]; simp)
        subst e'
        rw [ha] at e; cases e
        have d' : Data.seq vs.toArray _ = Data.dict es ep := d
        cases d'
    have nsK : ∀ {b : Addr} {m : Str → Option Value}, s₁.heap.Ns b m → (hidT s₁.heap H).Ns b m := fun {b m} ⟨o, es, ep, e, d, r⟩ => ⟨o, es, ep, base_of e (noA e d), d, r⟩
    have hKb : K.In (hidT s₁.heap H) := fun b o e => base_of (KX b o e) (by
      cases q : H b with
      | none => rfl
      | some u =>
        have e' : b = a := hA b (by rw [q]; simp)
        subst e'
        rw [hK (by rw [q]; simp)] at e; cases e)
    have hM : Mod K mg (hidT s₁.heap H) := ⟨hKb, nsK hns, ⟨mb, nsK hb, hbb⟩, let ⟨mc, h1, h2⟩ := hlim; ⟨mc, nsK h1, h2⟩⟩
    have e0 : Env0 P w K mg (hidT s₁.heap H) callerA [] s₁ H := ⟨rfl, hM, fun b o e => of_hidT e, Nat.le_of_eq (hidT_size _ _), trivial, fun b hb => absurd (show b ∈ ([] : List Addr) from hb) (by simp), hok, .of_eq hg⟩
    refine codeAny_mono ((F _ hKb (nsK hns)).run callerA [] s₁ H ⟨[.ref a], []⟩ [.ref a] [.ref a] _ _ hr e0 (hbind s₁ (.ref a)) (.cons rfl .nil) (hsp H hO hS)) fun r s' h => ?_
    cases r with
    | error e => exact (hCX H e s' h).elim
    | ok fl =>
      cases fl with
      | next => exact False.elim h
      | brk => exact False.elim h
      | cont => exact False.elim h
      | ret u =>
        obtain ⟨v, H', os, bare, un, hok', r', q⟩ := h
        have q' : v = .bl true := q
        subst q'
        obtain rfl : u = Value.bool true := r'
        refine ⟨rfl, OldK.of_keep fun b o e => ?_, os, bare⟩
        cases q : H b with
        | none => exact un.keep b o e q (by intro z; exact absurd (show b ∈ ([] : List Addr) from z) (by simp)) (by simp)
        | some u =>
          rcases hO b with z | ⟨ob, xs, z⟩
          · rw [q] at z; cases z
          · have z2 := un.frzs b ob _ z
            obtain ⟨e1, _⟩ := hok b _ z
            obtain ⟨e2, _⟩ := hok' b _ z2
            rw [e] at e1; cases e1
            exact e2
  cases hk : K.lookup a with
  | some o =>
    -- the script is one of the module's own objects
    have e := KX a o hk
    rw [ha] at e
    cases e
    refine core (fun _ => none) (fun _ => .inl rfl) (.inr ⟨_, vs.toArray, _, hk, rfl, rfl, rfl, by rw [List.size_toArray, lenV]; exact hl, by simpa using rv⟩) (fun b u z => by have z' : (none : Option HO) = some u := z; cases z') (fun b z => absurd rfl z) fun z => absurd rfl z
  | none =>
    refine core (fun b => if b = a then some (.frz { cls := .type "list", data := .seq vs.toArray } (.lst (ns.map V.int))) else none) (fun b => ?_) (.inl (.inr ⟨{ cls := .type "list", data := .seq vs.toArray }, if_pos rfl⟩)) (fun b u z => ?_) (fun b z => ?_) fun _ => hk
    · by_cases hb : b = a
      · exact .inr ⟨_, _, if_pos hb⟩
      · exact .inl (if_neg hb)
    · by_cases hb : b = a
      · have z' := (if_pos hb).symm.trans z
        cases z'
        subst hb
        exact ⟨ha, by rw [List.length_map]; exact hl, vs, _, rv, ha⟩
      · have z' := (if_neg hb).symm.trans z
        cases z'
    · by_cases hb : b = a
      · exact hb
      · exact absurd (if_neg hb) z
end L2
namespace L2
open PySem PySem.Spec PyProof.Rows
abbrev KOf {K : PySem.W.Frag} {h : Heap} (_ : K.In h) : PySem.W.Frag := K
theorem walk_of {l : PySem.W.OpenLaw} {n k : Nat} {q : Program} {loose : List Str} {XP : (Str → Option Value) → Heap → Prop} {YP : World → Heap → Prop} {d : DefRec} {K : Params → PySem.W.Frag} {CX : World → CXT} {sp : World → Sp} {x : Str}
    (hn : l.most = some n) (hn2 : n ≤ sizeLine) (hdf : d.params.defaults = []) (hr : Room k callerA)
    (hY : ∀ (w : World) (h : Heap), YP w h → (K w.params).In h)
    (F : ∀ (w : World) (mg : Str → Option Value) (fa : Addr) (h : Heap), (K w.params).In h → h.Ns mainGlobals mg → mg d.name = some (.ref fa) →
      ∃ fd : FuncData, (∀ (s : Shared) (u : Value), BindsTo s fd ⟨[u], []⟩ [(x, u)]) ∧
        ∀ base : Heap, (K w.params).In base → base.Ns mainGlobals mg → FnOk l.prog w (K w.params) mg base (CX w) k fa fd [x] (sp w))
    (hsp : ∀ (w : World) (H : Hp) (a : Addr) (ns : List Int), ns.length ≤ n → Only H → SqL (K w.params) H a (ns.map V.int) → sp w [.ref a] H (fun v _ => v = .bl true) fun _ _ _ => False)
    (hCX : ∀ (w : World) (H : Hp) (s : Shared) (e : Value) (s' : Shared), CX w [] H s (fun _ _ _ => False) e s' → False) :
    PySem.W.WalkO q loose XP YP l.row.toRowW d [] (fun f vs => PySem.call f vs) := by
  refine Att.attach_call hn hdf fun w s₀ s₁ mg mb fa o pm cd doc a vs ns G Y ho hd hcd hmg hobj hints hlen hg => ?_
  have KX := hY w _ Y
  obtain ⟨fd, hb, hF⟩ := F w mg fa _ KX G.T.g hmg
  exact law_call KX G.T.g G.T.b G.T.builtins G.T.nolimit hg hobj hints (Nat.le_trans hlen hn2) hr hF hb (fun H hO hS => hsp w H a ns hlen hO hS) fun H e s' => hCX w H s₁ e s'
end L2
/- THE LAST THEOREM (shape; LID, My.* are yours):
   My.Adr: a structure of the addresses that your layer names (classes, functions); My.Txt K t: a structure (Prop) of the equations over K;
   My.txt_mk : {K} {implicit addresses ..} (e1 : nsIn K mainGlobals "law" = some (some (.ref f))) (e2 : K.lookup f = some ⟨oc, od, .func (fnOf "law" "law" params body scope dV kV doc pm an cdv ct), sl⟩) (e3 : codeIn K cdv "law" = true) .. : ∃ t, My.Txt K t
set_option maxRecDepth 100000 in
set_option maxHeartbeats 0 in
theorem PySem.Challenge.cw_LID_holds : PySem.Challenge.rw_LID.Holds := by
  w_on; o_law; k_head; (case hw => w_witness2)
  k_fill
  refine L2.walk_of (l := PySem.Challenge.rw_LID) (n := 63) (k := 40) (x := "script") (CX := fun w => ..) (sp := fun _ => My.sp_law) rfl (by decide) rfl ⟨rfl, by decide, by decide⟩ (fun w h Y => PySem.W.kIn_of Y) ?F ?S ?C
  case F =>
    intro w mg fa h KX G hmg
    have T : ∃ t, My.Txt (L2.KOf KX) t := by
      dsimp only [L2.KOf]                          -- K must stand as «<heap const> w.params» for k_is
      refine' My.txt_mk ?e1 ?e2 ?e3 ..
      (case e1 => PySem.W.k_is)                    -- in the order: a name -> its address -> its object -> its parts
      (case e2 => PySem.W.k_is)
      ..
    obtain ⟨t, T⟩ := T
    have e0 := hmg.symm.trans (PySem.W.mg_of KX G T.law)
    cases e0                                       -- fa is the law's own address
    exact ⟨_, fun s u => .of_eq rfl, fun base kb nb => My.law_fn T kb nb⟩     -- if «.of_eq rfl» comes too early: refine' ⟨_, ?b, fun base kb nb => My.law_fn T kb nb⟩; exact fun s u => .of_eq rfl
  case S => exact fun w H a ns hl hO hS => ..
  case C => exact ..
(the tactic k_is has no namespace: write k_is) -/
namespace L2
open PySem PySem.Spec PyProof.Rows
def inClass (s : Stmt) (j : Nat) : Stmt := match s with
  | .ClassDef _ _ _ body _ _ _ _ _ _ _ => body.getD j (.Pass ⟨0, 0, 0, 0⟩)
  | _ => .Pass ⟨0, 0, 0, 0⟩
def defArgs (s : Stmt) : Arguments := match s with
  | .FunctionDef _ a _ _ _ _ _ _ _ _ => a
  | _ => { posonlyargs := [], args := [], vararg := none, kwonlyargs := [], kw_defaults := [], kwarg := none, defaults := [] }
def defBody (s : Stmt) : List Stmt := match s with
  | .FunctionDef _ _ b _ _ _ _ _ _ _ => b
  | _ => []
def defScope (s : Stmt) : Scope := match s with
  | .FunctionDef _ _ _ _ _ _ sc _ _ _ => sc
  | _ => { kind := .function, names := [], isGenerator := false, isCoroutine := false }
abbrev CX0 : CXT := fun _ _ _ _ _ _ => False
abbrev E0 : XK := fun _ _ _ => False
theorem pass0 {X : Cx} : Passes CX0 X E0 := fun _ _ _ _ _ _ _ h => h.elim
structure Fun (K : PySem.W.Frag) (x qual : Str) (st : Stmt) (f : Addr) (fd : FuncData) : Prop where
  ex : ∃ (oc : Value) (od : Option Addr) (kV doc pm : Value) (an : Option Addr) (cdv ct : Value) (osl : Array (Option Value)),
    fd = PySem.W.fnOf x qual (defArgs st) (defBody st) (defScope st) .none kV doc pm an cdv ct ∧ K.lookup f = some ⟨oc, od, .func fd, osl⟩ ∧ PySem.W.codeIn K cdv qual = true
  kp : PySem.W.keepIn K (.ref f) = true
section
variable {P : Program} {w : World} {K : PySem.W.Frag} {mg : Str → Option Value} {base : Heap}
theorem Fun.ok {x qual : Str} {st : Stmt} {f : Addr} {fd : FuncData} {N ps : List Str} {k : Nat} {sp : Sp} (F : Fun K x qual st f fd) (S : FnScope N ps (defScope st)) (len : ∀ vs H Q E, sp vs H Q E → vs.length = ps.length)
    (hbody : ∀ (cdv : Value) (A : Around) (outer : List Env) (s : Shared) (H : Hp) (vs : List V) (Q : VK) (E : XK), Room k (A.deeper (envOfC qual (defScope st) s.heap.objs.size f cdv)) → sp vs H Q E →
      ∃ t, PSs (cxOf CX0 P w K mg base N qual (defScope st) f cdv A outer s H E).nox (defBody st) t ∧ t { nx := fun _ H' => Q .non H', rt := Q } (start N vs) H) : FnOk P w K mg base CX0 (k + 1) f fd ps sp := by
  obtain ⟨oc, od, kV, doc, pm, an, cdv, ct, osl, rfl, lk, hcd⟩ := F.ex
  refine fn_of lk hcd S len fun A outer s H vs Q E hr hsp => ?_
  obtain ⟨t, h, q⟩ := hbody cdv A outer s H vs Q E hr hsp
  exact ⟨t, h.nox, q⟩
theorem Fun.binds {x qual : Str} {st : Stmt} {f : Addr} {fd : FuncData} {ps : List Str} (F : Fun K x qual st f fd)
    (h : ∀ (kV doc pm : Value) (an : Option Addr) (cdv ct : Value) (us : List Value), us.length = ps.length → bindArgs (PySem.W.fnOf x qual (defArgs st) (defBody st) (defScope st) .none kV doc pm an cdv ct) ⟨us, []⟩ = pure (ps.zip us)) : Binds K fd ps [] := by
  obtain ⟨oc, od, kV, doc, pm, an, cdv, ct, osl, rfl, lk, hcd⟩ := F.ex
  exact .all (h kV doc pm an cdv ct)
theorem fun_mk {x qual : Str} {st : Stmt} {f : Addr} {oc : Value} {od an : Option Addr} {osl : Array (Option Value)} {kV doc pm cdv ct : Value} (l : K.lookup f = some ⟨oc, od, .func (PySem.W.fnOf x qual (defArgs st) (defBody st) (defScope st) .none kV doc pm an cdv ct), osl⟩)
    (c : PySem.W.codeIn K cdv qual = true) (k : PySem.W.keepIn K (.ref f) = true) : Fun K x qual st f (PySem.W.fnOf x qual (defArgs st) (defBody st) (defScope st) .none kV doc pm an cdv ct) := ⟨⟨oc, od, kV, doc, pm, an, cdv, ct, osl, rfl, l, c⟩, k⟩
end
theorem hu_of {A : Around} {k : Nat} (hr : Room k A) : A.units + 1 < cLine := Nat.lt_of_le_of_lt (Nat.add_le_add_left (by decide : 1 ≤ 64) _) hr.units
theorem small1000 {n : Nat} (h : n ≤ 1000) : n < sizeLine := Nat.lt_of_le_of_lt h (by decide)
section
variable {X : Cx}
theorem pv (i : Nat) {x : Str} {pos : Pos} (hN : X.N[i]? = some x := by rfl) (hv : Vis X.env.scope x := by first | exact Or.inl rfl | exact Or.inr (Or.inl rfl) | exact Or.inr (Or.inr rfl)) (hd : (x == ("__debug__" : Str)) = false := by decide)
    (hcd : (x == ("__classdict__" : Str)) = false := by decide) : PE X (.Name x pos) (tVar i) := pe_var hN hv hd hcd
end
theorem iteF {A B : Prop} (h : B) : if false = true then A else B := by
  rw [if_neg Bool.false_ne_true]
  exact h
theorem iteT {A B : Prop} (h : A) : if true = true then A else B := by
  rw [if_pos rfl]
  exact h
theorem ite2 {c A B : Prop} [Decidable c] (h1 : c → A) (h2 : ¬ c → B) : if c then A else B := by
  by_cases h : c
  · rw [if_pos h]
    exact h1 h
  · rw [if_neg h]
    exact h2 h
def Same (H H' : Hp) : Prop := ∀ b o, H b = some o → H' b = some o
theorem Same.refl (H : Hp) : Same H H := fun _ _ h => h
theorem Same.trans {H H1 H2 : Hp} (a : Same H H1) (b : Same H1 H2) : Same H H2 := fun c o h => b c o (a c o h)
theorem Same.free {H H' : Hp} (e : Same H H') {l : Addr} (h : H' l = Option.none) : H l = Option.none := by
  cases q : H l with
  | none => rfl
  | some o =>
    rw [e l o q] at h
    cases h
theorem Same.seq {K : PySem.W.Frag} {H H' : Hp} {a : Addr} {xs : List V} (e : Same H H') (h : SqL K H a xs) : SqL K H' a xs := by
  rcases h with (h | ⟨o, h⟩) | h
  · exact .inl (.inl (e _ _ h))
  · exact .inl (.inr ⟨o, e _ _ h⟩)
  · exact .inr h
end L2
namespace L2
open PySem PySem.Spec PyProof.Rows
section
variable {κ : Type} [DecidableEq κ]
def valV (kvs : List (κ × V)) (k : κ) : Option V := (kvs.find? fun kv => decide (kv.1 = k)).map (·.2)
def putK (kvs : List (κ × V)) (k : κ) (v : V) : List (κ × V) :=
  if (kvs.any fun kv => decide (kv.1 = k)) = true then kvs.map (fun kv => if kv.1 = k then (kv.1, v) else kv) else kvs ++ [(k, v)]
def dropK (kvs : List (κ × V)) (k : κ) : List (κ × V) := kvs.filter fun kv => decide (kv.1 ≠ k)
theorem valV_pos {p : κ × V} {r : List (κ × V)} {k : κ} (e : p.1 = k) : valV (p :: r) k = some p.2 := by simp [valV, List.find?_cons, e]
theorem valV_neg {p : κ × V} {r : List (κ × V)} {k : κ} (e : ¬ p.1 = k) : valV (p :: r) k = valV r k := by simp [valV, List.find?_cons, e]
theorem valV_any (k : κ) : ∀ kvs : List (κ × V), (kvs.any fun kv => decide (kv.1 = k)) = (valV kvs k).isSome
  | [] => rfl
  | p :: r => by
    rw [List.any_cons]
    by_cases e : p.1 = k
    · simp only [valV_pos e, decide_eq_true e, Bool.true_or, Option.isSome_some]
    · rw [valV_neg e, decide_eq_false e, Bool.false_or]; exact valV_any k r
theorem length_putK (kvs : List (κ × V)) (k : κ) (v : V) : (putK kvs k v).length ≤ kvs.length + 1 := by
  unfold putK
  split
  · rw [List.length_map]; omega
  · rw [List.length_append, List.length_cons, List.length_nil]; omega
theorem putK_new {kvs : List (κ × V)} {k : κ} (v : V) (h : valV kvs k = none) : putK kvs k v = kvs ++ [(k, v)] := by
  unfold putK
  rw [valV_any, h]
  exact if_neg (by decide)
theorem RelO.isSome_eq {o : Option V} {u : Option Value} (r : RelO o u) : o.isSome = u.isSome := by
  cases o with
  | none => cases u with
    | none => rfl
    | some _ => exact (show False from r).elim
  | some _ => cases u with
    | none => exact (show False from r).elim
    | some _ => rfl
theorem RelO.getD {o : Option V} {u : Option Value} {d : V} {d' : Value} (r : RelO o u) (rd : RelV d d') : RelV (o.getD d) (u.getD d') := by
  cases o with
  | none => cases u with
    | none => exact rd
    | some _ => exact (show False from r).elim
  | some _ => cases u with
    | none => exact (show False from r).elim
    | some _ => exact r
theorem KV.val {kvs : List (κ × V)} {vs : List (κ × Value)} (r : KV kvs vs) (k : κ) : RelO (valV kvs k) (valueAt vs k) := by
  unfold KV at r
  induction r with
  | nil => exact True.intro
  | @cons p q ps qs h t ih =>
    obtain ⟨h1, h2⟩ := h
    by_cases e : p.1 = k
    · have e' : q.1 = k := h1.symm.trans e
      have b : valueAt (q :: qs) k = some q.2 := by simp [valueAt, List.find?_cons, e']
      rw [valV_pos e, b]; exact h2
    · have e' : ¬ q.1 = k := fun z => e (h1.trans z)
      have b : valueAt (q :: qs) k = valueAt qs k := by simp [valueAt, List.find?_cons, e']
      rw [valV_neg e, b]; exact ih
theorem KV.any {kvs : List (κ × V)} {vs : List (κ × Value)} (r : KV kvs vs) (k : κ) : (kvs.any fun kv => decide (kv.1 = k)) = vs.any fun kv => decide (kv.1 = k) := by
  unfold KV at r
  induction r with
  | nil => rfl
  | cons h t ih => rw [List.any_cons, List.any_cons, ih, h.1]
theorem KV.repl {kvs : List (κ × V)} {vs : List (κ × Value)} (r : KV kvs vs) (k : κ) {y : V} {u : Value} (ry : RelV y u) :
    KV (kvs.map fun kv => if kv.1 = k then (kv.1, y) else kv) (vs.map fun kv => if kv.1 = k then (kv.1, u) else kv) := by
  unfold KV at r ⊢
  induction r with
  | nil => exact .nil
  | @cons p q ps qs h t ih =>
    rw [List.map_cons, List.map_cons]
    refine .cons ?_ ih
    obtain ⟨h1, h2⟩ := h
    by_cases e : p.1 = k
    · rw [if_pos e, if_pos (h1.symm.trans e)]; exact ⟨h1, ry⟩
    · rw [if_neg e, if_neg (fun z => e (h1.trans z))]; exact ⟨h1, h2⟩
theorem KV.put {kvs : List (κ × V)} {vs : List (κ × Value)} (r : KV kvs vs) (k : κ) {y : V} {u : Value} (ry : RelV y u) : KV (putK kvs k y) (stored vs k u) := by
  unfold putK stored
  rw [r.any k]
  by_cases e : (vs.any fun kv => decide (kv.1 = k)) = true
  · rw [if_pos e, if_pos e]; exact r.repl k ry
  · rw [if_neg e, if_neg e]; exact Paired.snoc r ⟨rfl, ry⟩
theorem KV.drop {kvs : List (κ × V)} {vs : List (κ × Value)} (r : KV kvs vs) (k : κ) : KV (dropK kvs k) (without vs k) := by
  unfold KV at r ⊢
  unfold dropK without
  induction r with
  | nil => exact .nil
  | @cons p q ps qs h t ih =>
    obtain ⟨h1, h2⟩ := h
    rw [List.filter_cons, List.filter_cons]
    by_cases e : p.1 = k
    · have a : ¬ decide (p.1 ≠ k) = true := by simp [e]
      have b : ¬ decide (q.1 ≠ k) = true := by simp [h1.symm.trans e]
      rw [if_neg a, if_neg b]; exact ih
    · have e' : ¬ q.1 = k := fun z => e (h1.trans z)
      have a : decide (p.1 ≠ k) = true := by simp [e]
      have b : decide (q.1 ≠ k) = true := by simp [e']
      rw [if_pos a, if_pos b]; exact .cons ⟨h1, h2⟩ ih
theorem KV.keys {kvs : List (κ × V)} {vs : List (κ × Value)} (r : KV kvs vs) : kvs.map (·.1) = vs.map (·.1) := by
  unfold KV at r
  induction r with
  | nil => rfl
  | cons h t ih => rw [List.map_cons, List.map_cons, ih, h.1]
theorem KV.length {kvs : List (κ × V)} {vs : List (κ × Value)} (r : KV kvs vs) : kvs.length = vs.length := Paired.length r
end
theorem kV_is {P : Program} {w : World} {k : Key} {u : Value} (r : RelV (kV k) u) : (mixKind P w).is k u = true := by
  cases k with
  | inl i => obtain ⟨t, e⟩ := (show ∃ t, u = Value.int i t from r); subst e; exact mixKind_int P w i t
  | inr x => obtain ⟨t, e⟩ := (show ∃ t, u = Value.str x t from r); subst e; exact mixKind_str P w x t
theorem items_are {P : Program} {w : World} : ∀ {ks : List Key} {us : List Value}, Vals (ks.map kV) us → ItemsAre (mixKind P w) ks us
  | [], _, r => by rw [List.map_nil] at r; cases r; exact .nil
  | k :: ks, _, r => by
    rw [List.map_cons] at r
    cases r with
    | cons h t => exact .cons (kV_is h) (items_are t)
abbrev KT (H : Hp) : List (List Key × V) → List (List Key × Addr × Value) → Prop := Paired fun p q => p.1 = q.1 ∧ H q.2.1 = some (.tup (p.1.map kV)) ∧ RelV p.2 q.2.2
theorem KT.val {H : Hp} {kvs : List (List Key × V)} {xs : List (List Key × Addr × Value)} (r : KT H kvs xs) (k : List Key) : RelO (valV kvs k) ((atKey xs k).map (·.2)) := by
  induction r with
  | nil => exact True.intro
  | @cons p q ps qs h t ih =>
    obtain ⟨h1, _, h2⟩ := h
    by_cases e : p.1 = k
    · have e' : q.1 = k := h1.symm.trans e
      have b : atKey (q :: qs) k = some q.2 := by simp [atKey, List.find?_cons, e']
      rw [valV_pos e, b]; exact h2
    · have e' : ¬ q.1 = k := fun z => e (h1.trans z)
      have b : atKey (q :: qs) k = atKey qs k := by simp [atKey, List.find?_cons, e']
      rw [valV_neg e, b]; exact ih
theorem KT.repl {H : Hp} {kvs : List (List Key × V)} {xs : List (List Key × Addr × Value)} (r : KT H kvs xs) (k : List Key) {y : V} {u : Value} (ry : RelV y u) :
    KT H (kvs.map fun kv => if kv.1 = k then (kv.1, y) else kv) (xs.map (putAt k u)) := by
  induction r with
  | nil => exact .nil
  | @cons p q ps qs h t ih =>
    rw [List.map_cons, List.map_cons]
    refine .cons ?_ ih
    obtain ⟨h1, h2, h3⟩ := h
    unfold putAt
    by_cases e : p.1 = k
    · rw [if_pos e, if_pos (h1.symm.trans e)]; exact ⟨h1, h2, ry⟩
    · rw [if_neg e, if_neg (fun z => e (h1.trans z))]; exact ⟨h1, h2, h3⟩
theorem KT.put {H : Hp} {kvs : List (List Key × V)} {xs : List (List Key × Addr × Value)} (r : KT H kvs xs) (k : List Key) {b : Addr} {y : V} {u : Value} (hb : H b = some (.tup (k.map kV))) (ry : RelV y u) :
    KT H (putK kvs k y) (storedH xs k b u) := by
  have e : (kvs.any fun kv => decide (kv.1 = k)) = (atKey xs k).isSome := by
    rw [valV_any, (r.val k).isSome_eq, Option.isSome_map]
  unfold putK storedH
  rw [e]
  by_cases q : (atKey xs k).isSome = true
  · rw [if_pos q, if_pos q]; exact r.repl k ry
  · rw [if_neg q, if_neg q]; exact Paired.snoc r ⟨rfl, hb, ry⟩
theorem KT.keeps {H H' : Hp} {kvs : List (List Key × V)} {xs : List (List Key × Addr × Value)} (r : KT H kvs xs) (ht : ∀ b ys, H b = some (.tup ys) → H' b = some (.tup ys)) : KT H' kvs xs :=
  Paired.mapP r fun _ _ z => ⟨z.1, ht _ _ z.2.1, z.2.2⟩
section
variable {P : Program} {w : World} {H : Hp} {h : Heap} {a : Addr}
theorem rd_of {u : HO} (ok : HOk P w H h) (e : Rd H a u) : ObjOk P w H h a u := e.ok ok
theorem dk_rd {kvs : List (Key × V)} (ok : HOk P w H h) (e : Rd H a (.dK kvs)) : kvs.length ≤ sizeLine ∧ (a == sysModules) = false ∧ ∃ vs, KV kvs vs ∧ h.DictOf (mixKind P w) a vs :=
  show ObjOk P w H h a (.dK kvs) from rd_of ok e
theorem dk_of {kvs : List (Key × V)} (ok : HOk P w H h) (e : H a = some (.dK kvs)) : kvs.length ≤ sizeLine ∧ (a == sysModules) = false ∧ ∃ vs, KV kvs vs ∧ h.DictOf (mixKind P w) a vs := dk_rd ok (.inl e)
theorem key_of {ks : List Key} (ok : HOk P w H h) (e : H a = some (.tup (ks.map kV))) : (tupleKind (mixKind P w)).is h ks a := by
  obtain ⟨_, its, r, o, h1, h2, n, h3⟩ := (show ObjOk P w H h a (.tup (ks.map kV)) from ok a _ e)
  exact ⟨o, its.toArray, n, h1, h2, h3, by simpa using items_are r⟩
theorem dt_rd {kvs : List (List Key × V)} (ok : HOk P w H h) (e : Rd H a (.dT kvs)) : kvs.length ≤ sizeLine ∧ (a == sysModules) = false ∧
    ∃ xs, KT H kvs xs ∧ h.DictOfH (tupleKind (mixKind P w)) a xs := by
  obtain ⟨z, y, xs, r, o, es, ep, h1, h2, h3, h4, h5⟩ := (show ObjOk P w H h a (.dT kvs) from rd_of ok e)
  refine ⟨z, y, xs, r, o, es, ep, h1, h2, h3, h4, fun x hx => ?_, h5⟩
  have all : ∀ {l : List (List Key × V)} {m : List (List Key × Addr × Value)}, KT H l m → ∀ x ∈ m, (tupleKind (mixKind P w)).is h x.1 x.2.1 := by
    intro l m q
    induction q with
    | nil => intro x hx; exact nomatch hx
    | @cons p q ps qs hq t ih =>
      intro x hx
      rcases List.mem_cons.mp hx with e | hx
      · subst e
        exact key_of ok (by rw [← hq.1]; exact hq.2.1)
      · exact ih x hx
  exact all r x hx
theorem dt_of {kvs : List (List Key × V)} (ok : HOk P w H h) (e : H a = some (.dT kvs)) : kvs.length ≤ sizeLine ∧ (a == sysModules) = false ∧
    ∃ xs, KT H kvs xs ∧ h.DictOfH (tupleKind (mixKind P w)) a xs := dt_rd ok (.inl e)
end
def DGet (H : Hp) (a : Addr) (y : V) (r : Option V) : Prop :=
  (∃ kvs k, Rd H a (.dK kvs) ∧ y = kV k ∧ r = valV kvs k) ∨ ∃ kvs k b, Rd H a (.dT kvs) ∧ y = .ref b ∧ H b = some (.tup (k.map kV)) ∧ r = valV kvs k
def DPut (H : Hp) (a : Addr) (y v : V) (H' : Hp) : Prop :=
  (∃ kvs k, H a = some (.dK kvs) ∧ y = kV k ∧ kvs.length < sizeLine ∧ H' = upd H a (.dK (putK kvs k v))) ∨
  ∃ kvs k b, H a = some (.dT kvs) ∧ y = .ref b ∧ H b = some (.tup (k.map kV)) ∧ kvs.length < sizeLine ∧ H' = upd H a (.dT (putK kvs k v))
theorem DGet.k {H : Hp} {a : Addr} {kvs : List (Key × V)} {k : Key} (e : H a = some (.dK kvs)) : DGet H a (kV k) (valV kvs k) := .inl ⟨kvs, k, .inl e, rfl, rfl⟩
theorem DGet.t {H : Hp} {a b : Addr} {kvs : List (List Key × V)} {k : List Key} (e : H a = some (.dT kvs)) (eb : H b = some (.tup (k.map kV))) : DGet H a (.ref b) (valV kvs k) := .inr ⟨kvs, k, b, .inl e, rfl, eb, rfl⟩
theorem DPut.k {H : Hp} {a : Addr} {kvs : List (Key × V)} {k : Key} {v : V} (e : H a = some (.dK kvs)) (hl : kvs.length < sizeLine) : DPut H a (kV k) v (upd H a (.dK (putK kvs k v))) := .inl ⟨kvs, k, e, rfl, hl, rfl⟩
theorem DPut.t {H : Hp} {a b : Addr} {kvs : List (List Key × V)} {k : List Key} {v : V} (e : H a = some (.dT kvs)) (eb : H b = some (.tup (k.map kV))) (hl : kvs.length < sizeLine) :
    DPut H a (.ref b) v (upd H a (.dT (putK kvs k v))) := .inr ⟨kvs, k, b, e, rfl, eb, hl, rfl⟩
section
variable {X : Cx} {pins : List (Addr × Obj)} {σ : St} {H : Hp} {s : Shared} {a : Addr} {y v : V} {u r : Value} {o : Option V} {A : Around} {E : Value → Shared → Prop}
theorem Inv.big (I : Inv X pins σ H s) : sysModules < s.heap.objs.size := by
  have h : mainGlobals < s.heap.objs.size := (I.mod.glob.keeps I.bk).lt
  exact Nat.lt_trans (by decide) h
theorem d_getItem {Q : Value → Shared → Prop} (hu : A.units + 1 < cLine) (I : Inv X pins σ H s) (g : DGet H a y (some v)) (ry : RelV y u) (h : ∀ w' s', Inv X pins σ H s' → RelV v w' → Q w' s') :
    wpAny (model X.prog X.w) A (getItem (.ref a) u) Q E s := by
  rcases g with ⟨kvs, k, e, ey, l⟩ | ⟨kvs, k, b, e, ey, eb, l⟩
  · subst ey
    obtain ⟨z, hd, vs, rel, dd⟩ := dk_rd I.hok e
    obtain ⟨w', hw, rw'⟩ := RelO.some_of (v := v) (o := valueAt vs k) (by rw [l]; exact rel.val k)
    exact wpAny_getItem_of (kV_is ry) dd.mapOf hw (h w' _ (I.tok _) rw')
  · subst ey
    cases (show u = Value.ref b from ry)
    obtain ⟨z, hd, xs, rel, dd⟩ := dt_rd I.hok e
    obtain ⟨w', hw, rw'⟩ := RelO.some_of (v := v) (o := (atKey xs k).map (·.2)) (by rw [l]; exact rel.val k)
    obtain ⟨p, hp, hp2⟩ := Option.map_eq_some_iff.mp hw
    refine wpAny_getItem_heap (tupleKind_room_in1 hu) (key_of I.hok eb) dd hp ?_
    rw [hp2]
    exact h w' _ (I.tok _) rw'
theorem d_notIn {Q : Value → Shared → Prop} (hu : A.units + 1 < cLine) (I : Inv X pins σ H s) (g : DGet H a y o) (ry : RelV y u) (h : ∀ s', Inv X pins σ H s' → Q (.bool (!o.isSome)) s') :
    wpAny (model X.prog X.w) A (compareOp .NotIn u (.ref a)) Q E s := by
  rcases g with ⟨kvs, k, e, ey, l⟩ | ⟨kvs, k, b, e, ey, eb, l⟩
  · subst ey
    obtain ⟨z, hd, vs, rel, dd⟩ := dk_rd I.hok e
    refine wpAny_notIn_of (kV_is ry) hd dd.mapOf ?_
    rw [← (rel.val k).isSome_eq, ← l]
    exact h _ (I.tok _)
  · subst ey
    cases (show u = Value.ref b from ry)
    obtain ⟨z, hd, xs, rel, dd⟩ := dt_rd I.hok e
    refine wpAny_notIn_heap (tupleKind_room_in1 hu) (key_of I.hok eb) hd dd ?_
    have q := (rel.val k).isSome_eq
    rw [Option.isSome_map] at q
    rw [← q, ← l]
    exact h _ (I.tok _)
theorem d_write {h' : Heap} {t' : Nat} {ob : HO} (I : Inv X pins σ H s) (mu : Mut (H a)) (hs : Heap.SameBut a s.heap h') (he : ∃ q, h'.get? a = some q) (new : ObjOk X.prog X.w (upd H a ob) h' a ob) :
    Inv X pins σ (upd H a ob) { s with heap := h', toks := t' } :=
  I.write (x := a) (e := a) mu (.inl rfl) (fun b q hb z => (hs.2 b hb).trans z) he new
theorem dk_new {P : Program} {w : World} {H' : Hp} {h' : Heap} {kvs : List (Key × V)} {vs : List (Key × Value)} (z : kvs.length ≤ sizeLine) (hd : (a == sysModules) = false) (rel : KV kvs vs) (dd : h'.DictOf (mixKind P w) a vs) :
    ObjOk P w H' h' a (.dK kvs) := ⟨z, hd, vs, rel, dd⟩
theorem d_setItem {H' : Hp} {Q : Unit → Shared → Prop} (hu : A.units + 1 < cLine) (I : Inv X pins σ H s) (g : DPut H a y v H') (ry : RelV y u) (rv : RelV v r) (h : ∀ s', Inv X pins σ H' s' → Q () s') :
    wpAny (model X.prog X.w) A (setItem (.ref a) u r) Q E s := by
  rcases g with ⟨kvs, k, e, ey, l, eH⟩ | ⟨kvs, k, b, e, ey, eb, l, eH⟩
  · subst ey eH
    obtain ⟨z, hd, vs, rel, dd⟩ := dk_of I.hok e
    have hz : vs.length ≤ sizeLine := by rw [← rel.length]; exact z
    have hl : (putK kvs k v).length ≤ sizeLine := by have := length_putK kvs k v; omega
    refine wpAny_setItem_pairs (hsz := hz) (kV_is ry) dd fun h' dd' hs => h _ ?_
    have he : ∃ q, h'.get? a = some q := let ⟨q, _, _, hq, _⟩ := dd'; ⟨q, hq⟩
    exact d_write I (by rw [e]; exact True.intro) hs he (dk_new hl hd (rel.put k rv) dd')
  · subst ey eH
    cases (show u = Value.ref b from ry)
    obtain ⟨z, hd, xs, rel, dd⟩ := dt_of I.hok e
    have hz : xs.length ≤ sizeLine := by rw [← Paired.length rel]; exact z
    have hl : (putK kvs k v).length ≤ sizeLine := by have := length_putK kvs k v; omega
    refine wpAny_setItem_heap (hsz := hz) (tupleKind_room_in1 hu) (key_of I.hok eb) dd fun h' dd' hs => h _ ?_
    obtain ⟨q, es, ep, hq, h2, h3, h4, _, h5⟩ := dd'
    refine d_write I (by rw [e]; exact True.intro) hs ⟨q, hq⟩ ⟨hl, hd, _, (rel.put k eb rv).keeps fun c ys ec => ?_, q, es, ep, hq, h2, h3, h4, h5⟩
    rw [upd_ne (ne_of ec e (fun z => nomatch z))]
    exact ec
end
section
variable {X : Cx} {pins : List (Addr × Obj)} {σ : St} {H : Hp} {s : Shared} {a : Addr} {kvs : List (Key × V)} {k : Key} {u : Value} {A : Around} {E : Value → Shared → Prop}
theorem d_len {Q : Value → Shared → Prop} (I : Inv X pins σ H s) (e : Rd H a (.dK kvs)) (h : ∀ t s', Inv X pins σ H s' → Q (.int kvs.length t) s') : wpAny (model X.prog X.w) A (call (.builtin "len") [.ref a]) Q E s := by
  obtain ⟨z, hd, vs, rel, dd⟩ := dk_rd I.hok e
  refine call_len_dict hd dd (by rw [← rel.length]; rw [sizeLine_eq] at z; omega) ?_
  rw [← rel.length]
  exact h _ _ (I.tok _)
end
def NoSl (i : Expr) : Prop := ∀ ov iv, subscripted i false ov iv = operate [ov, iv] (getItem ov iv)
theorem subD_of {prog : Program} {w : World} {A : Around} {E : Value → Shared → Prop} {s : Shared} {env : Env} {value slice : Expr} {pos : Pos} {T id : String} {Q : Value → Shared → Prop}
    (hl : typeLookup (.type T) "__getitem__" = pure (some (.builtin id))) (hs : NoSl slice)
    (h : wpAny (model prog w) A (eval value env) (fun o s₁ => wpAny (model prog w) A (eval slice env) (fun i s₂ => s₂.TypeIs o T ∧ wpAny (model prog w) A (getItem o i) Q E s₂) E s₁) E s) :
    wpAny (model prog w) A (eval (.Subscript value slice pos) env) Q E s := by
  refine Subscript_ (wpAny_mono h (fun o s₁ h₁ => wpAny_mono h₁ (fun i s₂ h₂ => ?_) fun _ _ x => x) fun _ _ x => x)
  obtain ⟨hT, h₂⟩ := h₂
  unfold subscriptTail
  refine wpAny_bind ?_
  rw [getitemInPython_of_ne hT.not_modules]
  refine wpAny_bind (wpAny_specialOf hT hl ?_)
  have fin : wpAny (model prog w) A (subscripted slice false o i) (fun r s₃ => wpAny (model prog w) A (letTemporaryGo value o r >>= fun _ => pure r) Q E s₃) E s₂ := by
    rw [hs o i]
    exact wpAny_operating (wpAny_mono h₂ (fun r s₃ h₃ => wpAny_bind (wpAny_letTemporaryGo (wpAny_pure h₃))) fun _ _ x => x)
  first
    | exact wpAny_pure (wpAny_bind fin)
    | exact wpAny_bind (wpAny_pure (wpAny_bind fin))
    | exact wpAny_bind fin
theorem dict_typeIs {X : Cx} {pins : List (Addr × Obj)} {σ : St} {H : Hp} {s : Shared} {a : Addr} {y : V} {o : Option V} (I : Inv X pins σ H s) (g : DGet H a y o) : s.TypeIs (.ref a) "dict" := by
  rcases g with ⟨kvs, k, e, _, _⟩ | ⟨kvs, k, b, e, _, _, _⟩
  · obtain ⟨_, _, vs, _, dd⟩ := dk_rd I.hok e
    exact dd.typeIs
  · obtain ⟨_, _, xs, _, dd⟩ := dt_rd I.hok e
    exact dd.typeIs
def tDGet (td ty : TE) : TE := fun σ H Q => td σ H fun x H1 => ty σ H1 fun y H2 => ∃ a v, x = .ref a ∧ DGet H2 a y (some v) ∧ Q v H2
def tDIn (ty td : TE) : TE := fun σ H Q => ty σ H fun y H1 => td σ H1 fun x H2 => ∃ a o, x = .ref a ∧ DGet H2 a y o ∧ Q (.bl o.isSome) H2
def tDNotIn (ty td : TE) : TE := fun σ H Q => ty σ H fun y H1 => td σ H1 fun x H2 => ∃ a o, x = .ref a ∧ DGet H2 a y o ∧ Q (.bl (!o.isSome)) H2
def sDPut (td ty tv : TE) : TS := fun D σ H => tv σ H fun v H1 => td σ H1 fun x H2 => ty σ H2 fun y H3 => ∃ a H4, x = .ref a ∧ DPut H3 a y v H4 ∧ D.nx σ H4
def sDAug (td ty tv : TE) (rd : V → V → Hp → VK → Prop) : TS := fun D σ H => td σ H fun x H1 => ty σ H1 fun y H2 => ∃ a v, x = .ref a ∧ DGet H2 a y (some v) ∧
  tv σ H2 fun y2 H3 => rd v y2 H3 fun z H4 => ∃ H5, DPut H4 a y z H5 ∧ D.nx σ H5
def sDDel (td ty : TE) : TS := fun D σ H => td σ H fun x H1 => ty σ H1 fun y H2 => ∃ a kvs k, x = .ref a ∧ H2 a = some (.dK kvs) ∧ y = kV k ∧ (valV kvs k).isSome = true ∧ D.nx σ (upd H2 a (.dK (dropK kvs k)))
section
variable {X : Cx} {o i e value : Expr} {pos pos' tpos : Pos} {td ty tv : TE}
theorem pe_dget (hu : X.A.units + 1 < cLine) (ho : PE X o td) (hi : PE X i ty) (hs : NoSl i) : PE X (.Subscript o i pos) (tDGet td ty) := by
  intro pins s σ H Q I h
  refine subD_of PySem.F.slot_dict_getitem.lookup hs (thn (ho pins s σ H _ I h) fun u s1 ⟨x, H1, I1, rx, q1⟩ => thn (hi pins s1 σ H1 _ I1 q1) fun iv s2 ⟨y, H2, I2, ry, a, v, ex, g, q2⟩ => ?_)
  subst ex
  obtain rfl : u = Value.ref a := rx
  exact ⟨dict_typeIs I2 g, d_getItem hu I2 g ry fun w' s3 I3 rw' => ⟨v, H2, I3, rw', q2⟩⟩
theorem pc_dnotin (hu : X.A.units + 1 < cLine) (hi : PE X i ty) (ho : PE X o td) : PC X .NotIn i o (tDNotIn ty td) := by
  intro pins s σ H Q I h
  refine thn (hi pins s σ H _ I h) fun iv s1 ⟨y, H1, I1, ry, q1⟩ => thn (ho pins s1 σ H1 _ I1 q1) fun u s2 ⟨x, H2, I2, rx, a, ov, ex, g, q2⟩ => ?_
  subst ex
  obtain rfl : u = Value.ref a := rx
  exact d_notIn hu I2 g ry fun s3 I3 => ⟨.bl (!ov.isSome), H2, I3, rfl, q2⟩
theorem ps_dput (hu : X.A.units + 1 < cLine) (ho : PE X o td) (hi : PE X i ty) (hv : PE X value tv) (hs : swapsWith value (some (.Subscript o i pos')) pos.line X.env = pure false) :
    PS X (.Assign [.Subscript o i pos'] value pos) (sDPut td ty tv) := by
  intro pins s σ H D I h
  refine wpAny_Assign_Subscript (thn (hv pins s σ H _ I h) fun r s1 ⟨v, H1, I1, rv, q1⟩ => thn (ho pins s1 σ H1 _ I1 q1) fun u s2 ⟨x, H2, I2, rx, q2⟩ => thn (hi pins s2 σ H2 _ I2 q2) fun iv s3 ⟨y, H3, I3, ry, a, H4, ex, g, q3⟩ => ?_) hs
  subst ex
  obtain rfl : u = Value.ref a := rx
  exact d_setItem hu I3 g ry rv fun s4 I4 => ⟨σ, H4, I4, q3⟩
end
theorem dk_empty {P : Program} {w : World} {H : Hp} (h : Heap) (hb : sysModules < h.objs.size) : ObjOk P w H (h.push { cls := .type "dict", data := .dict #[] }) h.objs.size (.dK []) :=
  ⟨Nat.zero_le _, beq_eq_false_iff_ne.mpr (Ne.symm (Nat.ne_of_lt hb)), [], .nil, Heap.DictOf.new h⟩
theorem dt_empty {P : Program} {w : World} {H : Hp} (h : Heap) (hb : sysModules < h.objs.size) : ObjOk P w H (h.push { cls := .type "dict", data := .dict #[] }) h.objs.size (.dT []) :=
  ⟨Nat.zero_le _, beq_eq_false_iff_ne.mpr (Ne.symm (Nat.ne_of_lt hb)), [], .nil, _, #[], 0, Heap.get?_push_size _ rfl, ⟨rfl, rfl, rfl⟩, rfl, rfl, List.nodup_nil⟩
def tDNewK : TE := fun _ H Q => ∀ p, H p = none → Q (.ref p) (upd H p (.dK []))
def tDNewT : TE := fun _ H Q => ∀ p, H p = none → Q (.ref p) (upd H p (.dT []))
section
variable {X : Cx} {pos : Pos}
theorem pe_dnewK : PE X (.Dict [] [] pos) tDNewK := fun pins s σ H Q I h =>
  wpAny_Dict_empty ⟨.ref s.heap.objs.size, _, I.laid (a := s.heap.objs.size) (o := .dK []) (t' := s.toks) (fun _ _ q => Heap.get?_push_of_some _ q) (Nat.le_refl _) (dk_empty s.heap I.big), rfl, h _ (I.hok.fresh (Nat.le_refl _))⟩
end
def tPairs : List (TE × TE) → St → Hp → (List (V × V) → Hp → Prop) → Prop
  | [], _, H, Q => Q [] H
  | (tk, tv) :: r, σ, H, Q => tk σ H fun x H1 => tv σ H1 fun y H2 => tPairs r σ H2 fun ps H3 => Q ((x, y) :: ps) H3
abbrev VV : List (V × V) → List (Value × Value) → Prop := Paired fun p q => RelV p.1 q.1 ∧ RelV p.2 q.2
def PPs (X : Cx) (pos : Pos) (keys : List (Option Expr)) (values : List Expr) (trs : List (TE × TE)) : Prop :=
  ∀ (pins : List (Addr × Obj)) (s : Shared) (σ : St) (H : Hp) (Q : List (V × V) → Hp → Prop), Inv X pins σ H s → tPairs trs σ H Q →
    wpAny (model X.prog X.w) X.A (evalPairs (pairTrees keys values X.env pos)) (fun vs s' => ∃ ps H', Inv X pins σ H' s' ∧ VV ps vs ∧ Q ps H') X.xe s
theorem pps_nil {X : Cx} {pos : Pos} : PPs X pos [] [] [] := fun pins s σ H Q I h => pairTrees_nil_walk ⟨[], H, I, .nil, h⟩
theorem pps_cons {X : Cx} {pos : Pos} {k v : Expr} {ks : List (Option Expr)} {vs : List Expr} {tk tv : TE} {trs : List (TE × TE)} (hk : PE X k tk) (hv : PE X v tv) (hr : PPs X pos ks vs trs) :
    PPs X pos (some k :: ks) (v :: vs) ((tk, tv) :: trs) := fun pins s σ H Q I h =>
  pairTrees_cons_walk (thn (hk pins s σ H _ I h) fun u s1 ⟨x, H1, I1, rx, q1⟩ => thn (hv pins s1 σ H1 _ I1 q1) fun w2 s2 ⟨y, H2, I2, ry, q2⟩ =>
    thn (hr pins s2 σ H2 _ I2 q2) fun ws s3 ⟨ps, H3, I3, rel, q3⟩ => ⟨(x, y) :: ps, H3, I3, .cons ⟨rx, ry⟩ rel, q3⟩)
def mergeK (kvs more : List (Key × V)) : List (Key × V) := more.foldl (fun acc kv => putK acc kv.1 kv.2) kvs
theorem KV.merge : ∀ {more : List (Key × V)} {rs : List (Key × Value)} {kvs : List (Key × V)} {vs : List (Key × Value)}, KV more rs → KV kvs vs → KV (mergeK kvs more) (merged vs rs) := by
  intro more rs kvs vs r
  unfold KV at r
  induction r generalizing kvs vs with
  | nil => intro q; exact q
  | @cons p q ps qs h t ih =>
    intro r0
    have e : KV (putK kvs p.1 p.2) (stored vs q.1 q.2) := by
      have := r0.put p.1 h.2
      rw [← h.1]; exact this
    exact ih e
theorem length_mergeK : ∀ (more kvs : List (Key × V)), (mergeK kvs more).length ≤ kvs.length + more.length
  | [], kvs => by show kvs.length ≤ kvs.length + 0; omega
  | p :: r, kvs => by
    have h1 := length_mergeK r (putK kvs p.1 p.2)
    have h2 := length_putK kvs p.1 p.2
    show (mergeK (putK kvs p.1 p.2) r).length ≤ _
    rw [List.length_cons]; omega
theorem carries_of {P : Program} {w : World} : ∀ {kvs : List (Key × V)} {ws : List (Value × Value)}, VV (kvs.map fun kv => (kV kv.1, kv.2)) ws → ∃ rs, Carries (mixKind P w) ws rs ∧ KV kvs rs
  | [], _, r => by rw [List.map_nil] at r; cases r; exact ⟨[], True.intro, .nil⟩
  | p :: kvs, _, r => by
    rw [List.map_cons] at r
    cases r with
    | @cons a b as bs h t =>
      obtain ⟨rs, c, q⟩ := carries_of (P := P) (w := w) t
      obtain ⟨b1, b2⟩ := b
      exact ⟨(p.1, b2) :: rs, ⟨kV_is h.1, rfl, c⟩, .cons ⟨rfl, h.2⟩ q⟩
def tDisp (trs : List (TE × TE)) : TE := fun σ H Q => ∀ p, H p = none → tPairs trs σ (upd H p (.dK [])) fun ps H2 => H2 p = some (.dK []) ∧ ∃ kvs : List (Key × V), ps = kvs.map (fun kv => (kV kv.1, kv.2)) ∧ kvs.length ≤ 15 ∧ Q (.ref p) (upd H2 p (.dK (mergeK [] kvs)))
theorem pe_disp {X : Cx} {pos : Pos} {keys : List (Option Expr)} {values : List Expr} {trs : List (TE × TE)} (h : PPs X pos keys values trs) (hall : keys.all (·.isSome) = true) (hl : keys.length = values.length) (h0 : keys ≠ [])
    (h15 : keys.length ≤ 15) : PE X (.Dict keys values pos) (tDisp trs) := by
  intro pins s σ H Q I q
  have hn := I.hok.fresh (Nat.le_refl s.heap.objs.size)
  have I1 := I.laid (a := s.heap.objs.size) (o := .dK []) (h' := s.heap.push { cls := .type "dict", data := .dict #[] }) (t' := s.toks) (fun _ _ q => Heap.get?_push_of_some _ q) (Nat.le_refl _) (dk_empty s.heap I.big)
  refine wpAny_Dict_walk (knd := mixKind X.prog X.w) hall hl h0 h15 (thn (h pins _ σ _ _ I1 (q _ hn)) fun ws s2 ⟨ps, H2, I2, rel, e, kvs, ep, lk, q2⟩ => ?_)
  subst ep
  obtain ⟨rs, c, rk⟩ := carries_of (P := X.prog) (w := X.w) rel
  obtain ⟨z, hd, vs0, r0, dd⟩ := dk_of I2.hok e
  cases r0
  refine ⟨rs, c, dd, fun h' dd' hs => ⟨.ref s.heap.objs.size, _, ?_, rfl, q2⟩⟩
  have hz : (mergeK [] kvs).length ≤ sizeLine := by
    have h1 := length_mergeK kvs []
    rw [List.length_nil] at h1
    rw [sizeLine_eq]; omega
  have he : ∃ q, h'.get? s.heap.objs.size = some q := let ⟨q, _, _, hq, _⟩ := dd'; ⟨q, hq⟩
  exact d_write I2 (by rw [e]; exact True.intro) hs he (dk_new hz hd (rk.merge .nil) dd')
structure M1 (X : Cx) (o : Expr) (m : Str) (apos : Pos) (e : Expr) (cpos : Pos) : Prop where
  base : attributeBase o m X.env (eval o X.env) = eval o X.env
  few : ((backTo cpos (starEach [e] X.env)).all (fun x => !x.1) && (backToKw cpos (keywordEach [] X.env)).all (fun x => x.1.isSome)
    && decide (([e] : List Expr).length + ([] : List Keyword).length + (if ([] : List Keyword).isEmpty then 0 else 1) < 30)) = true
  line : (apos.endLine == cpos.line) = true
  trees : backTo cpos (starEach [e] X.env) = [(false, eval e X.env)]
structure M2 (X : Cx) (o : Expr) (m : Str) (apos : Pos) (e f : Expr) (cpos : Pos) : Prop where
  base : attributeBase o m X.env (eval o X.env) = eval o X.env
  few : ((backTo cpos (starEach [e, f] X.env)).all (fun x => !x.1) && (backToKw cpos (keywordEach [] X.env)).all (fun x => x.1.isSome)
    && decide (([e, f] : List Expr).length + ([] : List Keyword).length + (if ([] : List Keyword).isEmpty then 0 else 1) < 30)) = true
  line : (apos.endLine == cpos.line) = true
  trees : backTo cpos (starEach [e, f] X.env) = [(false, eval e X.env), (false, eval f X.env)]
def IsD (H : Hp) (a : Addr) : Prop := (∃ kvs, Rd H a (.dK kvs)) ∨ ∃ kvs, Rd H a (.dT kvs)
section
variable {X : Cx} {pins : List (Addr × Obj)} {σ : St} {H : Hp} {s : Shared} {a : Addr} {y d : V} {u r : Value} {o : Option V} {A : Around} {E : Value → Shared → Prop}
end
def tDGet1 (td ty : TE) : TE := fun σ H Q => td σ H fun x H1 => ∃ a, x = .ref a ∧ IsD H1 a ∧ ty σ H1 fun y H2 => ∃ o, DGet H2 a y o ∧ Q (o.getD .non) H2
def tDGet2 (td ty tx : TE) : TE := fun σ H Q => td σ H fun x H1 => ∃ a, x = .ref a ∧ IsD H1 a ∧ ty σ H1 fun y H2 => tx σ H2 fun z H3 => ∃ o, DGet H3 a y o ∧ Q (o.getD z) H3
def tDPop1 (td ty : TE) : TE := fun σ H Q => td σ H fun x H1 => ∃ a, x = .ref a ∧ IsD H1 a ∧ ty σ H1 fun y H2 => ∃ kvs k v, H2 a = some (.dK kvs) ∧ y = kV k ∧ valV kvs k = some v ∧ Q v (upd H2 a (.dK (dropK kvs k)))
def tDPop2 (td ty tx : TE) : TE := fun σ H Q => td σ H fun x H1 => ∃ a, x = .ref a ∧ IsD H1 a ∧ ty σ H1 fun y H2 => tx σ H2 fun z H3 => ∃ kvs k, H3 a = some (.dK kvs) ∧ y = kV k ∧
  (∀ v, valV kvs k = some v → Q v (upd H3 a (.dK (dropK kvs k)))) ∧ (valV kvs k = none → Q z H3)
section
variable {X : Cx} {o e f : Expr} {apos cpos : Pos} {td ty tx : TE}
end
section
variable {X : Cx} {pins : List (Addr × Obj)} {σ : St} {H : Hp} {s : Shared} {a : Addr} {kvs : List (Key × V)} {A : Around} {E : Value → Shared → Prop}
end
section
variable {X : Cx} {pins : List (Addr × Obj)} {σ : St} {H : Hp} {s : Shared} {a : Addr} {y : V} {u : Value} {A : Around} {E : Value → Shared → Prop}
end
end L2
namespace L2
open PySem PySem.Spec PyProof.Rows
section
variable {κ : Type} [DecidableEq κ]
end
end L2
namespace L2
open PySem PySem.Spec PyProof.Rows
theorem forIn_steps {α β : Type} {f : α → β → Sem (ForInStep β)} {g : β → α → β} : ∀ {l : List α} (c : β), (∀ x ∈ l, ∀ c, f x c = pure (.yield (g c x))) → forIn l c f = pure (l.foldl g c)
  | [], _, _ => rfl
  | x :: l, c, h => by
    rw [List.forIn_cons, h x (List.mem_cons_self ..), pure_bind]
    exact forIn_steps (g c x) fun y hy => h y (List.mem_cons_of_mem _ hy)
def clStep (env : Env) (acc : List (Str × Addr)) (y : Str × NameKind) : List (Str × Addr) :=
  if y.2 == .free then (match env.cells.lookup y.1 with | some c => (y.1, c) :: acc | none => acc) else acc
def clOf (env : Env) (sc : Scope) : List (Str × Addr) := sc.names.foldl (clStep env) []
theorem closure_is {env : Env} {sc : Scope} (h : ∀ y ∈ sc.names, y.2 = .free → ∃ c, env.cells.lookup y.1 = some c) : closureFor sc env = pure (clOf env sc) := by
  simp only [closureFor]
  rw [forIn_steps (g := clStep env) [] fun x hx c => ?_]
  · rfl
  · obtain ⟨n, k⟩ := x
    by_cases hk : k = .free
    · subst hk
      obtain ⟨d, hd⟩ := h _ hx rfl
      have hd' : env.cells.lookup n = some d := hd
      simp only [clStep, cellOf, hd', beq_self_eq_true, if_true, pure_bind]
    · have hb : (k == NameKind.free) = false := by simpa using hk
      simp only [clStep, hb, Bool.false_eq_true, if_false]
theorem cl_sound {env : Env} : ∀ (names : List (Str × NameKind)) (acc : List (Str × Addr)), (∀ y c, acc.lookup y = some c → env.cells.lookup y = some c) →
    ∀ y c, (names.foldl (clStep env) acc).lookup y = some c → env.cells.lookup y = some c
  | [], _, h => h
  | (n, k) :: r, acc, h => by
    refine cl_sound r _ fun y c e => ?_
    unfold clStep at e
    split at e
    · split at e
      · rename_i d hd
        rw [List.lookup_cons] at e
        cases hy : y == n with
        | true =>
          rw [hy] at e
          have hy' : y = n := eq_of_beq hy
          cases e
          rw [hy']
          exact hd
        | false => rw [hy] at e; exact h y c e
      · exact h y c e
    · exact h y c e
theorem cl_keep {env : Env} : ∀ (names : List (Str × NameKind)) (acc : List (Str × Addr)) (y : Str), (∃ c, acc.lookup y = some c) → ∃ c, (names.foldl (clStep env) acc).lookup y = some c
  | [], _, _, h => h
  | (n, k) :: r, acc, y, h => by
    refine cl_keep r _ y ?_
    unfold clStep
    split
    · split
      · rename_i d hd
        rw [List.lookup_cons]
        cases hy : y == n with
        | true => exact ⟨_, rfl⟩
        | false => exact h
      · exact h
    · exact h
theorem cl_has {env : Env} : ∀ (names : List (Str × NameKind)) (acc : List (Str × Addr)) (y : Str), names.lookup y = some .free → (∃ c, env.cells.lookup y = some c) → ∃ c, (names.foldl (clStep env) acc).lookup y = some c
  | [], _, _, h, _ => by simp at h
  | (n, k) :: r, acc, y, h, hc => by
    rw [List.lookup_cons] at h
    cases hy : y == n with
    | true =>
      rw [hy] at h
      cases h
      have hy' : y = n := eq_of_beq hy
      subst hy'
      obtain ⟨c, hc⟩ := hc
      refine cl_keep r _ y ?_
      refine ⟨c, ?_⟩
      unfold clStep
      rw [if_pos (by rfl)]
      show List.lookup y (match env.cells.lookup y with | some c => (y, c) :: acc | none => acc) = _
      rw [hc]
      simp
    | false =>
      rw [hy] at h
      exact cl_has r _ y h hc
theorem relabel_kind {env : Env} : ∀ {names : List (Str × NameKind)} {y : Str} {k : NameKind},
    (names.map fun (n, k) => if (k == NameKind.free && env.scope.kind == .function && env.kindOf n == some .cell) then (n, NameKind.cell) else (n, k)).lookup y = some k →
      names.lookup y = some k ∨ (names.lookup y = some .free ∧ k = .cell)
  | [], _, _, h => by simp at h
  | (n, k0) :: r, y, k, h => by
    have ih := @relabel_kind env r y k
    rw [List.map_cons] at h
    by_cases hc : (k0 == NameKind.free && env.scope.kind == .function && env.kindOf n == some .cell) = true
    · have h' : List.lookup y ((n, NameKind.cell) :: (r.map fun (n, k) => if (k == NameKind.free && env.scope.kind == .function && env.kindOf n == some .cell) then (n, NameKind.cell) else (n, k))) = some k := by
        have e : (if (k0 == NameKind.free && env.scope.kind == .function && env.kindOf n == some .cell) = true then (n, NameKind.cell) else (n, k0)) = (n, NameKind.cell) := if_pos hc
        rw [← e]
        exact h
      rw [List.lookup_cons] at h' ⊢
      cases hy : y == n with
      | true =>
        rw [hy] at h'
        cases h'
        have hk : k0 = .free := by
          rw [Bool.and_eq_true, Bool.and_eq_true] at hc
          exact eq_of_beq hc.1.1
        exact .inr ⟨by rw [hk], rfl⟩
      | false => rw [hy] at h'; exact ih h'
    · have h' : List.lookup y ((n, k0) :: (r.map fun (n, k) => if (k == NameKind.free && env.scope.kind == .function && env.kindOf n == some .cell) then (n, NameKind.cell) else (n, k))) = some k := by
        have e : (if (k0 == NameKind.free && env.scope.kind == .function && env.kindOf n == some .cell) = true then (n, NameKind.cell) else (n, k0)) = (n, k0) := if_neg hc
        rw [← e]
        exact h
      rw [List.lookup_cons] at h' ⊢
      cases hy : y == n with
      | true => rw [hy] at h'; exact .inl h'
      | false => rw [hy] at h'; exact ih h'
def hideStr (y : Str) : Str := ⟨#[46] ++ y.cps⟩
def hide (vs : List Str) (y : Str) : Str := if vs.contains y = true then hideStr y else y
structure CompScope (X : Cx) (vs : List Str) (sc : Scope) : Prop where
  kind : sc.kind = .function
  cell : ∀ y ∈ sc.names, y.2 ≠ .cell
  locs : ∀ y ∈ sc.names, y.2 = .local → sc.names.lookup y.1 = some .local
  own : ∀ y ∈ X.N.map (hide vs), sc.names.lookup y ≠ some .local
  hid : ∀ y ∈ vs, sc.names.lookup (hideStr y) = none
  nd : (vs ++ X.N.map (hide vs)).Nodup
  free : ∀ y ∈ sc.names, y.2 = .free → X.env.kindOf y.1 = some .cell ∨ X.env.kindOf y.1 = some .free
def cxC (X : Cx) (vs : List Str) (sc : Scope) (C : Addr) (s : Shared) (H : Hp) (fp : List Addr) : Cx where
  prog := X.prog
  w := X.w
  K := X.K
  mg := X.mg
  base := X.base
  A := X.A
  N := vs ++ X.N.map (hide vs)
  s₀ := s
  H₀ := H
  env := compEnvC sc (clOf X.env sc) C X.env
  outer := X.stack
  stack := X.stack
  ex := fp
  fn := fun _ => false
  calm := X.calm
  pn := X.pn
  xe := fun _ _ => False
def compSt (vs : List Str) (σ : St) : St := List.replicate vs.length none ++ σ
section
variable {X : Cx} {pins : List (Addr × Obj)} {σ : St} {H : Hp} {s : Shared} {vs : List Str} {sc : Scope}
theorem comp_inv {C : Addr} {fp : List Addr} {h' : Heap} {tk : Nat} {m0 : Str → Option Value} (S : CompScope X vs sc) (I : Inv X pins σ H s) (hf : ∀ b ∈ fp, FpOk X pins H b) (ho : ∀ b ∈ fp, ∃ o, s.heap.get? b = some o)
    (k : ∀ b o, s.heap.get? b = some o → h'.get? b = some o) (hns : h'.Ns C m0) (hC : s.heap.objs.size ≤ C) : Inv (cxC X vs sc C s H fp) pins (compSt vs σ) H { s with heap := h', toks := tk } := by
  have sound : ∀ y c, (clOf X.env sc).lookup y = some c → X.env.cells.lookup y = some c := cl_sound sc.names [] fun y c e => by simp at e
  have fr : ∀ y, sc.names.lookup y = some .free → X.env.kindOf y = some .cell ∨ X.env.kindOf y = some .free := fun y e => S.free (y, .free) (PySem.mem_of_lookup e) rfl
  have frc : ∀ y, (X.env.kindOf y = some .cell ∨ X.env.kindOf y = some .free) → ∃ c, X.env.cells.lookup y = some c := fun y e => I.ok.has y e
  have kinds : ∀ {y : Str} {kd : NameKind}, (relabel sc X.env).names.lookup y = some kd → kd = .cell ∨ kd = .free → sc.names.lookup y = some .free := fun {y kd} e hk => by
    rcases relabel_kind (names := sc.names) e with z | ⟨z, _⟩
    · rcases hk with q | q
      · subst q; exact absurd rfl (S.cell _ (PySem.mem_of_lookup z))
      · subst q; exact z
    · exact z
  have has : ∀ y, sc.names.lookup y = some .free → ∃ c, (clOf X.env sc).lookup y = some c := fun y e => cl_has sc.names [] y e (frc y (fr y e))
  have hlt : ∀ y c, X.env.cells.lookup y = some c → c < s.heap.objs.size := fun y c e => let ⟨_, z⟩ := I.cell y c e; z.lt
  have kc : ∀ {c v}, s.heap.IsCell c v → h'.IsCell c v := fun {c v} ⟨o, e, d⟩ => ⟨o, k _ _ e, d⟩
  refine ⟨⟨I.ok.mod, S.kind, I.ok.glob, I.ok.blt, hC, fun y z c h1 h2 => I.ok.inj y z c (sound y c h1) (sound z c h2), fun y hy => ?_, fun y c z _ => (nomatch z), I.ok.hd, I.ok.frames, .inl rfl, fun b hb => ⟨?_, fun y c e => ?_⟩, I.bs, Nat.le_trans I.ok.bsz I.sz, fun b o e hb => ?_, fun b hb hs => ?_, I.stack, I.stkFree⟩,
    rfl, I.bare, Un.kept k, ⟨m0, hns, fun i y v e1 e2 e3 => ?_⟩, fun y c e => ?_, I.hok.fresh hC, fun y c e => I.freeC y c (sound y c e), fun p hp => ?_, I.hok.kept k, ?_⟩
  · have hy' : (relabel sc X.env).names.lookup y = some .cell ∨ (relabel sc X.env).names.lookup y = some .free := hy
    rcases hy' with z | z
    · exact has y (kinds z (.inl rfl))
    · exact has y (kinds z (.inr rfl))
  · obtain ⟨o, e⟩ := ho b hb
    exact Nat.ne_of_lt (Nat.lt_of_lt_of_le (Heap.lt_size e) hC)
  · exact (hf b hb).2.2.2.2.1 y c (sound y c e)
  · obtain ⟨_, _, _, z, _⟩ := hf b hb
    rcases z with z | z
    · exact I.ok.noex b o e z
    · exact absurd (Nat.lt_of_lt_of_le (Heap.lt_size (I.ok.bs b o e).1) z) (Nat.lt_irrefl _)
  · obtain ⟨_, h1, h2, _⟩ := hf b hb
    rcases List.mem_cons.mp (I.stkSub b hs) with z | z
    · exact h1 z
    · exact h2 z
  · have e1' : (vs ++ X.N.map (hide vs))[i]? = some y := e1
    have e2' : (List.replicate vs.length none ++ σ)[i]? = some (some v) := e2
    have hi : vs.length ≤ i := by
      by_cases z : i < vs.length
      · rw [List.getElem?_append_left (by simpa using z), List.getElem?_replicate] at e2'
        split at e2' <;> cases e2'
      · omega
    rw [List.getElem?_append_right hi] at e1'
    rw [List.getElem?_append_right (by simpa using hi), List.length_replicate] at e2'
    have yN : y ∈ X.N.map (hide vs) := List.mem_of_getElem? e1'
    have e3' : (relabel sc X.env).names.lookup y = some .local ∨ (relabel sc X.env).names.lookup y = some .cell ∨ (relabel sc X.env).names.lookup y = some .free := e3
    have isf : sc.names.lookup y = some .free := by
      rcases e3' with z | z | z
      · rcases relabel_kind (names := sc.names) z with q | ⟨_, q⟩
        · exact absurd q (S.own y yN)
        · cases q
      · exact kinds z (.inl rfl)
      · exact kinds z (.inr rfl)
    have e1' : X.N[i - vs.length]? = some y := by
      rw [List.getElem?_map] at e1'
      cases e : X.N[i - vs.length]? with
      | none => rw [e] at e1'; cases e1'
      | some y0 =>
        rw [e] at e1'
        have e2 : hide vs y0 = y := Option.some.inj e1'
        unfold hide at e2
        split at e2
        · rename_i hc
          rw [← e2, S.hid y0 (by simpa using hc)] at isf
          cases isf
        · rw [e2]
    have ok := fr y isf
    obtain ⟨m, _, hl⟩ := I.loc
    obtain ⟨u, r, lk⟩ := hl (i - vs.length) y v e1' e2' (.inr ok)
    refine ⟨u, r, ?_⟩
    rcases lk with ⟨q, _⟩ | ⟨_, c, ec, hc⟩
    · rcases ok with z | z <;> rw [z] at q <;> cases q
    · obtain ⟨c', e'⟩ := has y isf
      have : c' = c := Option.some.inj ((sound y c' e').symm.trans ec)
      subst this
      refine .inr ⟨?_, c', e', kc hc⟩
      rcases e3' with z | z | z
      · rcases relabel_kind (names := sc.names) z with q | ⟨_, q⟩
        · exact absurd q (S.own y yN)
        · cases q
      · exact .inl z
      · exact .inr z
  · obtain ⟨v, z⟩ := I.cell y c (sound y c e)
    exact ⟨v, kc z⟩
  · obtain ⟨e, n, ne, nf, d⟩ := I.pin p hp
    refine ⟨k _ _ e, n, Nat.ne_of_lt (Nat.lt_of_lt_of_le (Heap.lt_size e) hC), fun z => ?_, d⟩
    rcases List.mem_cons.mp (I.stkSub p.1 z) with q | q
    · exact ne q
    · exact nf q
  · show (List.replicate vs.length none ++ σ).length = (vs ++ X.N.map (hide vs)).length
    rw [List.length_append, List.length_append, List.length_replicate, List.length_map, I.len]
theorem Inv.adopt {D : Addr} {ys : List V} {its : List Value} {n : Nat} (I : Inv X pins σ H s) (hz : ys.length ≤ sizeLine) (hv : Vals ys its) (hD : H D = none) (e : s.heap.get? D = some { cls := .type "list", data := .seq its.toArray n })
    (h0 : X.s₀.heap.objs.size ≤ D) (h1 : D ≠ X.env.locals) (h2 : ∀ x c, X.env.cells.lookup x = some c → c ≠ D) (h3 : ∀ p ∈ X.pn ++ pins, p.1 ≠ D) : Inv X pins σ (upd H D (.lst ys)) s := by
  have nd : ∀ b u, H b = some u → b ≠ D := fun b u q z => by rw [z, hD] at q; cases q
  have q := I.step (h' := s.heap) (H' := upd H D (.lst ys)) (g' := s.gens) (t' := s.toks) (d' := s.drawn) (ch := [D]) (fun b hb => by
      have z : b = D := by simpa using hb
      subst z
      exact ⟨.inr h0, h1, h2, h3⟩)
    (fun b o _ _ _ e _ => e) (fun b o _ _ _ e _ => ⟨o.slots, e⟩) (fun b o hb _ n => by rw [upd_ne (fun z => hb (by simp [z]))]; exact n) (fun b o _ e => ⟨o, e⟩)
    (fun b xs q => by rw [upd_ne (nd b _ q)]; exact q) (fun b o u q => by rw [upd_ne (nd b _ q)]; exact q) (fun b ps q => ⟨#[], by rw [upd_ne (nd b _ q), q]; simp⟩) (fun m hm => hm) (fun b u q => ?_) I.bare
  · exact q
  · by_cases hb : b = D
    · subst hb
      rw [upd_same] at q
      cases q
      exact ⟨hz, its, n, hv, e⟩
    · rw [upd_ne hb] at q
      exact (I.hok b u q).stay (fun _ _ _ z => z) (fun c z => by rw [upd_ne (nd c _ z)]; exact z) fun c xs z => by rw [upd_ne (nd c _ z)]; exact z
end
def PTs (X : Cx) (ifs : List Expr) (t : TT) : Prop :=
  ∀ (pins : List (Addr × Obj)) (s : Shared) (σ : St) (H : Hp) (Q : Bool → Hp → Prop), Inv X pins σ H s → t σ H Q →
    wpAny (model X.prog X.w) X.A (forIn ifs true fun c r => if r = true then do let ok ← isTrue c X.env (eval c X.env); pure (ForInStep.yield ok) else pure (ForInStep.yield r)) (TP X pins σ Q) X.xe s
def tYes : TT := fun _ H Q => Q true H
theorem yes_of {σ : St} {H : Hp} {F G : Hp → Prop} (h : F H) : tYes σ H (fun b H3 => if b = true then F H3 else G H3) := by
  show (if true = true then F H else G H)
  exact iteT h
theorem pts_nil {X : Cx} : PTs X [] tYes := fun _ _ _ H _ I h => wpAny_pure ⟨H, I, h⟩
theorem comp_loop {prog : Program} {w : World} {A : Around} {R : Result → Shared → Prop} {s : Shared} {elt tg iter : Expr} {ifs : List Expr} {sc : Scope} {pos : Pos} {it acc : Value} {env : Env} (Iv : Nat → Shared → Prop)
    (turn : ∀ n s, Iv n s → wpAny (model prog w) A (pyNext it) (fun r s1 => match r with
      | none => R (.ok .next) s1
      | some v => wpAny (model prog w) A (letOwnedTupleGo tg it v) (fun _ s1 => wpAny (model prog w) A (assign tg env v) (fun _ s2 =>
          wpAny (model prog w) A (forIn ifs true fun c r => if r = true then do let ok ← isTrue c env (eval c env); pure (ForInStep.yield ok) else pure (ForInStep.yield r)) (fun ok s3 =>
            if ok = true then wpAny (model prog w) A (eval elt env) (fun y s4 => wpAny (model prog w) A (call (.builtin "list.append") [acc, y]) (fun _ s5 => ∃ m, m < n ∧ Iv m s5) (fun _ _ => False) s4) (fun _ _ => False) s3
            else ∃ m, m < n ∧ Iv m s3) (fun _ _ => False) s2) (fun _ _ => False) s1) (fun _ _ => False) s1) (fun _ _ => False) s)
    (n : Nat) (h : Iv n s) : codeAny (model prog w) A (.compLoop (.ListComp elt [⟨tg, iter, ifs, 0⟩] sc pos) 0 it acc env) R s := by
  refine codeAny_loop rfl Iv (fun n s hI => ?_) n h
  show wpAny _ A ((compTurn (.ListComp elt [⟨tg, iter, ifs, 0⟩] sc pos) 0 it acc env).onRaise (fun x => do noteFrame x env; theTreesLotGoes x)) _ _ s
  refine wpAny_noted (wpAny_mono (E := fun _ _ => False) ?_ (fun _ _ q => q) fun _ _ z => z.elim)
  rw [compTurn_list]
  refine wpAny_bind (wpAny_standAt (wpAny_bind (thn (turn n s hI) fun r s1 h1 => ?_)))
  cases r with
  | none => exact wpAny_pure h1
  | some v =>
    refine wpAny_bind (thn h1 fun _ s2 h2 => wpAny_bind (thn h2 fun _ s3 h3 => wpAny_bind (thn h3 fun ok s4 h4 => ?_)))
    cases ok with
    | false => exact wpAny_pure ⟨rfl, h4⟩
    | true => exact wpAny_bind (wpAny_bind (thn h4 fun y s5 h5 => wpAny_bind (thn h5 fun _ s6 h6 => wpAny_pure (wpAny_pure ⟨rfl, h6⟩))))
def Keep0 (σ σ' : St) : Prop := ∀ (i : Nat) v, σ[i]? = some (some v) → σ'[i]? = some (some v)
theorem keep_one {σ : St} {x : Option V} : Keep0 (none :: σ) (x :: σ) := fun i v e => by
  cases i with
  | zero => cases e
  | succ i => exact e
section
variable {X : Cx} {pins : List (Addr × Obj)} {σ : St} {H : Hp} {s : Shared} {vs : List Str} {sc : Scope} {tg elt iter : Expr} {ifs : List Expr} {pos : Pos} {g : TG} {tt : TT} {te : TE}
def CompW (vs : List Str) (g : TG) (tt : TT) (te : TE) (σ : St) (J : It) (H : Hp) (Fin : List V → Hp → Prop) : Prop :=
  ∃ W : Nat → Nat → List V → Hp → Prop, (∃ m, W 0 m [] H) ∧ ∀ i m ys H, W i m ys H →
    (J.stop i H ∧ ys.length ≤ sizeLine ∧ Fin ys H) ∨ (J.go i H ∧ ys.length < sizeLine ∧ ∃ N : List V → Hp → Prop, (∀ zs H', N zs H' → ∃ m', m' < m ∧ W (i + 1) m' zs H') ∧
      ∀ v H', J.yld i H v H' → g v (compSt vs σ) H' fun σ2 H2 => Keep0 (compSt vs σ) σ2 ∧ tt σ2 H2 fun b H3 => if b = true then te σ2 H3 fun y H4 => N (ys ++ [y]) H4 else N ys H3)
theorem comp_block {J : It} {fp : List Addr} {it : Addr} {tn : Nat → Heap → Prop} {E : Value → Shared → Prop} {RR : Value → Addr → Result → Shared → Prop} {Fin : List V → Hp → Prop}
    (S : CompScope X vs sc) (hc : X.calm = true) (hg : ∀ C s H fp, PG (cxC X vs sc C s H fp) tg g) (ht : ∀ C s H fp, PTs (cxC X vs sc C s H fp) ifs tt) (he : ∀ C s H fp, PE (cxC X vs sc C s H fp) elt te)
    (I : Inv X pins σ H s) (T : Turn X.prog X.w X.K tg J fp it tn) (st : tn 0 s.heap) (hf : ∀ b ∈ fp, FpOk X pins H b) (hW : CompW vs g tt te σ J H Fin)
    (hRR : ∀ D C s' H' ys m', Inv X pins σ (upd H' D (.lst ys)) s' → H' D = none → FpOk X pins (upd H' D (.lst ys)) C → s'.heap.Ns C m' → Fin ys H' → RR (.ref D) C (.ok .next) s') :
    wpAny (model X.prog X.w) X.A (newList []) (fun acc s3 => wpAny (model X.prog X.w) X.A (newFunctionEnv sc X.env.globals (clOf X.env sc) [] X.env.qual none .none (some X.env)) (fun cenv s4 =>
      codeAny (model X.prog X.w) X.A (.compStart (.ListComp elt [⟨tg, iter, ifs, 0⟩] sc pos) 0 (.ref it) acc { cenv with scope := relabel sc X.env }) (RR acc cenv.locals) s4) E s3) E s := by
  obtain ⟨W, ⟨m0, w0⟩, turn⟩ := hW
  refine wpAny_newObj_type (wpAny_newFunctionEnv S.cell (by intro y hy; simp at hy) (fun h1 hns hsb => ?_) S.kind)
  dsimp only at hns hsb ⊢
  generalize hH2 : s.heap.push { cls := .type "list", dict := none, data := .seq ([] : List Value).toArray } = H2 at hns hsb ⊢
  have hC : H2.objs.size = s.heap.objs.size + 1 := by rw [← hH2, Heap.size_push]
  generalize hCe : H2.objs.size = C at hns hsb hC ⊢
  generalize hDe : s.heap.objs.size = D at hC ⊢
  have hDC : D ≠ C := by omega
  have below : ∀ b o, s.heap.get? b = some o → b ≠ D ∧ b ≠ C := fun b o e => by
    have z : b < s.heap.objs.size := Heap.lt_size e
    rw [hDe] at z
    exact ⟨Nat.ne_of_lt z, Nat.ne_of_lt (by rw [hC]; exact Nat.lt_succ_of_lt z)⟩
  have old : ∀ b o, s.heap.get? b = some o → h1.get? b = some o := fun b o e => hsb.extBut b o (below b o e).2 (Heap.get?_push_of_some _ (hH2 ▸ Heap.get?_push_of_some _ e))
  have hD1 : h1.get? D = some { cls := .type "list", data := .seq ([] : List Value).toArray } :=
    hsb.extBut _ _ hDC (Heap.get?_push_of_some _ (by rw [← hH2, ← hDe]; exact Heap.get?_push_size _ rfl))
  have hobj : ∀ b ∈ fp, ∃ o, s.heap.get? b = some o := fun b hb => let ⟨o, e, _⟩ := T.obj 0 _ st b hb; ⟨o, e⟩
  have fne : ∀ b ∈ fp, b ≠ D ∧ b ≠ C := fun b hb => let ⟨o, e⟩ := hobj b hb; below b o e
  -- the frame facts of D and C, from the state ahead
  have fD : ∀ H', H' D = none → FpOk X pins H' D := fun H' n => I.fpOk (by omega) n
  have fC : ∀ H', H' C = none → FpOk X pins H' C := fun H' n => I.fpOk (by omega) n
  have Dpn : ∀ p ∈ X.pn ++ pins, p.1 ≠ D := fun p hp => (below _ _ (I.pin p hp).1).1
  have cells : ∀ y c, (clOf X.env sc).lookup y = some c → c ≠ D := fun y c e => by
    have e' := cl_sound sc.names [] (fun y c e => by simp at e) y c e
    obtain ⟨v, z⟩ := I.cell y c e'
    have z' : c < s.heap.objs.size := z.lt
    rw [hDe] at z'
    exact Nat.ne_of_lt z'
  have nfs : ∀ b, b ∈ frs X.stack → ∃ o, s.heap.get? b = some o := fun b hb => let ⟨_, o, ho, _⟩ := I.stack.mem hb; ⟨o, ho⟩
  have Dfs : D ∉ frs X.stack := fun z => let ⟨o, e⟩ := nfs D z; (below _ _ e).1 rfl
  -- an iterator's objects, in the block
  have fpC : ∀ {pl : List (Addr × Obj)} {H' : Hp}, (∀ p ∈ pl, p.1 = D) → (∀ b ∈ fp, H' b = none) → ∀ b ∈ fp, FpOk (cxC X vs sc C s H fp) (pins ++ pl) H' b := fun {pl H'} hpl hn b hb => by
    obtain ⟨_, q1, q2, q3, q4, q5⟩ := hf b hb
    refine ⟨hn b hb, (fne b hb).2, fun z => ?_, .inl hb, fun y c e => q4 y c (cl_sound sc.names [] (fun y c e => by simp at e) y c e), fun p hp => ?_⟩
    · rcases List.mem_cons.mp (I.stkSub b z) with y | y
      · exact q1 y
      · exact q2 y
    · rcases List.mem_append.mp hp with z | z
      · exact q5 p (List.mem_append_left _ z)
      · rcases List.mem_append.mp z with y | y
        · exact q5 p (List.mem_append_right _ y)
        · rw [hpl p y]; exact Ne.symm (fne b hb).1
  have loop : ∀ s3 : Shared, s3 = { s with heap := h1, toks := s.toks + ([] : List (Str × Value)).length } →
      codeAny (model X.prog X.w) X.A (.compLoop (.ListComp elt [⟨tg, iter, ifs, 0⟩] sc pos) 0 (.ref it) (.ref D) (compEnvC sc (clOf X.env sc) C X.env)) (RR (.ref D) C) s3 := by
    rintro s3 rfl
    have I0 : Inv (cxC X vs sc C s H fp) pins (compSt vs σ) H { s with heap := h1, toks := s.toks + ([] : List (Str × Value)).length } := comp_inv S I hf hobj old hns (by omega)
    refine comp_loop (fun n s' => ∃ i ys its no H', Inv (cxC X vs sc C s H fp) pins (compSt vs σ) H' s' ∧ tn i s'.heap ∧ (∀ b ∈ fp, H' b = none) ∧ H' D = none ∧
      s'.heap.get? D = some { cls := .type "list", data := .seq its.toArray no } ∧ Vals ys its ∧ W i n ys H') ?_ m0
      ⟨0, [], [], 0, H, I0, T.keep 0 _ _ st fun b hb o e => old b o e, fun b hb => (hf b hb).1, I.hok.fresh (by omega), hD1, .nil, w0⟩
    rintro n s' ⟨i, ys, its, no, H', I1, st1, fr1, dn1, dl1, va1, w1⟩
    -- the list is pinned through the turn
    have pinD : Inv (cxC X vs sc C s H fp) (pins ++ [(D, { cls := .type "list", data := .seq its.toArray no })]) (compSt vs σ) H' s' := I1.pins_of fun p hp => by
      rcases List.mem_append.mp hp with z | z
      · exact I1.pin p (List.mem_append_right _ z)
      · have e : p = (D, { cls := .type "list", data := .seq its.toArray no }) := by simpa using z
        subst e
        exact ⟨dl1, dn1, hDC, Dfs, fun v z => by have z' : Data.seq _ _ = Data.cell v := z; cases z'⟩
    have onlyD : ∀ p ∈ [((D, { cls := .type "list", data := .seq its.toArray no }) : Addr × Obj)], p.1 = D := fun p hp => by
      have e : p = (D, { cls := .type "list", data := .seq its.toArray no }) := by simpa using hp
      rw [e]
    rcases turn i n ys H' w1 with ⟨stop, hz, fin⟩ | ⟨go, hz, N, hN, step⟩
    · refine thn (T.done (cxC X vs sc C s H fp) rfl rfl rfl hc i _ s' _ H' (fun _ _ => False) pinD (fpC onlyD fr1) st1 stop) fun r s4 ⟨hr, I4⟩ => ?_
      subst hr
      have d4 : s4.heap.get? D = some { cls := .type "list", data := .seq its.toArray no } := (I4.pin (D, _) (List.mem_append_right _ (List.mem_append_right _ (List.mem_cons_self ..)))).1
      have Io : Inv X pins σ H' s4 := I.call' (H' := H') (ch := fp) I4.os I4.base I4.hok I4.bare fun b hb => by
        obtain ⟨_, q1, _, q3, q4, q5⟩ := hf b hb
        exact ⟨q3, q1, q4, q5⟩
      obtain ⟨_, a1, _, a3, a4, a5⟩ := fD H' dn1
      have Ia := Io.adopt hz va1 dn1 d4 (Nat.le_trans I.sz (by omega)) a1 a4 a5
      obtain ⟨m4, ns4, _⟩ := I4.loc
      refine hRR D C s4 H' ys m4 Ia dn1 (fC _ ?_) ns4 fin
      rw [upd_ne (Ne.symm hDC)]
      exact I4.free
    · refine thn (T.item (cxC X vs sc C s H fp) rfl rfl rfl hc i _ s' _ H' (fun _ _ => False) pinD (fpC onlyD fr1) st1 go) fun r s4 ⟨u, hr, h4⟩ => ?_
      subst hr
      refine thn h4 fun _ s5 ⟨x, H5, I5, r5, y5, st5, fr5⟩ => ?_
      have I5' := I5.pinned (fpC onlyD fr5) (T.obj _ _ st5)
      refine thn (hg C s H fp _ s5 _ H5 x u _ I5' r5 (step x H5 y5)) fun _ s6 ⟨σ6, H6, I6, k6, q6⟩ => ?_
      refine thn (ht C s H fp _ s6 σ6 H6 _ I6 q6) fun ok s7 ⟨H7, I7, q7⟩ => ?_
      -- back at the head of the loop
      have len6 : (compSt vs σ).length = σ6.length := by rw [I1.len, I6.len]
      have pinned : ∀ {H8 : Hp} {s8 : Shared}, Inv (cxC X vs sc C s H fp) (pins ++ [(D, { cls := .type "list", data := .seq its.toArray no })] ++ pinsAt fp s5.heap) σ6 H8 s8 →
          tn (i + 1) s8.heap ∧ (∀ b ∈ fp, H8 b = none) ∧ H8 D = none ∧ s8.heap.get? D = some { cls := .type "list", data := .seq its.toArray no } := fun {H8 s8} I8 => by
        refine ⟨T.keep _ _ _ st5 fun b hb o e => (I8.pin (b, o) (List.mem_append_right _ (List.mem_append_right _ (mem_pinsAt hb e)))).1, fun b hb => ?_, ?_, ?_⟩
        · obtain ⟨o, e, d⟩ := T.obj _ _ st5 b hb
          exact (I8.pin (b, o) (List.mem_append_right _ (List.mem_append_right _ (mem_pinsAt hb e)))).2.1
        · exact (I8.pin (D, _) (List.mem_append_right _ (List.mem_append_left _ (List.mem_append_right _ (List.mem_cons_self ..))))).2.1
        · exact (I8.pin (D, _) (List.mem_append_right _ (List.mem_append_left _ (List.mem_append_right _ (List.mem_cons_self ..))))).1
      cases ok with
      | false =>
        rw [if_neg (by decide)] at q7 ⊢
        obtain ⟨m', hm, w7⟩ := hN _ _ q7
        obtain ⟨a1, a2, a3, a4⟩ := pinned I7
        exact ⟨m', hm, i + 1, ys, its, no, H7, (I7.unpinned.unpinned).weak len6 k6, a1, a2, a3, a4, va1, w7⟩
      | true =>
        rw [if_pos rfl] at q7 ⊢
        refine thn (he C s H fp _ s7 σ6 H7 _ I7 q7) fun yv s8 ⟨y, H8, I8, r8, n8⟩ => ?_
        obtain ⟨m', hm, w8⟩ := hN _ _ n8
        obtain ⟨a1, a2, a3, a4⟩ := pinned I8
        have szI : its.toArray.size ≤ sizeLine := by
          have := va1.length
          rw [List.size_toArray]
          omega
        refine wpAny_list_append_plain ⟨no, a4⟩ (fun h' pl sb => ?_) szI
        obtain ⟨no', pl'⟩ := pl
        have I9 : Inv (cxC X vs sc C s H fp) pins σ6 H8 { s8 with heap := h' } := (I8.unpinned.unpinned).turned (t' := s8.toks) (it := D) (fun b o hb e => (sb.2 b hb).trans e) a3 hDC (.inr (Nat.le_of_eq hDe)) cells Dpn
        refine ⟨m', hm, i + 1, ys ++ [y], its ++ [yv], no', H8, I9.weak len6 k6, T.keep _ _ _ a1 fun b hb o e => (sb.2 b (fne b hb).1).trans e, a2, a3, ?_, va1.append (.cons r8 .nil), w8⟩
        rw [pl']
        simp
  exact codeAny_compStart_list (loop _ rfl) (T.self _ 0 _ _ _ (T.keep 0 _ _ st fun b hb o e => old b o e) (loop _ rfl))
def tComp (vs : List Str) (wi : TI) (g : TG) (tt : TT) (te : TE) : TE := fun σ H Q => wi σ H fun J H1 => CompW vs g tt te σ J H1 fun ys H' => ∀ p, H' p = none → Q (.ref p) (upd H' p (.lst ys))
theorem CompScope.clos {pins : List (Addr × Obj)} {σ : St} {H : Hp} {s : Shared} (S : CompScope X vs sc) (I : Inv X pins σ H s) : closureFor sc X.env = pure (clOf X.env sc) :=
  closure_is fun y hy hk => I.ok.has y.1 (S.free y hy hk)
theorem pe_comp {wi : TI} (S : CompScope X vs sc) (hc : X.calm = true) (hi : PI X tg iter wi) (hg : ∀ C s H fp, PG (cxC X vs sc C s H fp) tg g) (ht : ∀ C s H fp, PTs (cxC X vs sc C s H fp) ifs tt)
    (he : ∀ C s H fp, PE (cxC X vs sc C s H fp) elt te) (hs : ∀ x, foldedSetIterable iter X.env x = pure x := by intro _; rfl) : PE X (.ListComp elt [⟨tg, iter, ifs, 0⟩] sc pos) (tComp vs wi g tt te) := by
  intro pins s σ H Q I h
  rw [eval_ListComp]
  refine wpAny_comprehension_free (use := none) rfl hs (S.clos I) S.kind S.locs ?_
  refine thn (hi pins s σ H _ I h) fun v s1 h1 => thn h1 fun itv s2 h2 => ?_
  obtain ⟨it, fp, tn, J, H2, e, I2, T, st2, f2, hW⟩ := h2
  subst e
  refine comp_block (RR := fun acc C => compPost (model X.prog X.w) X.A X.xe none (EP X pins σ Q) acc C) S hc hg ht he I2 T st2 f2 hW fun D C s' H' ys m' I' hD fC ns fin => ?_
  obtain ⟨c0, c1, c2, c3, c4, c5⟩ := fC
  refine ⟨m', ns, fun h' sb => ⟨.ref D, _, ?_, rfl, fin D hD⟩⟩
  exact I'.turned (t' := s'.toks) (it := C) (fun b o hb e => (sb.2 b hb).trans e) c0 c1 c3 c4 c5
theorem pg_own {x : Str} {p : Pos} (S : CompScope X [x] sc) (hx : sc.names.lookup x = some .local) : ∀ C s H fp, PG (cxC X [x] sc C s H fp) (.Name x p) (gName 0) := fun C s H fp =>
  pg_name S.nd rfl (.inl (lookup_relabel_local hx)) (.inr (lookup_relabel_local hx))
theorem pe_comp1 {wi : TI} {x : Str} {p : Pos} (S : CompScope X [x] sc) (hc : X.calm = true) (hx : sc.names.lookup x = some .local) (hi : PI X (.Name x p) iter wi) (ht : ∀ C s H fp, PTs (cxC X [x] sc C s H fp) ifs tt)
    (he : ∀ C s H fp, PE (cxC X [x] sc C s H fp) elt te) (hs : ∀ x, foldedSetIterable iter X.env x = pure x := by intro _; rfl) : PE X (.ListComp elt [⟨.Name x p, iter, ifs, 0⟩] sc pos) (tComp [x] wi (gName 0) tt te) :=
  pe_comp S hc hi (pg_own S hx) ht he hs
theorem ps_setC {wi : TI} {j : Nat} {y : Str} {py spos : Pos} (S : CompScope X vs sc) (hc : X.calm = true) (hN : X.N.Nodup) (hj : X.N[j]? = some y) (hy : X.env.scope.names.lookup y = some .local) (hi : PI X tg iter wi) (hg : ∀ C s H fp, PG (cxC X vs sc C s H fp) tg g) (ht : ∀ C s H fp, PTs (cxC X vs sc C s H fp) ifs tt)
    (he : ∀ C s H fp, PE (cxC X vs sc C s H fp) elt te) (hsw : swapsWith (.ListComp elt [⟨tg, iter, ifs, 0⟩] sc pos) (some (.Name y py)) spos.line X.env = pure true := by rfl) (hs : ∀ x, foldedSetIterable iter X.env x = pure x := by intro _; rfl) :
    PS X (.Assign [.Name y py] (.ListComp elt [⟨tg, iter, ifs, 0⟩] sc pos) spos) (tAsg (tComp vs wi g tt te) (gName j)) := by
  intro pins s σ H D I h
  rw [exec_Assign_Name_used _ _ _ _ hsw]
  refine wpAny_bind (wpAny_standAt (wpAny_bind ?_))
  show wpAny _ X.A (do let _ ← comprehension (.ListComp elt [⟨tg, iter, ifs, 0⟩] sc pos) sc X.env _ (newList []) false (eval iter X.env) (some (assign (.Name y py) X.env))) _ _ s
  refine wpAny_bind (wpAny_mono (wpAny_comprehension_free (use := some (assign (.Name y py) X.env)) (Q := fun _ s' => SP X pins D .next s') rfl hs (S.clos I) S.kind S.locs ?_) (fun _ s' hq => wpAny_pure (wpAny_pure hq)) fun _ _ e => e)
  refine thn (hi pins s σ H _ I h) fun v s1 h1 => thn h1 fun itv s2 h2 => ?_
  obtain ⟨it, fp, tn, J, H2, e, I2, T, st2, f2, hW⟩ := h2
  subst e
  refine comp_block (RR := fun acc C => compPost (model X.prog X.w) X.A X.xe (some (assign (.Name y py) X.env)) (fun _ s' => SP X pins D .next s') acc C) S hc hg ht he I2 T st2 f2 hW fun D' C s' H' ys m' I' hD fC ns fin => ?_
  obtain ⟨c0, c1, c2, c3, c4, c5⟩ := fC
  show wpAny _ X.A (assign (.Name y py) X.env (.ref D')) _ _ _
  refine wpAny_assign_Name (store_ok2 (v := .ref D') I' hN hj (.inl hy) (show RelV (.ref D') (.ref D') from rfl) (fun s3 I3 ⟨a, sb, ha⟩ => ?_) (.inr hy))
  have hac : a ≠ C := by
    rcases ha with z | z
    · rw [z]; exact Ne.symm c1
    · exact c4 y a z
  refine ⟨m', ns.sameBut sb (Ne.symm hac), fun h' sb' => ⟨_, _, I3.turned (t' := s3.toks) (it := C) (fun b o hb e => (sb'.2 b hb).trans e) c0 c1 c3 c4 c5, fin D' hD⟩⟩
theorem ps_setC1 {wi : TI} {j : Nat} {x y : Str} {p py spos : Pos} (S : CompScope X [x] sc) (hc : X.calm = true) (hx : sc.names.lookup x = some .local) (hN : X.N.Nodup) (hj : X.N[j]? = some y) (hy : X.env.scope.names.lookup y = some .local) (hi : PI X (.Name x p) iter wi)
    (ht : ∀ C s H fp, PTs (cxC X [x] sc C s H fp) ifs tt) (he : ∀ C s H fp, PE (cxC X [x] sc C s H fp) elt te)
    (hsw : swapsWith (.ListComp elt [⟨.Name x p, iter, ifs, 0⟩] sc pos) (some (.Name y py)) spos.line X.env = pure true := by rfl) (hs : ∀ x, foldedSetIterable iter X.env x = pure x := by intro _; rfl) :
    PS X (.Assign [.Name y py] (.ListComp elt [⟨.Name x p, iter, ifs, 0⟩] sc pos) spos) (tAsg (tComp [x] wi (gName 0) tt te) (gName j)) := ps_setC S hc hN hj hy hi (pg_own S hx) ht he hsw hs
end
section
variable {K : PySem.W.Frag} {a : Addr} {xs : List V} {vs : List Str} {g : TG} {tt : TT} {te : TE} {σ : St} {H : Hp} {Fin : List V → Hp → Prop}
theorem comp_tup (Pv : Nat → List V → Hp → Prop) (hz : xs.length ≤ sizeLine) (h0 : Pv 0 [] H) (hl : ∀ i ys H, i ≤ xs.length → Pv i ys H → SqT K H a xs ∧ ys.length ≤ i)
    (hs : ∀ i v ys H, xs[i]? = some v → Pv i ys H → g v (compSt vs σ) H fun σ2 H2 => Keep0 (compSt vs σ) σ2 ∧ tt σ2 H2 fun b H3 => if b = true then te σ2 H3 fun y H4 => Pv (i + 1) (ys ++ [y]) H4 else Pv (i + 1) ys H3)
    (hd : ∀ ys H, Pv xs.length ys H → Fin ys H) : CompW vs g tt te σ (Itt K a) H Fin := by
  refine ⟨fun i m ys H => m = xs.length - i ∧ i ≤ xs.length ∧ Pv i ys H, ⟨xs.length, by simp, Nat.zero_le _, h0⟩, ?_⟩
  rintro i m ys H ⟨rfl, hi, p⟩
  obtain ⟨q, hy⟩ := hl i ys H hi p
  by_cases hlt : i < xs.length
  · refine .inr ⟨⟨xs, xs[i], q, by simp [hlt]⟩, by omega, Pv (i + 1), fun zs H' p' => ⟨xs.length - (i + 1), by omega, rfl, hlt, p'⟩, fun v H' y => ?_⟩
    obtain ⟨e, y⟩ := y
    subst e
    exact hs i v ys _ (y xs q) p
  · have e : i = xs.length := by omega
    subst e
    exact .inl ⟨⟨xs, q, Nat.le_refl _⟩, by omega, hd ys H p⟩
theorem comp_list (Pv : Nat → List V → Hp → Prop) (hz : xs.length ≤ sizeLine) (h0 : Pv 0 [] H) (hl : ∀ i ys H, i ≤ xs.length → Pv i ys H → SqL K H a xs ∧ ys.length ≤ i)
    (hs : ∀ i v ys H, xs[i]? = some v → Pv i ys H → g v (compSt vs σ) H fun σ2 H2 => Keep0 (compSt vs σ) σ2 ∧ tt σ2 H2 fun b H3 => if b = true then te σ2 H3 fun y H4 => Pv (i + 1) (ys ++ [y]) H4 else Pv (i + 1) ys H3)
    (hd : ∀ ys H, Pv xs.length ys H → Fin ys H) : CompW vs g tt te σ (Itl K a) H Fin := by
  refine ⟨fun i m ys H => m = xs.length - i ∧ i ≤ xs.length ∧ Pv i ys H, ⟨xs.length, by simp, Nat.zero_le _, h0⟩, ?_⟩
  rintro i m ys H ⟨rfl, hi, p⟩
  obtain ⟨q, hy⟩ := hl i ys H hi p
  by_cases hlt : i < xs.length
  · refine .inr ⟨⟨xs, xs[i], q, by simp [hlt]⟩, by omega, Pv (i + 1), fun zs H' p' => ⟨xs.length - (i + 1), by omega, rfl, hlt, p'⟩, fun v H' y => ?_⟩
    obtain ⟨e, y⟩ := y
    subst e
    exact hs i v ys _ (y xs q) p
  · have e : i = xs.length := by omega
    subst e
    exact .inl ⟨⟨xs, q, Nat.le_refl _⟩, by omega, hd ys H p⟩
theorem comp_range {lo : Int} {n : Nat} (Pv : Nat → List V → Hp → Prop) (hz : n ≤ sizeLine) (h0 : Pv 0 [] H) (hl : ∀ i ys H, i ≤ n → Pv i ys H → ys.length ≤ i)
    (hs : ∀ i ys H, i < n → Pv i ys H → g (.int (lo + i)) (compSt vs σ) H fun σ2 H2 => Keep0 (compSt vs σ) σ2 ∧ tt σ2 H2 fun b H3 => if b = true then te σ2 H3 fun y H4 => Pv (i + 1) (ys ++ [y]) H4 else Pv (i + 1) ys H3)
    (hd : ∀ ys H, Pv n ys H → Fin ys H) : CompW vs g tt te σ (Itr lo n) H Fin := by
  refine ⟨fun i m ys H => m = n - i ∧ i ≤ n ∧ Pv i ys H, ⟨n, by simp, Nat.zero_le _, h0⟩, ?_⟩
  rintro i m ys H ⟨rfl, hi, p⟩
  have hy := hl i ys H hi p
  by_cases hlt : i < n
  · refine .inr ⟨hlt, by omega, Pv (i + 1), fun zs H' p' => ⟨n - (i + 1), by omega, rfl, hlt, p'⟩, fun v H' y => ?_⟩
    obtain ⟨e, y⟩ := y
    subst e y
    exact hs i ys _ hlt p
  · have e : i = n := by omega
    subst e
    exact .inl ⟨Nat.le_refl _, by omega, hd ys H p⟩
theorem map_tup {x : Str} {xs : List V} {f : V → V} (hz : xs.length ≤ sizeLine) (hq : SqT K H a xs) (hs : ∀ v (Q : VK), v ∈ xs → Q (f v) H → te (some v :: σ) H Q) (hd : Fin (xs.map f) H) :
    CompW [x] (gName 0) tYes te σ (Itt K a) H Fin := by
  refine comp_tup (fun i ys H' => H' = H ∧ ys = (xs.take i).map f) hz ⟨rfl, rfl⟩ (fun i ys H' hi ⟨e, ey⟩ => ?_) (fun i v ys H' hv ⟨e, ey⟩ => ⟨keep_one, ?_⟩) (fun ys H' ⟨e, ey⟩ => ?_)
  · subst e ey
    exact ⟨hq, by simp; omega⟩
  · subst e ey
    refine yes_of (hs v _ (List.mem_of_getElem? hv) ⟨rfl, ?_⟩)
    rw [List.take_add_one, hv, List.map_append]
    rfl
  · subst e ey
    rw [List.take_length]
    exact hd
end
end L2
namespace L2
open PySem PySem.Spec PyProof.Rows
inductive Dt where
  | non | int (i : Int) | str (x : Str) | lst (ds : List Dt) | tup (ds : List Dt)
inductive Rep (K : PySem.W.Frag) (H : Hp) : Nat → Dt → V → Prop where
  | non (n : Nat) : Rep K H n .non .non
  | int (n : Nat) (i : Int) : Rep K H n (.int i) (.int i)
  | str (n : Nat) (x : Str) : Rep K H n (.str x) (.str x)
  | lst {n : Nat} {ds : List Dt} {a : Addr} {xs : List V} (h : SqL K H a xs) (hl : xs.length = ds.length) (hi : ∀ (i : Nat) d v, ds[i]? = some d → xs[i]? = some v → Rep K H n d v) : Rep K H (n + 1) (.lst ds) (.ref a)
  | tup {n : Nat} {ds : List Dt} {a : Addr} {xs : List V} (h : SqT K H a xs) (hl : xs.length = ds.length) (hi : ∀ (i : Nat) d v, ds[i]? = some d → xs[i]? = some v → Rep K H n d v) : Rep K H (n + 1) (.tup ds) (.ref a)
theorem ext_items {α : Type} {xs ys : List α} (hl : xs.length = ys.length) (h : ∀ (i : Nat) a b, xs[i]? = some a → ys[i]? = some b → a = b) : xs = ys := by
  refine List.ext_getElem hl fun i h1 h2 => ?_
  exact h i _ _ (by simp [h1]) (by simp [h2])
theorem Same.sqt {K : PySem.W.Frag} {H H' : Hp} {a : Addr} {xs : List V} (e : Same H H') (h : SqT K H a xs) : SqT K H' a xs := by
  rcases h with (h | ⟨o, h⟩) | h
  · exact .inl (.inl (e _ _ h))
  · exact .inl (.inr ⟨o, e _ _ h⟩)
  · exact .inr h
theorem Rep.same {K : PySem.W.Frag} {H H' : Hp} (e : Same H H') {n : Nat} {d : Dt} {v : V} (r : Rep K H n d v) : Rep K H' n d v := by
  induction r with
  | non n => exact .non n
  | int n i => exact .int n i
  | str n x => exact .str n x
  | lst h hl _ ih => exact .lst (e.seq h) hl ih
  | tup h hl _ ih => exact .tup (e.sqt h) hl ih
section
variable {X : Cx} {pins : List (Addr × Obj)} {σ : St} {H : Hp} {s : Shared}
theorem noSqLT {a : Addr} {xs ys : List V} (I : Inv X pins σ H s) (h : SqL X.K H a xs) (h' : SqT X.K H a ys) : False := by
  obtain ⟨_, _, p, _⟩ := I.list h
  obtain ⟨_, _, q, _⟩ := I.tuple h'
  exact SeqAt.ne_of_list_tuple p.isList (show s.heap.IsTuple a _ from q) rfl
theorem rep_inj (I : Inv X pins σ H s) : ∀ (n : Nat) {d d' : Dt} {v : V}, Rep X.K H n d v → Rep X.K H n d' v → d = d' := by
  intro n
  induction n with
  | zero =>
    intro d d' v r r'
    cases r <;> cases r' <;> rfl
  | succ n ih =>
    intro d d' v r r'
    cases r with
    | non => cases r'; rfl
    | int => cases r'; rfl
    | str => cases r'; rfl
    | @lst _ ds a xs h hl hi =>
      cases r' with
      | @lst _ ds' _ xs' h' hl' hi' =>
        have e := I.list_inj h h'
        subst e
        refine congrArg Dt.lst (ext_items (hl.symm.trans hl') fun i d d' e1 e2 => ?_)
        have hlt : i < xs.length := by rw [hl]; exact (List.getElem?_eq_some_iff.mp e1).1
        exact ih (hi i d xs[i] e1 (List.getElem?_eq_getElem hlt)) (hi' i d' xs[i] e2 (List.getElem?_eq_getElem hlt))
      | tup h' _ _ => exact (noSqLT I h h').elim
    | @tup _ ds a xs h hl hi =>
      cases r' with
      | lst h' _ _ => exact (noSqLT I h' h).elim
      | @tup _ ds' _ xs' h' hl' hi' =>
        have e := I.tuple_inj h h'
        subst e
        refine congrArg Dt.tup (ext_items (hl.symm.trans hl') fun i d d' e1 e2 => ?_)
        have hlt : i < xs.length := by rw [hl]; exact (List.getElem?_eq_some_iff.mp e1).1
        exact ih (hi i d xs[i] e1 (List.getElem?_eq_getElem hlt)) (hi' i d' xs[i] e2 (List.getElem?_eq_getElem hlt))
theorem items_all {ds ds' : List Dt} (hl : ds.length = ds'.length) {e : Nat → Bool} {N : Nat} (hN : N = ds.length) (he : ∀ (j : Nat) d d', ds[j]? = some d → ds'[j]? = some d' → (e j = true ↔ d = d')) : ((List.range N).all e = true ↔ ds = ds') := by
  subst hN
  rw [List.all_eq_true]
  constructor
  · intro h
    refine ext_items hl fun i a b e1 e2 => ?_
    exact (he i a b e1 e2).mp (h i (List.mem_range.mpr (List.getElem?_eq_some_iff.mp e1).1))
  · intro h i hi
    have hi' := List.mem_range.mp hi
    subst h
    exact (he i ds[i] ds[i] (by simp [hi']) (by simp [hi'])).mpr rfl
theorem pick_items {P : Nat → Bool → Prop} (h : ∀ j, ∃ b, P j b) : ∃ e : Nat → Bool, ∀ j, P j (e j) := ⟨fun j => Classical.choose (h j), fun j => Classical.choose_spec (h j)⟩
theorem items_pick {A : Around} {its its' : List Value} {ds ds' : List Dt} (h1 : its.length = ds.length) (h2 : its'.length = ds'.length)
    (h : ∀ (j : Nat) u u' d d', its[j]? = some u → its'[j]? = some u' → ds[j]? = some d → ds'[j]? = some d' → ∃ b, SeqAt.EqAt A s u u' b ∧ (b = true ↔ d = d')) :
    ∃ e : Nat → Bool, (∀ j (g1 : j < its.toArray.size) (g2 : j < its'.toArray.size), SeqAt.EqAt A s its.toArray[j] its'.toArray[j] (e j)) ∧ ∀ (j : Nat) d d', ds[j]? = some d → ds'[j]? = some d' → (e j = true ↔ d = d') := by
  obtain ⟨e, he⟩ := pick_items (P := fun j b => (∀ u u', its[j]? = some u → its'[j]? = some u' → SeqAt.EqAt A s u u' b) ∧ ∀ d d', ds[j]? = some d → ds'[j]? = some d' → (b = true ↔ d = d')) fun j => by
    by_cases g : j < its.length ∧ j < its'.length
    · obtain ⟨b, h3, h4⟩ := h j its[j] its'[j] (ds[j]'(by omega)) (ds'[j]'(by omega)) (by simp [g.1]) (by simp [g.2]) (List.getElem?_eq_getElem _) (List.getElem?_eq_getElem _)
      refine ⟨b, fun u u' q q' => ?_, fun d d' q q' => ?_⟩
      · rw [List.getElem?_eq_getElem g.1] at q
        rw [List.getElem?_eq_getElem g.2] at q'
        cases q
        cases q'
        exact h3
      · rw [List.getElem?_eq_getElem (by omega)] at q
        rw [List.getElem?_eq_getElem (by omega)] at q'
        cases q
        cases q'
        exact h4
    · refine ⟨true, fun u u' q q' => absurd ⟨(List.getElem?_eq_some_iff.mp q).1, (List.getElem?_eq_some_iff.mp q').1⟩ g, fun d d' q q' => ?_⟩
      have q1 := (List.getElem?_eq_some_iff.mp q).1
      have q2 := (List.getElem?_eq_some_iff.mp q').1
      exact absurd ⟨by omega, by omega⟩ g
  refine ⟨e, fun j g1 g2 => ?_, fun j => (he j).2⟩
  simp only [List.size_toArray] at g1 g2
  exact (he j).1 _ _ (by simp [g1]) (by simp [g2])
theorem rc_rep (I : Inv X pins σ H s) {n : Nat} {A : Around} (hu : A.units < cLine) {d d' : Dt} {a a' : Addr} (r : Rep X.K H (n + 1) d (.ref a)) (r' : Rep X.K H (n + 1) d' (.ref a'))
    (ih : ∀ {d d' : Dt} {v v' : V} {u u' : Value}, Rep X.K H n d v → Rep X.K H n d' v' → RelV v u → RelV v' u' → ∃ b, SeqAt.EqAt A.in1 s u u' b ∧ (b = true ↔ d = d')) :
    ∃ b, SeqAt.RcAt A s (.ref a) (.ref a') b ∧ SeqAt.RcNeAt A s (.ref a) (.ref a') (!b) ∧ (b = true ↔ d = d') := by
  cases r with
  | @lst _ ds _ xs h hl hi =>
    obtain ⟨its, rv, p, _⟩ := I.list h
    have l1 := rv.length
    cases r' with
    | @lst _ ds' _ xs' h' hl' hi' =>
      obtain ⟨its', rv', p', _⟩ := I.list h'
      have l2 := rv'.length
      by_cases hs : ds.length = ds'.length
      · obtain ⟨e, e1, e2⟩ := items_pick (A := A.in1) (s := s) (its := its) (its' := its') (ds := ds) (ds' := ds') (by omega) (by omega) fun j u u' d d' q1 q2 q3 q4 => by
          have g1 := (List.getElem?_eq_some_iff.mp q3).1
          have g2 := (List.getElem?_eq_some_iff.mp q4).1
          have k1 : xs[j]? = some (xs[j]'(by omega)) := List.getElem?_eq_getElem _
          have k2 : xs'[j]? = some (xs'[j]'(by omega)) := List.getElem?_eq_getElem _
          obtain ⟨w1, z1, y1⟩ := rv.get k1
          obtain ⟨w2, z2, y2⟩ := rv'.get k2
          rw [q1] at z1
          rw [q2] at z2
          cases z1
          cases z2
          exact ih (hi j d _ q3 k1) (hi' j d' _ q4 k2) y1 y2
        have hz : its.toArray.size = its'.toArray.size := by simp only [List.size_toArray]; omega
        refine ⟨_, SeqAt.RcAt.lists p.isList p'.isList hz hu e1, SeqAt.RcNeAt.lists p.isList p'.isList hz hu e1, ?_⟩
        rw [items_all hs (by simp only [List.size_toArray]; omega) e2]
        exact ⟨fun z => by rw [z], fun z => by cases z; rfl⟩
      · have hz : (its.toArray.size != its'.toArray.size) = true := by
          rw [bne_iff_ne]
          simp only [List.size_toArray]
          omega
        refine ⟨false, SeqAt.RcAt.lists_lengths p.isList p'.isList hz hu, SeqAt.RcNeAt.lists_lengths p.isList p'.isList hz hu, ⟨fun z => (by cases z), fun z => ?_⟩⟩
        cases z
        exact absurd rfl hs
    | @tup _ ds' _ xs' h' hl' hi' =>
      obtain ⟨its', rv', p', _⟩ := I.tuple h'
      exact ⟨false, SeqAt.RcAt.list_tuple p.isList (show s.heap.IsTuple a' _ from p') hu, SeqAt.RcNeAt.list_tuple p.isList (show s.heap.IsTuple a' _ from p') hu, ⟨fun z => (by cases z), fun z => (by cases z)⟩⟩
  | @tup _ ds _ xs h hl hi =>
    obtain ⟨its, rv, p, _⟩ := I.tuple h
    have l1 := rv.length
    cases r' with
    | @lst _ ds' _ xs' h' hl' hi' =>
      obtain ⟨its', rv', p', _⟩ := I.list h'
      exact ⟨false, SeqAt.RcAt.tuple_list (show s.heap.IsTuple a _ from p) p'.isList hu, SeqAt.RcNeAt.tuple_list (show s.heap.IsTuple a _ from p) p'.isList hu, ⟨fun z => (by cases z), fun z => (by cases z)⟩⟩
    | @tup _ ds' _ xs' h' hl' hi' =>
      obtain ⟨its', rv', p', _⟩ := I.tuple h'
      have l2 := rv'.length
      obtain ⟨e, e1, e2⟩ := items_pick (A := A.in1) (s := s) (its := its) (its' := its') (ds := ds) (ds' := ds') (by omega) (by omega) fun j u u' d d' q1 q2 q3 q4 => by
          have g1 := (List.getElem?_eq_some_iff.mp q3).1
          have g2 := (List.getElem?_eq_some_iff.mp q4).1
          have k1 : xs[j]? = some (xs[j]'(by omega)) := List.getElem?_eq_getElem _
          have k2 : xs'[j]? = some (xs'[j]'(by omega)) := List.getElem?_eq_getElem _
          obtain ⟨w1, z1, y1⟩ := rv.get k1
          obtain ⟨w2, z2, y2⟩ := rv'.get k2
          rw [q1] at z1
          rw [q2] at z2
          cases z1
          cases z2
          exact ih (hi j d _ q3 k1) (hi' j d' _ q4 k2) y1 y2
      refine ⟨_, SeqAt.RcAt.tuples (show s.heap.IsTuple a _ from p) (show s.heap.IsTuple a' _ from p') hu e1, SeqAt.RcNeAt.tuples (show s.heap.IsTuple a _ from p) (show s.heap.IsTuple a' _ from p') hu e1, ?_⟩
      by_cases hs : ds.length = ds'.length
      · have hz : (its.toArray.size == its'.toArray.size) = true := by
          rw [beq_iff_eq]
          simp only [List.size_toArray]
          omega
        rw [hz, Bool.and_true, items_all hs (by simp only [List.size_toArray]; omega) e2]
        exact ⟨fun z => by rw [z], fun z => by cases z; rfl⟩
      · have hz : (its.toArray.size == its'.toArray.size) = false := by
          rw [beq_eq_false_iff_ne]
          simp only [List.size_toArray]
          omega
        rw [hz, Bool.and_false]
        refine ⟨fun z => (by cases z), fun z => ?_⟩
        cases z
        exact absurd rfl hs
theorem eq_flat {n m : Nat} {d d' : Dt} {v v' : V} (r : Rep X.K H n d v) (r' : Rep X.K H m d' v') (f : flatV v = true) (f' : flatV v' = true) : (eqV v v' = true ↔ d = d') := by
  cases r <;> first | (cases f; done) | skip
  all_goals (cases r' <;> first | (cases f'; done) | skip)
  all_goals first | exact ⟨fun _ => rfl, fun _ => rfl⟩ | exact ⟨fun z => Bool.noConfusion z, fun z => by cases z⟩ | exact ⟨fun z => congrArg Dt.int (eq_of_beq z), fun z => by injection z with z; exact beq_iff_eq.mpr z⟩ | exact ⟨fun z => congrArg Dt.str (eq_of_beq z), fun z => by injection z with z; exact beq_iff_eq.mpr z⟩
theorem eq_rep (I : Inv X pins σ H s) : ∀ (n : Nat) {A : Around}, A.units + n < cLine → ∀ {d d' : Dt} {v v' : V} {u u' : Value}, Rep X.K H n d v → Rep X.K H n d' v' → RelV v u → RelV v' u' → ∃ b, SeqAt.EqAt A s u u' b ∧ (b = true ↔ d = d') := by
  intro n
  induction n with
  | zero =>
    intro A hu d d' v v' u u' r r' q q'
    have f : flatV v = true := by cases r <;> rfl
    have f' : flatV v' = true := by cases r' <;> rfl
    exact ⟨_, eqAt_V q q' f f', eq_flat r r' f f'⟩
  | succ n ih =>
    intro A hu d d' v v' u u' r r' q q'
    by_cases f : flatV v = true
    · by_cases f' : flatV v' = true
      · exact ⟨_, eqAt_V q q' f f', eq_flat r r' f f'⟩
      · refine ⟨false, ?_, ⟨fun z => (by cases z), fun z => ?_⟩⟩
        · cases r' with
          | non => exact absurd rfl f'
          | int => exact absurd rfl f'
          | str => exact absurd rfl f'
          | @lst _ ds a xs h hl hi =>
            cases q'
            obtain ⟨its, _, p, _⟩ := I.list h
            cases r with
            | non => cases q; exact SeqAt.EqAt.none_list p.isList (by omega)
            | int _ i => obtain ⟨t, rfl⟩ := q; exact SeqAt.EqAt.int_list i t p.isList (by omega)
            | str _ x => obtain ⟨t, rfl⟩ := q; exact SeqAt.EqAt.str_list x t p.isList (by omega)
            | lst _ _ _ => cases f
            | tup _ _ _ => cases f
          | @tup _ ds a xs h hl hi =>
            cases q'
            obtain ⟨its, _, p, _⟩ := I.tuple h
            have p' : s.heap.IsTuple a its.toArray := p
            cases r with
            | non => cases q; exact SeqAt.EqAt.none_tuple p' (by omega)
            | int _ i => obtain ⟨t, rfl⟩ := q; exact SeqAt.EqAt.int_tuple i t p' (by omega)
            | str _ x => obtain ⟨t, rfl⟩ := q; exact SeqAt.EqAt.str_tuple x t p' (by omega)
            | lst _ _ _ => cases f
            | tup _ _ _ => cases f
        · subst z
          cases r <;> first | (cases f; done) | skip
          all_goals (cases r'; exact absurd rfl f')
    · by_cases f' : flatV v' = true
      · refine ⟨false, ?_, ⟨fun z => (by cases z), fun z => ?_⟩⟩
        · cases r with
          | non => exact absurd rfl f
          | int => exact absurd rfl f
          | str => exact absurd rfl f
          | @lst _ ds a xs h hl hi =>
            cases q
            obtain ⟨its, _, p, _⟩ := I.list h
            cases r' with
            | non => cases q'; exact SeqAt.EqAt.list_none p.isList (by omega)
            | int _ i => obtain ⟨t, rfl⟩ := q'; exact SeqAt.EqAt.list_int i t p.isList (by omega)
            | str _ x => obtain ⟨t, rfl⟩ := q'; exact SeqAt.EqAt.list_str x t p.isList (by omega)
            | lst _ _ _ => cases f'
            | tup _ _ _ => cases f'
          | @tup _ ds a xs h hl hi =>
            cases q
            obtain ⟨its, _, p, _⟩ := I.tuple h
            have p' : s.heap.IsTuple a its.toArray := p
            cases r' with
            | non => cases q'; exact SeqAt.EqAt.tuple_none p' (by omega)
            | int _ i => obtain ⟨t, rfl⟩ := q'; exact SeqAt.EqAt.tuple_int i t p' (by omega)
            | str _ x => obtain ⟨t, rfl⟩ := q'; exact SeqAt.EqAt.tuple_str x t p' (by omega)
            | lst _ _ _ => cases f'
            | tup _ _ _ => cases f'
        · subst z
          cases r' <;> first | (cases f'; done) | skip
          all_goals (cases r; exact absurd rfl f)
      · have ex : ∀ {m : Nat} {d : Dt} {v : V}, Rep X.K H m d v → ¬ flatV v = true → ∃ a, v = .ref a := fun {m d v} r f => by
          cases r <;> first | exact ⟨_, rfl⟩ | exact absurd rfl f
        obtain ⟨a, rfl⟩ := ex r f
        obtain ⟨a', rfl⟩ := ex r' f'
        cases q
        cases q'
        by_cases ha : a = a'
        · subst ha
          exact ⟨true, SeqAt.EqAt.same _, ⟨fun _ => rep_inj I (n + 1) r r', fun _ => rfl⟩⟩
        · obtain ⟨b, h1, _, h3⟩ := rc_rep I (A := A) (by omega) r r' fun r r' q q' => ih (A := A.in1) (by show A.units + 1 + n < cLine; omega) r r' q q'
          exact ⟨b, .of_refs ha h1, h3⟩
def rEqD (K : PySem.W.Frag) (neg : Bool) : R2 := fun x y H Q => ∃ a a' n d d', x = .ref a ∧ y = .ref a' ∧ Rep K H (n + 1) d (.ref a) ∧ Rep K H (n + 1) d' (.ref a') ∧ n ≤ 30 ∧ ∀ b, (b = true ↔ d = d') → Q (.bl (if neg then !b else b)) H
theorem op_neD (hu : X.A.units + 64 < cLine) : OpR X (compareOp .NotEq) (rEqD X.K true) := by
  intro pins s σ H x y v u Q I rx ry h
  obtain ⟨a, a', n, d, d', rfl, rfl, r, r', hn, q⟩ := h
  cases rx
  cases ry
  obtain ⟨b, _, h2, h3⟩ := rc_rep I (A := X.A) (by omega) r r' fun r r' q q' => eq_rep I n (A := X.A.in1) (by show X.A.units + 1 + n < cLine; omega) r r' q q'
  exact h2 _ _ _ _ ⟨.bl (!b), H, I, rfl, q b h3⟩
end
theorem rep_ints {K : PySem.W.Frag} {H : Hp} {n : Nat} {is : List Int} (i : Nat) (d : Dt) (v : V) (h1 : (is.map Dt.int)[i]? = some d) (h2 : (is.map V.int)[i]? = some v) : Rep K H n d v := by
  rw [List.getElem?_map] at h1 h2
  cases e : is[i]? with
  | none => rw [e] at h1; cases h1
  | some k =>
    rw [e] at h1 h2
    cases h1
    cases h2
    exact .int n k
theorem repL {K : PySem.W.Frag} {H : Hp} {n : Nat} {is : List Int} {a : Addr} (h : SqL K H a (is.map V.int)) : Rep K H (n + 1) (.lst (is.map Dt.int)) (.ref a) := .lst h (by simp) rep_ints
theorem map_inj {α β : Type} {f : α → β} (hf : ∀ a b, f a = f b → a = b) : ∀ {xs ys : List α}, xs.map f = ys.map f → xs = ys
  | [], [], _ => rfl
  | [], _ :: _, h => by simp at h
  | _ :: _, [], h => by simp at h
  | a :: xs, b :: ys, h => by
    simp only [List.map_cons, List.cons.injEq] at h
    rw [hf a b h.1, map_inj hf h.2]
def rangeV (n : Nat) : List V := (List.range n).map fun (i : Nat) => V.int (i : Int)
section
variable {X : Cx}
def rRange : List V → Hp → VK → Prop := fun xs H Q => ∃ j : Int, xs = [.int j] ∧ ∀ p, H p = none → Q (.ref p) (upd H p (.rng 0 j))
def rListRng : List V → Hp → VK → Prop := fun xs H Q => ∃ p j, xs = [.ref p] ∧ H p = some (.rng 0 j) ∧ 0 ≤ j ∧ j ≤ 1000000 ∧ ∀ l, H l = none → Q (.ref l) (upd H l (.lst (rangeV j.toNat)))
end
section
open AutoSeq1 (wpAny_loadPart')
abbrev RngItems (j : Int) (acc : Array Value) : Prop := ItemsOf (fun i v => ∃ t, v = Value.int ((0 : Int) + (i : Nat) * 1) t) acc j.toNat
end
section
variable {X : Cx}
def rTupRng : List V → Hp → VK → Prop := fun xs H Q => ∃ p j, xs = [.ref p] ∧ H p = some (.rng 0 j) ∧ 0 ≤ j ∧ j ≤ 1000000 ∧ ∀ l, H l = none → Q (.ref l) (upd H l (.tup (rangeV j.toNat)))
def rIsi (K : PySem.W.Frag) : List V → Hp → VK → Prop := fun xs H Q => ∃ x n t b, xs = [x, .ty n] ∧ TyOf K H x t ∧ PySem.W.kitOne K t (.type n) = some b ∧ Q (.bl b) H
end
end L2
namespace L2
open PySem PySem.Spec PyProof.Rows
structure CompSc (N : List Str) (osc : Scope) (vs : List Str) (sc : Scope) : Prop where
  kind : sc.kind = .function
  cell : ∀ y ∈ sc.names, y.2 ≠ .cell
  locs : ∀ y ∈ sc.names, y.2 = .local → sc.names.lookup y.1 = some .local
  own : ∀ y ∈ N.map (hide vs), sc.names.lookup y ≠ some .local
  hid : ∀ y ∈ vs, sc.names.lookup (hideStr y) = none
  nd : (vs ++ N.map (hide vs)).Nodup
  free : ∀ y ∈ sc.names, y.2 = .free → osc.names.lookup y.1 = some .cell ∨ osc.names.lookup y.1 = some .free
theorem CompSc.to {X : Cx} {N : List Str} {osc : Scope} {vs : List Str} {sc : Scope} (h : CompSc N osc vs sc) (hN : X.N = N := by rfl) (hs : X.env.scope = osc := by rfl) : CompScope X vs sc := by
  subst hN hs
  exact ⟨h.kind, h.cell, h.locs, h.own, h.hid, h.nd, h.free⟩
def Callee (P : Program) (w : World) (K : PySem.W.Frag) (mg : Str → Option Value) (base : Heap) (x : Str) (k : Nat) (ps : List Str) (sp : Sp) : Prop :=
  ∃ f fd, FnOk P w K mg base CX0 k f fd ps sp ∧ mg x = some (.ref f) ∧ PySem.W.keepIn K (.ref f) = true ∧ Binds K fd ps []
theorem pe_callD {X : Cx} {x : Str} {k : Nat} {ps : List Str} {sp : Sp} {e : Expr} {es : List Expr} {t : TA} {p pos : Pos} (c : Callee X.prog X.w X.K X.mg X.base x k ps sp) (hr : Room k X.A) (hg : Gl X x) (ha : PA X (e :: es) t)
    (hd : (x == ("__debug__" : Str)) = false := by decide) (hs : starEach (e :: es) X.env = (false, eval e X.env) :: starEach es X.env := by rfl) (hp : (backTo pos (starEach es X.env)).any (·.1) = false := by rfl) :
    PE X (.Call (.Name x p) (e :: es) [] pos) (tCall sp [] E0 t) := by
  obtain ⟨f, fd, F, m, kp, b⟩ := c
  exact pe_call F hr hg m kp b .nil pass0 ha hd hs hp
theorem IxR.k {X : Cx} {K : PySem.W.Frag} (r : PySem.W.Frag → R2) (h : IxR X (r X.K)) (hK : X.K = K) : IxR X (r K) := hK ▸ h
theorem OpR.k {X : Cx} {K : PySem.W.Frag} {f : Value → Value → Sem Value} (r : PySem.W.Frag → R2) (h : OpR X f (r X.K)) (hK : X.K = K) : OpR X f (r K) := hK ▸ h
theorem CallR.k {X : Cx} {K : PySem.W.Frag} {f : Value} (r : PySem.W.Frag → List V → Hp → VK → Prop) (h : CallR X f (r X.K)) (hK : X.K = K) : CallR X f (r K) := hK ▸ h
theorem SlR.k {X : Cx} {K : PySem.W.Frag} (r : PySem.W.Frag → V → Option Int → Option Int → Hp → VK → Prop) (h : SlR X (r X.K)) (hK : X.K = K) : SlR X (r K) := hK ▸ h
abbrev rLen (K : PySem.W.Frag) : List V → Hp → VK → Prop := fun xs H Q => ∃ p ys, xs = [.ref p] ∧ (SqL K H p ys ∨ SqT K H p ys) ∧ Q (.int ys.length) H
abbrev rListOf (K : PySem.W.Frag) : List V → Hp → VK → Prop := fun xs H Q => ∃ p ys, xs = [.ref p] ∧ (SqL K H p ys ∨ SqT K H p ys) ∧ ∀ l, H l = none → Q (.ref l) (upd H l (.lst ys))
abbrev rTupOf (K : PySem.W.Frag) : List V → Hp → VK → Prop := fun xs H Q => ∃ p ys, xs = [.ref p] ∧ ((SqL K H p ys ∧ ∀ l, H l = none → Q (.ref l) (upd H l (.tup ys))) ∨ (SqT K H p ys ∧ Q (.ref p) H))
theorem same_new {H : Hp} {p : Addr} (h : H p = none) (o : HO) : Same H (upd H p o) := fun b u q => by rw [upd_ne (ne_of_none q h)]; exact q
theorem small {n : Nat} (h : n ≤ 1000) : n ≤ sizeLine := Nat.le_of_lt (small1000 h)
abbrev nv (n : Nat) : V := .int (n : Int)
theorem nv_ints (xs : List Nat) : xs.map nv = (xs.map fun (n : Nat) => (n : Int)).map V.int := by rw [List.map_map]; rfl
theorem repLn {K : PySem.W.Frag} {H : Hp} {n : Nat} {is : List Nat} {a : Addr} (h : SqL K H a (is.map nv)) : Rep K H (n + 1) (.lst ((is.map fun (n : Nat) => (n : Int)).map Dt.int)) (.ref a) := repL (by rw [← nv_ints]; exact h)
theorem at_nv {xs : List Nat} {k : Nat} (h : k < xs.length) : atI (xs.map nv) (k : Int) = some (nv (xs.getD k 0)) := atI_nat (by rw [List.getElem?_map, List.getElem?_eq_getElem h, List.getD_eq_getElem?_getD, List.getElem?_eq_getElem h]; rfl)
def NewT (H : Hp) (xs : List V) (Q : VK) : Prop := ∀ r H', Same H H' → H' r = some (.tup xs) → Q (.ref r) H'
def NewL (H : Hp) (xs : List V) (Q : VK) : Prop := ∀ r H', Same H H' → H' r = some (.lst xs) → Q (.ref r) H'
def tCut (t : TS) : TS := fun D σ H => ∃ S : St → Hp → Prop, t { D with nx := S } σ H ∧ ∀ σ' H', S σ' H' → D.nx σ' H'
theorem same_upd {H H' : Hp} {l : Addr} {o : HO} (g : Same H H') (hl : H l = none) : Same H (upd H' l o) := fun b u e => by rw [upd_ne (ne_of_none e hl)]; exact g b u e
theorem at_int {cs : List Int} {k : Nat} (h : k < cs.length) : atI (cs.map V.int) (k : Int) = some (.int (cs.getD k 0)) := atI_nat (by rw [List.getElem?_map, List.getElem?_eq_getElem h, List.getD_eq_getElem?_getD, List.getElem?_eq_getElem h]; rfl)
theorem mod_nv (c : Int) {n : Nat} (h : 1 ≤ n) : V.int (c % (n : Int)) = nv (c % (n : Int)).toNat ∧ (c % (n : Int)).toNat < n := by
  have h1 := Int.emod_nonneg c (by omega : (n : Int) ≠ 0)
  have h2 := Int.emod_lt_of_pos c (by omega : (0 : Int) < (n : Int))
  refine ⟨?_, by omega⟩
  show V.int _ = V.int (((c % (n : Int)).toNat : Nat) : Int)
  rw [Int.toNat_of_nonneg h1]
end L2
namespace L2
open PySem PySem.Spec PyProof.Rows
theorem dlenH_meets {P : Program} {w : World} {a : Addr} {κ : Type} [DecidableEq κ] {kd : HeapKind P w κ} (na : (a == sysModules) = false) :
    MeetsIn P w (Builtin.«dict.__len__» ⟨[.ref a], []⟩) fun _ R s => ∃ xs, s.heap.DictOfH kd a xs ∧ R (.ok (.ret (.int xs.length s.toks))) { s with toks := s.toks + 1 } :=
  .of_wp fun A R s ⟨xs, dd, q⟩ => by
    obtain ⟨ob, en, ep, g1, g2, g3, g4, _⟩ := dd
    have ez : en.size = xs.length := size_of_entries g4
    show wpAny _ _ (dictSize a >>= _) _ _ s
    unfold dictSize
    refine wpAny_bind (wpAny_bind (wpAny_dictEntries g1 g3 (wpAny_pure (wpAny_bind (wpAny_pendingCount_other na (wpAny_ret_mkInt ?_))))))
    rw [Nat.add_zero, ez]
    exact q
theorem dlenH_body {P : Program} {w : World} {A : Around} {E : Value → Shared → Prop} {s : Shared} {a : Addr} {κ : Type} [DecidableEq κ] {kd : HeapKind P w κ} {xs : List (κ × Addr × Value)} {Q : Value → Shared → Prop} (na : (a == sysModules) = false)
    (dd : s.heap.DictOfH kd a xs) (few : (xs.length : Int) < 2 ^ 63) (q : Q (.int xs.length (s.toks + 1)) { s with toks := s.toks + 1 + 1 }) : wpAny (model P w) A (Builtin.«len» ⟨[.ref a], []⟩) (fun fin s' => ∃ r, fin = .done (.ret r) ∧ Q r s') E s := by
  have n0 : ¬ ((xs.length : Nat) : Int) < 0 := by omega
  have n1 : ¬ ((xs.length : Nat) : Int) ≥ 2 ^ 63 := by omega
  unfold Builtin.«len»
  refine wpAny_bind (m := oneArg "len" _) (wpAny_pure (wpAny_bind (m := callSpecial? (.ref a) (Str.ofString "__len__")) ?_))
  refine wpAny_callSpecial?_slot (name := Str.ofString "__len__") dd.typeIs F.slot_dict_len (call_meetsIn F.slot_dict_len dd.typeIs F.entry_dict_len (F.args_dict_len_1 _) (dlenH_meets (kd := kd) na) ⟨xs, dd, ?_⟩)
  show wpAny _ _ _ _ _ { s with toks := s.toks + 1 }
  refine wpAny_bind (wpAny_holding (wpAny_pure (wpAny_bind (wpAny_letGo ?_))))
  show wpAny _ _ (if ((xs.length : Nat) : Int) < 0 then _ else (if ((xs.length : Nat) : Int) ≥ 2 ^ 63 then _ else _)) _ _ _
  rw [if_neg n0, if_neg n1]
  exact wpAny_bind (wpAny_mkInt (wpAny_pure ⟨_, rfl, q⟩))
section
variable {X : Cx}
theorem call_lenT : CallR X (.builtin "len") (fun xs H Q => ∃ a kvs, xs = [V.ref a] ∧ H a = some (.dT kvs) ∧ Q (.int kvs.length) H) := by
  intro pins s σ H xs us Q I r h
  obtain ⟨a, kvs, rfl, ha, q⟩ := h
  obtain ⟨u, rfl, ru⟩ := vals1 r
  cases ru
  obtain ⟨z, na, ys, rel, dd⟩ := dt_of I.hok ha
  have el : kvs.length = ys.length := Paired.length rel
  refine Calls.call_function_entry kind_len plain_len entry_len (args_len1 _) (dlenH_body na dd (by rw [← el]; rw [sizeLine_eq] at z; omega) ?_)
  exact ⟨.int kvs.length, H, I.tok _, ⟨_, by rw [el]⟩, q⟩
end
def nk (xs : List Nat) : List Key := xs.map fun (n : Nat) => (Sum.inl (n : Int) : Key)
theorem nk_kV (xs : List Nat) : (nk xs).map kV = xs.map nv := by
  unfold nk
  rw [List.map_map]
  rfl
theorem nk_inj {xs ys : List Nat} (h : nk xs = nk ys) : xs = ys := by
  unfold nk at h
  exact map_inj (fun a b e => by injection e with e; exact Int.ofNat.inj e) h
end L2
namespace L2
open PySem PySem.Spec PyProof.Rows
section
variable {X : Cx}
def rCatS (K : PySem.W.Frag) : R2 := fun x y H Q => ∃ l b xs zs, x = .ref l ∧ y = .ref b ∧ SqL K H l xs ∧ SqL K H b zs ∧ xs.length + zs.length ≤ sizeLine ∧ ∀ p, H p = none → Q (.ref p) (upd H p (.lst (xs ++ zs)))
theorem op_catS : OpR X (binaryOp .Add) (rCatS X.K) := by
  intro pins s σ H x y v u Q I rx ry h
  obtain ⟨l, b, xs, zs, rfl, rfl, hl, hb, hz, q⟩ := h
  cases rx
  cases ry
  obtain ⟨its, r, ⟨⟨c1, d1, k1, s1⟩, n, e, ec, ed, ek⟩, _⟩ := I.list hl
  obtain ⟨its2, r2, ⟨⟨c2, d2, k2, s2⟩, n2, e2, ec2, ed2, ek2⟩, _⟩ := I.list hb
  simp only at ec ed ek ec2 ed2 ek2
  subst ec ed ek ec2 ed2 ek2
  have l1 := r.length
  have l2 := r2.length
  have ea : its.toArray ++ its2.toArray = (its ++ its2).toArray := by simp
  refine concat_meets ⟨_, e, rfl⟩ ⟨_, e2, rfl⟩ noFill_list_add seq_list_add F.slot_list_add F.entry_list_add (F.args_list_add_2 _ _) (list_addW l b its.toArray its2.toArray n n2 none none s1 s2 (by simp only [List.size_toArray]; omega)) ⟨e, e2, ?_⟩
  rw [ea]
  exact ⟨.ref _, _, I.lnew (t' := s.toks) (r.append r2) (by rw [List.length_append]; omega), rfl, q _ I.fresh⟩
def rIndex (K : PySem.W.Frag) : V → List V → Hp → VK → Prop := fun x vs H Q => ∃ (l : Addr) (ns : List Int) (i : Int), x = .ref l ∧ vs = [.int i] ∧ SqL K H l (ns.map V.int) ∧ i ∈ ns ∧ Q (.int (ns.idxOf i : Nat)) H
end
end L2
namespace L2
open PySem PySem.Spec PyProof.Rows
section
variable {X : Cx}
def rSlA : V → Option Int → Option Int → Hp → VK → Prop := fun x lo hi H Q => ∃ a xs, x = .ref a ∧ H a = some (.tup xs) ∧ ∀ p H', Same H H' → H' p = some (.tup (cutV xs lo hi)) → Q (.ref p) H'
end
end L2
namespace L2
open PySem PySem.Spec PyProof.Rows
section
variable {X : Cx}
def rCatA : R2 := fun x y H Q => ∃ a b xs ys, x = .ref a ∧ y = .ref b ∧ H a = some (.tup xs) ∧ H b = some (.tup ys) ∧ xs.length + ys.length ≤ sizeLine ∧ ∀ p H', Same H H' → H' p = some (.tup (xs ++ ys)) → Q (.ref p) H'
end
end L2
namespace L2
open PySem PySem.Spec PyProof.Rows
open AutoSeq1 (wpAny_loadPart')
section
variable {X : Cx}
def rRepA : R2 := fun x y H Q => ∃ a xs k, x = .ref a ∧ y = .int ((k + 1 : Nat) : Int) ∧ H a = some (.tup xs) ∧ k ≤ 1000 ∧ xs.length ≤ 1000 ∧ ∀ p H', Same H H' → H' p = some (.tup (List.replicate (k + 1) xs).flatten) → Q (.ref p) H'
end
end L2
namespace L2
open PySem PySem.Spec PyProof.Rows
section
variable {X : Cx}
def rAll (K : PySem.W.Frag) : List V → Hp → VK → Prop := fun xs H Q => ∃ (p : Addr) (bs : List Bool), xs = [.ref p] ∧ SqL K H p (bs.map V.bl) ∧ Q (.bl (bs.all id)) H
abbrev TJ := Str → St → Hp → (Str → Hp → Prop) → Prop
def PJ (X : Cx) (vs : List Expr) (t : TJ) : Prop := ∀ (pins : List (Addr × Obj)) (s : Shared) (σ : St) (H : Hp) (out : Str) (Q : Str → Hp → Prop), Inv X pins σ H s → t out σ H Q →
  wpAny (model X.prog X.w) X.A (joinParts out (evalEach vs X.env)) (fun u s' => ∃ x H', Inv X pins σ H' s' ∧ RelV (.str x) u ∧ Q x H') X.xe s
def jNil : TJ := fun out _ H Q => out.length ≤ sizeLine ∧ Q out H
def jStr (x : Str) (t : TJ) : TJ := fun out σ H Q => (out ++ x).length ≤ sizeLine ∧ t (out ++ x) σ H Q
def jInt (te : TE) (t : TJ) : TJ := fun out σ H Q => te σ H fun v H1 => ∃ i : Int, v = .int i ∧ i.natAbs.log2 < 1920 ∧ (out ++ Str.ofString (toString i)).length ≤ sizeLine ∧ t (out ++ Str.ofString (toString i)) σ H1 Q
def rJoin (K : PySem.W.Frag) : V → List V → Hp → VK → Prop := fun x vs H Q => ∃ (z : Str) (l : Addr) (ys : List Str), x = .str z ∧ vs = [.ref l] ∧ SqL K H l (ys.map V.str) ∧ z.length ≤ 16 ∧ (ys.map (·.length)).sum + ys.length ≤ 1048576 ∧ Q (.str (Txt.join z ys)) H
end
end L2
namespace L2
open PySem PySem.Spec PyProof.Rows
structure PL (X : Cx) (es : List Expr) (t : TA) : Prop where
  pa : PA X es t
structure QE (X : Cx) (e : Expr) (t : TE) : Prop where
  pe : PE X e t
structure QS (X : Cx) (st : Stmt) (t : TS) : Prop where
  ps : PS X st t
structure QSs (X : Cx) (b : List Stmt) (t : TS) : Prop where
  pss : PSs X b t
section
variable {X : Cx} {e a b : Expr} {es : List Expr} {te ta tb : TE} {t : TA} {pos : Pos}
theorem pl_nil : PL X [] tNil := ⟨pa_nil⟩
theorem pl_cons (ha : PE X e te) (hr : PL X es t) (hs : starEach (e :: es) X.env = (false, eval e X.env) :: starEach es X.env) : PL X (e :: es) (tCons te t) := ⟨pa_cons ha hr.pa hs⟩
theorem pl_at (h : PL X es t) : PA X es t := h.pa
theorem ql_cons (ha : QE X e te) (hr : PL X es t) (hs : starEach (e :: es) X.env = (false, eval e X.env) :: starEach es X.env) : PL X (e :: es) (tCons te t) := ⟨pa_cons ha.pe hr.pa hs⟩
theorem qe_of (h : PE X e te) : QE X e te := ⟨h⟩
theorem qe_op {op : Operator} {r : R2} (ho : OpR X (binaryOp op) r) (ha : QE X a ta) (hb : QE X b tb) : QE X (.BinOp a op b pos) (tOp r ta tb) := ⟨pe_op ho ha.pe hb.pe⟩
theorem qe_lst (h : PL X es t) : QE X (.List es pos) (tLst t) := ⟨pe_lst h.pa⟩
end
section
variable {X : Cx} {e : Expr} {te : TE} {st : Stmt} {rest : List Stmt} {t u : TS} {pos : Pos}
theorem qs_of (h : PS X st t) : QS X st t := ⟨h⟩
theorem qs_set {i : Nat} {x : Str} {pos' : Pos} (hN : X.N.Nodup) (hi : X.N[i]? = some x) (hx : Loc X.env.scope x) (he : QE X e te) (hs : swapsWith e (some (.Name x pos')) pos.line X.env = pure false) (hf : X.fn x = true ∨ X.env.scope.names.lookup x = some .local) :
    QS X (.Assign [.Name x pos'] e pos) (tAsg te (gName i)) := ⟨ps_set hN hi hx he.pe hs hf⟩
theorem qss_one (h1 : QS X st t) : QSs X [st] t := ⟨pss_one h1.ps⟩
theorem qss_cons (h1 : QS X st t) (h2 : QSs X rest u) : QSs X (st :: rest) (tSeq t u) := ⟨pss_cons h1.ps h2.pss⟩
theorem qss_at {b : List Stmt} (h : QSs X b t) : PSs X b t := h.pss
end
end L2
namespace L2
open PySem PySem.Spec PyProof.Rows
def RcOp (op : CmpOp) (A : Around) (s : Shared) (x y : Value) (r : Bool) : Prop :=
  ∀ (P : Program) (w : World) (E : Value → Shared → Prop) (Q : Value → Shared → Prop), Q (.bool r) s → wpAny (model P w) A (richCompare op x y) Q E s
inductive Cmp (op : CmpOp) (A : Around) (s : Shared) : List (Value × Value) → Option Bool → Prop where
  | nil : Cmp op A s [] none
  | eq {x y zs o} : SeqAt.EqAt A s x y true → Cmp op A s zs o → Cmp op A s ((x, y) :: zs) o
  | ne {x y zs r} : SeqAt.EqAt A s x y false → RcOp op A s x y r → Cmp op A s ((x, y) :: zs) (some r)
def SeqObj (c : String) (h : Heap) (a : Addr) (its : List Value) : Prop := ∃ n dx sl, h.get? a = some ⟨.type c, dx, .seq its.toArray n, sl⟩
abbrev From (xs ys : List Value) (i : Nat) : List (Value × Value) := (xs.zip ys).drop i
section
variable {P : Program} {w : World} {A : Around} {E : Value → Shared → Prop} {s : Shared} {op : CmpOp}
end
section
open AutoSeq1
open MeetsSeq MeetsSeq2 MeetsSeq3 SeqRoads2 SeqAt
variable {l b : Addr} {xs ys : List Value}
end
end L2
namespace L2
open PySem PySem.Spec PyProof.Rows
def ltlO : List Nat → List Nat → Option Bool
  | a :: xs, b :: ys => if a = b then ltlO xs ys else some (decide (a < b))
  | _, _ => none
def ltl (xs ys : List Nat) : Bool := (ltlO xs ys).getD (decide (xs.length < ys.length))
theorem ltl_irr (xs : List Nat) : ltl xs xs = false := by
  have no : ltlO xs xs = none := by
    induction xs with
    | nil => rfl
    | cons a xs ih => rw [ltlO, if_pos rfl, ih]
  unfold ltl
  rw [no]
  simp
section
variable {A : Around} {s : Shared} {l b : Addr} {xs ys : List Value} {o : Option Bool}
theorem eqAt_int {i j : Int} {t u : Tok} : SeqAt.EqAt A s (.int i t) (.int j u) (decide (i = j)) := by
  have z := eqAt_V (A := A) (s := s) (y := .int i) (x := .int j) (u := .int i t) (v := .int j u) ⟨t, rfl⟩ ⟨u, rfl⟩ rfl rfl
  have e : eqV (.int i) (.int j) = decide (i = j) := by
    show (i == j) = _
    by_cases h : i = j <;> simp [h]
  rwa [e] at z
theorem SeqObj.ty {c : String} (h : SeqObj c s.heap l xs) : s.TypeIs (.ref l) c := let ⟨_, _, _, e⟩ := h; ⟨_, e, rfl⟩
end
section
variable {X : Cx}
def plt (i : Int) (ps : List Nat) (j : Int) (qs : List Nat) : Bool := if i = j then ltl ps qs else decide (i < j)
def Pair (K : PySem.W.Frag) (lst : Bool) (H : Hp) (x : V) (i : Int) (ps : List Nat) : Prop := ∃ a p, x = .ref a ∧ SqT K H a [.int i, .ref p] ∧ (if lst then SqL K H p (ps.map nv) else SqT K H p (ps.map nv))
theorem Pair.same {K : PySem.W.Frag} {lst : Bool} {H H' : Hp} {x : V} {i : Int} {ps : List Nat} (h : Pair K lst H x i ps) (g : Same H H') : Pair K lst H' x i ps := by
  obtain ⟨a, p, rfl, h1, h2⟩ := h
  refine ⟨a, p, rfl, g.sqt h1, ?_⟩
  cases lst with
  | true => exact g.seq (show SqL K H p _ from h2)
  | false => exact g.sqt (show SqT K H p _ from h2)
section
variable {pins : List (Addr × Obj)} {σ : St} {H : Hp} {s : Shared} {lst : Bool} {x y : V} {v u : Value} {i j : Int} {ps qs : List Nat} {A : Around}
abbrev kindD (lst : Bool) (ps : List Nat) : Dt := if lst then .lst ((ps.map fun (n : Nat) => (n : Int)).map Dt.int) else .tup ((ps.map fun (n : Nat) => (n : Int)).map Dt.int)
end
def rPair (K : PySem.W.Frag) (F : Bool → Bool) : R2 := fun x y H Q => ∃ lst i ps j qs, Pair K lst H x i ps ∧ Pair K lst H y j qs ∧ Q (.bl (F (plt i ps j qs))) H
end
end L2
namespace L2
open PySem PySem.Spec PyProof.Rows
def sub5 (m : Nat) : List Nat := (List.range 5).filter fun i => m.testBit i
def tab5 (led : Bool) (xs : List Nat) : SetTable := { mask := if xs.length = 5 then 31 else 7, place := xs.toArray, dummies := #[], finger := 0, led, moves := if xs.length = 5 then 1 else 0, plain := true }
def goes5 (xs : List Nat) (k : Nat) : Nat := (xs.filter (· < k)).length
def tabP (led : Bool) (m k : Nat) : SetTable := { tab5 led (sub5 m) with place := (sub5 (m ||| 2 ^ k)).toArray }
theorem tab5_fits : ∀ (led : Bool) (m : Fin 32), (tab5 led (sub5 m)).fits (sub5 m).length = true := by decide +kernel
theorem tab5_free : ∀ (led : Bool) (m : Fin 32) (k : Fin 5), (m : Nat).testBit k = false → (tab5 led (sub5 m)).freeSlot ((k : Nat) : Int) = some ((k : Nat), false) := by decide +kernel
theorem tab5_put : ∀ (led : Bool) (m : Fin 32) (k : Fin 5), (m : Nat).testBit k = false → (tab5 led (sub5 m)).put k = (tabP led m k, goes5 (sub5 m) k) ∧ (tabP led m k).fits ((sub5 m).length + 1) = true := by decide +kernel
theorem sub5_add : ∀ (m : Fin 32) (k : Fin 5), (m : Nat).testBit k = false → sub5 (m ||| 2 ^ (k : Nat)) = (sub5 m).take (goes5 (sub5 m) k) ++ (k : Nat) :: (sub5 m).drop (goes5 (sub5 m) k) := by decide +kernel
theorem sub5_old : ∀ (m : Fin 32) (k : Fin 5), (k : Nat) ∈ sub5 m → (m ||| 2 ^ (k : Nat) : Nat) = m := by decide +kernel
theorem sub5_new : ∀ (m : Fin 32) (k : Fin 5), (k : Nat) ∉ sub5 m → (m : Nat).testBit k = false := by decide +kernel
theorem sub5_lt : ∀ (m : Fin 32) (k : Fin 5), (m ||| 2 ^ (k : Nat) : Nat) < 32 := by decide +kernel
theorem sub5_len : ∀ m : Fin 32, (sub5 m).length ≤ 5 := by decide +kernel
theorem tab5_small : ∀ (led : Bool) (m : Fin 32) (k : Fin 5), (m : Nat).testBit k = false → (sub5 m).length ≠ 4 → tabP led m k = tab5 led (sub5 (m ||| 2 ^ (k : Nat))) ∧ (tabP led m k).tooFull = false := by decide +kernel
theorem tab5_big : ∀ (led : Bool) (m : Fin 32) (k : Fin 5), (m : Nat).testBit k = false → (sub5 m).length = 4 → (tabP led m k).tooFull = true ∧
    (tabP led m k).relaid #[0, 1, 2, 3, 4] (SetTable.grown 5) = some (tab5 led (sub5 (m ||| 2 ^ (k : Nat))), #[0, 1, 2, 3, 4]) ∧ sub5 (m ||| 2 ^ (k : Nat)) = [0, 1, 2, 3, 4] ∧ (tab5 led (sub5 (m ||| 2 ^ (k : Nat)))).fits 5 = true := by decide +kernel
theorem hash5 : ∀ k : Fin 5, hashInt ((k : Nat) : Int) = ((k : Nat) : Int) := by decide +kernel
def Ents : List Nat → List (Int × Value) → Prop := Paired fun n e => e.1 = (n : Int) ∧ ∃ t, e.2 = .int (n : Int) t
def setObj (es : List (Int × Value)) (ep : Nat) (t : SetTable) : Obj := { cls := .type "set", data := .set es.toArray ep t }
def IsSet5 (h : Heap) (a : Addr) (led : Bool) (m : Nat) : Prop := m < 32 ∧ ∃ es ep, h.get? a = some (setObj es ep (tab5 led (sub5 m))) ∧ Ents (sub5 m) es
theorem Ents.take : ∀ {ns : List Nat} {es : List (Int × Value)} (p : Nat), Ents ns es → Ents (ns.take p) (es.take p)
  | _, _, 0, _ => .nil
  | _, _, _ + 1, .nil => .nil
  | _, _, p + 1, .cons r t => .cons r (Ents.take p t)
theorem Ents.drop : ∀ {ns : List Nat} {es : List (Int × Value)} (p : Nat), Ents ns es → Ents (ns.drop p) (es.drop p)
  | _, _, 0, r => r
  | _, _, _ + 1, .nil => .nil
  | _, _, p + 1, .cons _ t => Ents.drop p t
theorem Ents.app : ∀ {ns ms : List Nat} {es fs : List (Int × Value)}, Ents ns es → Ents ms fs → Ents (ns ++ ms) (es ++ fs)
  | _, _, _, _, .nil, r => r
  | _, _, _, _, .cons q t, r => .cons q (Ents.app t r)
theorem Ents.len {ns : List Nat} {es : List (Int × Value)} (h : Ents ns es) : es.length = ns.length := (Paired.length h).symm
theorem Ents.keys : ∀ {ns : List Nat} {es : List (Int × Value)}, Ents ns es → es.map (·.1) = ns.map fun (n : Nat) => (n : Int)
  | _, _, .nil => rfl
  | _, _, .cons q t => by rw [List.map_cons, List.map_cons, q.1, Ents.keys t]
theorem Ents.mem : ∀ {ns : List Nat} {es : List (Int × Value)} {e : Int × Value}, Ents ns es → e ∈ es → ∃ n ∈ ns, e.1 = (n : Int) ∧ ∃ t, e.2 = .int (n : Int) t
  | _, _, _, .cons q t, h => by
    rcases List.mem_cons.mp h with z | z
    · subst z
      exact ⟨_, List.mem_cons_self, q⟩
    · obtain ⟨n, h1, h2⟩ := Ents.mem t z
      exact ⟨n, List.mem_cons_of_mem _ h1, h2⟩
theorem Ents.has : ∀ {ns : List Nat} {es : List (Int × Value)} {n : Nat}, Ents ns es → n ∈ ns → ∃ e ∈ es, ∃ t, e.2 = .int (n : Int) t
  | _, _, _, .cons q t, h => by
    rcases List.mem_cons.mp h with z | z
    · subst z
      exact ⟨_, List.mem_cons_self, q.2⟩
    · obtain ⟨e, h1, h2⟩ := Ents.has t z
      exact ⟨e, List.mem_cons_of_mem _ h1, h2⟩
theorem Ents.elems {P : Program} {w : World} {m : Fin 32} {es : List (Int × Value)} (h : Ents (sub5 m) es) : ElemsOf (intKind P w) es := fun e he => by
  obtain ⟨n, hn, e1, t, e2⟩ := h.mem he
  have hn5 : n < 5 := List.mem_range.mp (List.mem_filter.mp hn).1
  exact ⟨⟨(n : Int), by rw [e2]; exact intKind_is _ _ _ _, by rw [e1]; exact (hash5 ⟨n, hn5⟩).symm⟩, by rw [e2]; rfl⟩
theorem ins_list {α : Type} (xs : List α) (p : Nat) (x : α) : (SetTable.insertAt xs.toArray p x) = (xs.take p ++ x :: xs.drop p).toArray := by
  unfold SetTable.insertAt
  apply Array.ext'
  simp
  exact List.take_of_length_le (by simp)
section
variable {P : Program} {w : World} {A : Around} {E : Value → Shared → Prop} {s : Shared} {a : Addr} {led : Bool} {m k : Nat} {t : Tok}
theorem upd_set {h : Heap} {es fs : List (Int × Value)} {ep : Nat} {t u : SetTable} (e : h.get? a = some (setObj es ep t)) : (h.update a (Obj.putSet fs.toArray u)).get? a = some (setObj fs (ep + 1) u) := Heap.get?_update_self _ e rfl
theorem len_s {α : Type} {fs : List α} {n : Nat} (h : fs.length = n + 1) : ∃ a r, fs = a :: r ∧ r.length = n := by
  cases fs with
  | nil => cases h
  | cons a r => exact ⟨a, r, rfl, Nat.succ.inj h⟩
theorem pick5 {α : Type} {fs : List α} (h : fs.length = 5) : (#[0, 1, 2, 3, 4] : Array Nat).filterMap (fs.toArray[·]?) = fs.toArray := by
  obtain ⟨_, _, rfl, h1⟩ := len_s h
  obtain ⟨_, _, rfl, h2⟩ := len_s h1
  obtain ⟨_, _, rfl, h3⟩ := len_s h2
  obtain ⟨_, _, rfl, h4⟩ := len_s h3
  obtain ⟨_, _, rfl, h5⟩ := len_s h4
  cases List.length_eq_zero_iff.mp h5
  rfl
theorem set5_add {Q : Shared → Prop} (hk : k < 5) (hS : IsSet5 s.heap a led m) (q : ∀ h', IsSet5 h' a led (m ||| 2 ^ k) → Heap.SameBut a s.heap h' → Q { s with heap := h' }) :
    wpAny (model P w) A (setAddHashed a (.int (k : Int) t) (k : Int)) (fun _ s' => Q s') E s := by
  obtain ⟨hm, es, ep, e, en⟩ := hS
  have ln := en.len
  have fit := tab5_fits led ⟨m, hm⟩
  have el : ElemsOf (intKind P w) es.toArray.toList := Ents.elems (m := ⟨m, hm⟩) en
  have m5 : (sub5 m).length ≤ 5 := sub5_len ⟨m, hm⟩
  have fit' : (tab5 led (sub5 m)).fits es.toArray.size = true := by rw [List.size_toArray, ln]; exact fit
  have sc : byScan (.int (k : Int) t) es.toArray = true := by
    unfold byScan
    have e3 : es.toArray.all (·.2.scannable) = true := by
      rw [Array.all_eq_true_iff_forall_mem]
      exact fun x hx => (el x (by simpa using hx)).2
    rw [e3]
    have e4 : decide (es.toArray.size < scanBound) = true := decide_eq_true (by rw [List.size_toArray, ln]; unfold scanBound; omega)
    rw [e4]
    rfl
  have hh : (intKind P w).hash (k : Int) = (k : Int) := hash5 ⟨k, hk⟩
  unfold setAddHashed setAddHashedIn
  refine wpAny_holding (wpAny_bind (wpAny_setState_of e rfl fit' ?_))
  dsimp only
  rw [sc, if_pos rfl]
  unfold setAddByScan
  refine wpAny_bind (wpAny_bind (wpAny_rule (wpAny_bind ?_)))
  have scan : ∀ {R : ScanMet → Shared → Prop}, R (match es.toArray.toList.findIdx? (fun e => (intKind P w).is (k : Int) e.2) with | some j => .found (0 + j) | none => .absent) s → wpAny (model P w) A (setScan a (.int (k : Int) t) (k : Int) true es.toArray) R E s := fun z => by
    have y := wpAny_setScan_of (prog := P) (w := w) (A := A) (E := E) (knd := intKind P w) (k := (k : Int)) (x := .int (k : Int) t) (adding := true) (intKind_is _ _ _ _) e rfl fit' el z
    rw [hh] at y
    exact y
  refine scan ?_
  rw [List.toList_toArray]
  by_cases hin : k ∈ sub5 m
  · obtain ⟨x, hx, tx, ex⟩ := en.has hin
    cases hf : es.findIdx? fun e => (intKind P w).is (k : Int) e.2 with
    | none =>
      have z := List.findIdx?_eq_none_iff.mp hf x hx
      rw [ex, intKind_is] at z
      cases z
    | some j =>
      refine wpAny_pure (wpAny_pure ?_)
      have z := q s.heap (by rw [sub5_old ⟨m, hm⟩ ⟨k, hk⟩ hin]; exact ⟨hm, es, ep, e, en⟩) (Heap.SameBut.refl a s.heap)
      cases s
      exact z
  · have nb := sub5_new ⟨m, hm⟩ ⟨k, hk⟩ hin
    cases hf : es.findIdx? fun e => (intKind P w).is (k : Int) e.2 with
    | some j =>
      obtain ⟨hj, hpj, _⟩ := List.findIdx?_eq_some_iff_getElem.mp hf
      obtain ⟨n, hn, _, tn, e2⟩ := en.mem (List.getElem_mem hj)
      rw [e2] at hpj
      have z : (k : Int) = (n : Int) := (intKind P w).inj _ _ _ hpj (intKind_is _ _ _ tn)
      have z' : k = n := by omega
      exact absurd (z' ▸ hn) hin
    | none =>
      obtain ⟨pu, pf⟩ := tab5_put led ⟨m, hm⟩ ⟨k, hk⟩ nb
      have sa := sub5_add ⟨m, hm⟩ ⟨k, hk⟩ nb
      have lt32 := sub5_lt ⟨m, hm⟩ ⟨k, hk⟩
      dsimp only at pu pf sa lt32
      have en' : Ents (sub5 (m ||| 2 ^ k)) (es.take (goes5 (sub5 m) k) ++ ((k : Int), Value.int (k : Int) t) :: es.drop (goes5 (sub5 m) k)) := by
        rw [sa]
        exact (en.take _).app (.cons ⟨rfl, t, rfl⟩ (en.drop _))
      have lay : layNew (tab5 led (sub5 m)) es.toArray (k : Int) (.int (k : Int) t) = ((es.take (goes5 (sub5 m) k) ++ ((k : Int), Value.int (k : Int) t) :: es.drop (goes5 (sub5 m) k)).toArray, tabP led m k, false, false) := by
        unfold layNew
        rw [tab5_free led ⟨m, hm⟩ ⟨k, hk⟩ nb]
        dsimp only
        rw [pu]
        dsimp only
        rw [ins_list]
        have sz : (es.take (goes5 (sub5 m) k) ++ ((k : Int), Value.int (k : Int) t) :: es.drop (goes5 (sub5 m) k)).toArray.size = (sub5 m).length + 1 := by
          rw [List.size_toArray, List.length_append, List.length_cons, List.length_take, List.length_drop, ln]
          omega
        rw [sz]
        unfold SetTable.orStandIn
        rw [pf]
        rfl
      generalize es.take (goes5 (sub5 m) k) ++ ((k : Int), Value.int (k : Int) t) :: es.drop (goes5 (sub5 m) k) = fs at en' lay
      have lf := en'.len
      have f5 : fs.length ≤ 5 := by rw [lf]; exact sub5_len ⟨_, lt32⟩
      dsimp only
      rw [lay]
      dsimp only
      refine wpAny_bind (show wpAny _ _ (pure ()) _ _ _ from wpAny_pure ?_)
      refine wpAny_bind (show wpAny _ _ (pure true) _ _ _ from wpAny_pure ?_)
      refine wpAny_bind (wpAny_storeSet_of e rfl ?_ (by rw [List.size_toArray, sizeLine_eq]; omega))
      have e1 := upd_set (h := s.heap) (fs := fs) (u := tabP led m k) e
      have same1 : Heap.SameBut a s.heap (s.heap.update a (Obj.putSet fs.toArray (tabP led m k))) := Heap.SameBut.update ..
      by_cases h4 : (sub5 m).length = 4
      · obtain ⟨tf, rl, s5, ff⟩ := tab5_big led ⟨m, hm⟩ ⟨k, hk⟩ nb h4
        dsimp only at tf rl s5 ff
        have l5 : fs.length = 5 := by rw [lf, s5]; rfl
        have ks : fs.toArray.map (·.1) = #[0, 1, 2, 3, 4] := by
          rw [List.map_toArray, en'.keys, s5]
          rfl
        have pick : (#[0, 1, 2, 3, 4] : Array Nat).filterMap (fs.toArray[·]?) = fs.toArray := pick5 l5
        have rel : relayAll (tabP led m k) fs.toArray (SetTable.grown fs.toArray.size) = (fs.toArray, tab5 led (sub5 (m ||| 2 ^ k)), false) := by
          unfold relayAll
          rw [ks, List.size_toArray, l5, rl]
          dsimp only
          rw [pick, List.size_toArray, l5, ff, Bool.and_true, if_pos (by decide +kernel)]
        show wpAny _ _ (if (!false && (tabP led m k).tooFull) = true then _ else _) _ _ _
        rw [tf, if_pos (by decide)]
        simp only [if_true]
        rw [rel]
        dsimp only
        refine wpAny_bind (show wpAny _ _ (pure ()) _ _ _ from wpAny_pure ?_)
        refine wpAny_bind (wpAny_storeSet_of e1 rfl ?_ (by rw [List.size_toArray, sizeLine_eq]; omega))
        have e2 := upd_set (fs := fs) (u := tab5 led (sub5 (m ||| 2 ^ k))) e1
        have same2 := Heap.SameBut.trans same1 (Heap.SameBut.update (s.heap.update a (Obj.putSet fs.toArray (tabP led m k))) a (Obj.putSet fs.toArray (tab5 led (sub5 (m ||| 2 ^ k)))))
        exact wpAny_pure (wpAny_pure (q _ ⟨lt32, fs, ep + 1 + 1, e2, en'⟩ same2))
      · obtain ⟨te, tf⟩ := tab5_small led ⟨m, hm⟩ ⟨k, hk⟩ nb h4
        dsimp only at te tf
        show wpAny _ _ (if (!false && (tabP led m k).tooFull) = true then _ else _) _ _ _
        rw [tf, if_neg (by decide)]
        refine wpAny_pure (wpAny_pure (q _ ⟨lt32, fs, ep + 1, ?_, en'⟩ same1))
        rw [← te]
        exact e1
end
end L2
namespace L2
open PySem PySem.Spec PyProof.Rows
def mask5 (m : Nat) (ns : List Nat) : Nat := ns.foldl (fun m n => m ||| 2 ^ n) m
section
variable {P : Program} {w : World} {A : Around} {E : Value → Shared → Prop} {S it l : Addr} {led : Bool} {ns : List Nat} {vs : List Value}
theorem set5_loop {R : Result → Shared → Prop} (hh : A.handled = none) (d1 : S ≠ it) (d2 : S ≠ l) (d3 : it ≠ l) (hv : Vals (ns.map nv) vs) (h5 : ∀ n ∈ ns, n < 5) :
    ∀ (rest : List Nat) (i m : Nat) (s : Shared), ns.drop i = rest → s.heap.IsListIter it l i → s.heap.IsList l vs.toArray → IsSet5 s.heap S led m →
      (∀ h' tk, IsSet5 h' S led (mask5 m rest) → (∀ b o, b ≠ S → b ≠ it → s.heap.get? b = some o → h'.get? b = some o) → R (.ok (.ret .none)) { s with heap := h', toks := tk }) →
      codeAny (model P w) A (.builtin "set.update.loop" ⟨[.ref S, .ref it], []⟩) R s
  | [], i, m, s, hd, hi, hl, hS, q => by
    have hlen : vs.length ≤ i := by
      have h1 : vs.length = ns.length := by simpa using hv.length.symm
      have h2 := List.drop_eq_nil_iff.mp hd
      omega
    refine codeAny_builtin F.entry_set_update_loop ?_
    rw [Around.under_plainId F.plain_set_update_loop _]
    show wpAny _ A.in1 (pyNext (.ref it) >>= _) _ _ s
    refine wpAny_bind (wpAny_pyNext_list_end (by simpa using hh) hi hl (by simp; omega) fun h' keep => ?_)
    refine wpAny_pure (q h' s.toks ?_ fun b o _ h2 e => keep b o h2 e)
    obtain ⟨hm, es, ep, e, en⟩ := hS
    exact ⟨hm, es, ep, keep _ _ d1 e, en⟩
  | n :: rest, i, m, s, hd, hi, hl, hS, q => by
    have at1 : ns[i]? = some n := by rw [← List.head?_drop, hd]; rfl
    have next : ns.drop (i + 1) = rest := by rw [← List.tail_drop, hd]; rfl
    have n5 := h5 n (List.mem_of_getElem? at1)
    obtain ⟨u, hu, t, rfl⟩ := hv.get (i := i) (x := nv n) (by rw [List.getElem?_map, at1]; rfl)
    refine codeAny_builtin F.entry_set_update_loop ?_
    rw [Around.under_plainId F.plain_set_update_loop _]
    show wpAny _ A.in1 (pyNext (.ref it) >>= _) _ _ s
    refine wpAny_bind (wpAny_pyNext_list_item hi hl (x := .int (n : Int) t) (by simpa using hu) fun h1 hi1 sb1 => ?_)
    show wpAny _ A.in1 (holding [Value.int (n : Int) t] (setAdd S (.int (n : Int) t)) >>= _) _ _ _
    refine wpAny_bind (wpAny_holding ?_)
    unfold setAdd
    refine wpAny_holding (wpAny_bind ((intKind P w).pyHash (k := (n : Int)) (intKind_is _ _ _ _) ?_))
    rw [show (intKind P w).hash (n : Int) = (n : Int) from hash5 ⟨n, n5⟩]
    have hS1 : IsSet5 h1 S led m := by
      obtain ⟨hm, es, ep, e, en⟩ := hS
      exact ⟨hm, es, ep, sb1.extBut _ _ d1 e, en⟩
    refine set5_add n5 hS1 fun h2 hS2 sb2 => ?_
    refine wpAny_pure ⟨plainId_quiet F.plain_set_update_loop _, set5_loop hh d1 d2 d3 hv h5 rest (i + 1) (m ||| 2 ^ n) _ next (hi1.extBut sb2.extBut d1.symm) ((hl.extBut sb1.extBut d3.symm).extBut sb2.extBut d2.symm) hS2 fun h' tk hS' keep => ?_⟩
    exact q h' tk hS' fun b o b1 b2 e => keep b o b1 b2 (sb2.extBut _ _ b1 (sb1.extBut _ _ b2 e))
abbrev set0 (led : Bool) : Obj := { cls := .type "set", dict := none, data := .set #[] 0 (.fresh 0 0 led) }
set_option maxHeartbeats 4000000 in
theorem set5_init {h : Heap} {gn : Array GenState} {dr : Drawn} {k : Nat} {os : OsState} {R : PySem.Fin → Shared → Prop} (hh : A.handled = none) (hl : h.IsList l vs.toArray) (hv : Vals (ns.map nv) vs) (h5 : ∀ n ∈ ns, n < 5)
    (q : ∀ h' tk, IsSet5 h' h.objs.size led (mask5 0 ns) → (∀ b o, h.get? b = some o → h'.get? b = some o) → R (.done (.ret .none)) ⟨h', gn, dr, tk, os⟩) :
    wpAny (model P w) A (Builtin.«set.__init__» ⟨[.ref h.objs.size, .ref l], []⟩) R E ⟨h.push (set0 led), gn, dr, k, os⟩ := by
  obtain ⟨⟨cl, dl, dat, sl⟩, e2, c2, n2, d2⟩ := id hl
  simp only at c2 d2
  subst c2 d2
  have e3 : (h.push (set0 led)).get? l = some ⟨.type "list", dl, .seq vs.toArray n2, sl⟩ := Heap.get?_push_of_some _ e2
  have e0 : (h.push (set0 led)).get? h.objs.size = some { cls := .type "set", dict := none, data := .set #[] 0 (.fresh 0 0 led) } := Heap.get?_push_size _ rfl
  have s1 := F.sub_list_set
  have s2 := F.sub_list_frozenset
  have ne : (Value.type "list" == Value.type "dict") = false := by decide
  unfold Builtin.«set.__init__» noKeywords Builtin.Frozenset.updateFrom
  generalize g : pyIter = iter
  wp_walk
  subst g
  have hl1 : (h.push (set0 led)).IsList l vs.toArray := hl.push _
  refine wpAny_pyIter_list hl1 (wpAny_bind (wpAny_runValue ?_))
  have lt : l < h.objs.size := Heap.lt_size e2
  have sz : (h.push (set0 led)).objs.size = h.objs.size + 1 := Heap.size_push ..
  refine set5_loop (vs := vs) (led := led) (by simpa using hh) (by rw [sz]; exact Nat.ne_of_lt (Nat.lt_succ_self _)) (Nat.ne_of_gt lt) (by rw [sz]; exact Nat.ne_of_gt (Nat.lt_succ_of_lt lt)) hv h5 ns 0 0 _ rfl ⟨_, Heap.get?_push_size _ rfl, rfl, rfl⟩ (hl1.push _) ⟨by decide, [], 0, Heap.get?_push_of_some _ e0, .nil⟩ fun h' tk z1 z2 => ?_
  refine wpAny_pure (wpAny_pure (q h' tk z1 fun b o e => ?_))
  have bl := Heap.lt_size e
  exact z2 b o (Nat.ne_of_lt bl) (by rw [sz]; exact Nat.ne_of_lt (Nat.lt_succ_of_lt bl)) (Heap.get?_push_of_some _ (Heap.get?_push_of_some _ e))
end
end L2
namespace L2
open PySem PySem.Spec PyProof.Rows
end L2
namespace L2
open PySem PySem.Spec PyProof.Rows
def walk5 (w : World) (a : Addr) (ep : Nat) (es : List (Int × Value)) : List (Int × Value) := if w.params.followText "set-order" then (pickOrder (w.params.setOrder a ep) es.toArray).toList else es
def slot5 (byText : Bool) (xs : List Nat) : Nat → Nat
  | 0 => 0
  | i + 1 => if byText then 0 else xs.getD i 0 + 1
def iterObj (slot i n ep : Nat) (a : Addr) : Obj := { cls := .type "set_iterator", data := .fields #[rawInt slot, rawInt i, .ref a, rawInt n, rawInt ep] }
section
variable {P : Program} {w : World} {A : Around} {E : Value → Shared → Prop} {s : Shared} {a it : Addr} {m ep i : Nat} {es : List (Int × Value)}
end
end L2
namespace L2
open PySem PySem.Spec PyProof.Rows
section
variable {P : Program} {w : World} {A : Around} {E : Value → Shared → Prop} {a it : Addr} {m ep : Nat} {es : List (Int × Value)}
end
end L2
namespace L2
open PySem PySem.Spec PyProof.Rows
def norm5 (ns : List Nat) : List Nat := (List.range 5).filter fun i => ns.contains i
theorem valsI : ∀ {vs : List Value} {is : List Int}, IntsAre vs is → Vals (is.map V.int) vs
  | _, _, .nil => .nil
  | _, _, .cons n t h => .cons ⟨t, rfl⟩ (valsI h)
section
variable {P : Program} {w : World} {A : Around} {E : Value → Shared → Prop} {a : Addr} {m : Nat}
end
section
variable {X : Cx}
def SetO (w : World) (a : Addr) (m : Nat) : HO := .ext fun h => IsSet5 h a (!w.params.followText "set-order") m
theorem IsSet5.ok {w : World} {h : Heap} {a : Addr} {m : Nat} {P : Program} {w' : World} {H : Hp} (x : IsSet5 h a (!w.params.followText "set-order") m) : ObjOk P w' H h a (SetO w a m) := by
  obtain ⟨hm, es, ep, e, en⟩ := id x
  exact ⟨x, ⟨_, e⟩, fun h1 h2 ⟨y1, es', ep', y2, y3⟩ k => ⟨y1, es', ep', k _ y2, y3⟩⟩
theorem Inv.track {pins : List (Addr × Obj)} {σ : St} {H : Hp} {s : Shared} {D : Addr} {o : HO} (I : Inv X pins σ H s) (hD : H D = none) (ok : ObjOk X.prog X.w (upd H D o) s.heap D o)
    (h0 : X.s₀.heap.objs.size ≤ D) (h1 : D ≠ X.env.locals) (h2 : ∀ x c, X.env.cells.lookup x = some c → c ≠ D) (h3 : ∀ p ∈ X.pn ++ pins, p.1 ≠ D) : Inv X pins σ (upd H D o) s := by
  have nd : ∀ b u, H b = some u → b ≠ D := fun b u q z => by rw [z, hD] at q; cases q
  have q := I.step (h' := s.heap) (H' := upd H D o) (g' := s.gens) (t' := s.toks) (d' := s.drawn) (ch := [D]) (fun b hb => by
      have z : b = D := by simpa using hb
      subst z
      exact ⟨.inr h0, h1, h2, h3⟩)
    (fun b o _ _ _ e _ => e) (fun b o _ _ _ e _ => ⟨o.slots, e⟩) (fun b o hb _ n => by rw [upd_ne (fun z => hb (by simp [z]))]; exact n) (fun b o _ e => ⟨o, e⟩)
    (fun b xs q => by rw [upd_ne (nd b _ q)]; exact q) (fun b o u q => by rw [upd_ne (nd b _ q)]; exact q) (fun b ps q => ⟨#[], by rw [upd_ne (nd b _ q), q]; simp⟩) (fun m hm => hm) (fun b u q => ?_) I.bare
  · exact q
  · by_cases hb : b = D
    · subst hb
      rw [upd_same] at q
      cases q
      exact ok
    · rw [upd_ne hb] at q
      exact (I.hok b u q).stay (fun _ _ _ z => z) (fun c z => by rw [upd_ne (nd c _ z)]; exact z) fun c xs z => by rw [upd_ne (nd c _ z)]; exact z
theorem Inv.trackNew {pins : List (Addr × Obj)} {σ : St} {H : Hp} {s s1 : Shared} {o : HO} (I : Inv X pins σ H s) (I1 : Inv X pins σ H s1) (ok : ObjOk X.prog X.w (upd H s.heap.objs.size o) s1.heap s.heap.objs.size o) : Inv X pins σ (upd H s.heap.objs.size o) s1 := by
  obtain ⟨f0, f1, f2, f3, f4, f5⟩ := I.fpOk (b := s.heap.objs.size) (H' := H) (Nat.le_refl _) (I.hok.fresh (Nat.le_refl _))
  exact I1.track f0 ok I.sz f1 f4 f5
def rSetN (K : PySem.W.Frag) (w : World) : List V → Hp → VK → Prop := fun xs H Q => ∃ p ns, xs = [.ref p] ∧ SqL K H p (ns.map nv) ∧ (∀ n ∈ ns, n < 5) ∧ ∀ a, H a = none → Q (.ref a) (upd H a (SetO w a (mask5 0 ns)))
def rSortS (w : World) : List V → Hp → VK → Prop := fun xs H Q => ∃ a m, xs = [.ref a] ∧ H a = some (SetO w a m) ∧ ∀ l, H l = none → Q (.ref l) (upd H l (.lst ((sub5 m).map nv)))
end
end L2
namespace L2
open PySem PySem.Spec PyProof.Rows
section
variable {K : PySem.W.Frag} {H : Hp} {σ : St} {tt : TT} {te : TE} {Fin : List V → Hp → Prop} {a : Addr}
end
section
variable {X : Cx}
def rAny (K : PySem.W.Frag) : List V → Hp → VK → Prop := fun xs H Q => ∃ (p : Addr) (bs : List Bool), xs = [.ref p] ∧ SqL K H p (bs.map V.bl) ∧ Q (.bl (bs.any id)) H
end
end L2
namespace L2
open PySem PySem.Spec PyProof.Rows
section
variable {K : PySem.W.Frag} {H : Hp} {σ : St} {tt : TT} {te : TE} {Fin : List V → Hp → Prop} {a : Addr}
end
end L2
namespace L2
open PySem PySem.Spec PyProof.Rows
section
variable {K : PySem.W.Frag} {H : Hp} {σ : St} {tt : TT} {te : TE} {Fin : List V → Hp → Prop} {a : Addr}
end
end L2
namespace L2
open PySem PySem.Spec PyProof.Rows
def drop (H : Hp) (c : Addr) : Hp := fun b => if b = c then none else H b
theorem drop_same {H : Hp} {c : Addr} : drop H c c = none := by unfold drop; rw [if_pos rfl]
theorem drop_ne {H : Hp} {b c : Addr} (h : b ≠ c) : drop H c b = H b := by unfold drop; rw [if_neg h]
theorem drop_none {H : Hp} {b c : Addr} (h : H b = none) : drop H c b = none := by
  by_cases e : b = c
  · rw [e]; exact drop_same
  · rw [drop_ne e]; exact h
def CellO (c m : Addr) (o : Obj) : HO := .ext fun h => h.get? c = some o ∧ o.data = .cell (some (.ref m))
def CodeO (c : Addr) (q : Str) : HO := .ext fun h => h.CodeRec (.ref c) q
def LamO (f : Addr) (fd : FuncData) : HO := .ext fun h => h.get? f = some { cls := .type "function", data := .func fd }
theorem HOk.drop {P : Program} {w : World} {H : Hp} {h : Heap} {c : Addr} {φ : Heap → Prop} (x : HOk P w H h) (hc : H c = some (.ext φ)) : HOk P w (drop H c) h := fun b o e => by
  by_cases hb : b = c
  · rw [hb, drop_same] at e; cases e
  · rw [drop_ne hb] at e
    refine (x b o e).stay (fun _ _ _ z => z) (fun d z => ?_) fun d xs z => ?_
    · rw [drop_ne (fun q => by rw [q, hc] at z; cases z)]; exact z
    · rw [drop_ne (fun q => by rw [q, hc] at z; cases z)]; exact z
theorem HOk.back {P : Program} {w : World} {H : Hp} {h : Heap} {c : Addr} {o : HO} (x : HOk P w H h) (hc : H c = none) (ok : ObjOk P w (upd H c o) h c o) : HOk P w (upd H c o) h := fun b u e => by
  by_cases hb : b = c
  · subst hb; rw [upd_same] at e; cases e; exact ok
  · rw [upd_ne hb] at e
    exact (x b u e).stay (fun _ _ _ z => z) (fun d z => by rw [upd_ne (ne_of_none z hc)]; exact z) fun d xs z => by rw [upd_ne (ne_of_none z hc)]; exact z
theorem cell_ok {P : Program} {w : World} {H : Hp} {h : Heap} {c m : Addr} {o : Obj} (x : h.get? c = some o) (d : o.data = .cell (some (.ref m))) : ObjOk P w H h c (CellO c m o) := ⟨⟨x, d⟩, ⟨o, x⟩, fun h1 h2 e k => ⟨k _ e.1, e.2⟩⟩
theorem lam_ok {P : Program} {w : World} {H : Hp} {h : Heap} {f : Addr} {fd : FuncData} (x : h.get? f = some { cls := .type "function", data := .func fd }) : ObjOk P w H h f (LamO f fd) := ⟨x, ⟨_, x⟩, fun h1 h2 e k => k _ e⟩
theorem code_ok {P : Program} {w : World} {H : Hp} {h : Heap} {c : Addr} {q : Str} (x : h.CodeRec (.ref c) q) : ObjOk P w H h c (CodeO c q) := by
  obtain ⟨c', o, vs, t, e1, e2, e3⟩ := id x
  cases e1
  refine ⟨x, ⟨o, e2⟩, fun h1 h2 ⟨c', o', vs', t', f1, f2, f3⟩ k => ?_⟩
  cases f1
  exact ⟨c, o', vs', t', rfl, k _ f2, f3⟩
structure LamScope (ps : List Str) (y : Str) (sc : Scope) : Prop where
  kind : sc.kind = .function
  co : sc.isCoroutine = false
  gen : sc.isGenerator = false
  nd : (ps ++ [y]).Nodup
  par : ∀ x ∈ ps, sc.names.lookup x = some .local
  fre : sc.names.lookup y = some .free
  only : ∀ z ∈ sc.names, z.2 ≠ .cell ∧ (z.2 = .free → z.1 = y)
abbrev lamFd (qual : Str) (params : Arguments) (body : Expr) (scope : Scope) (y : Str) (c : Addr) (pm cd ct : Value) : FuncData := PySem.W.kla_fn "<lambda>" qual params body scope [(y, c)] pm cd ct
def cxL (P : Program) (w : World) (K : PySem.W.Frag) (mg : Str → Option Value) (base : Heap) (N : List Str) (qual : Str) (scope : Scope) (f : Addr) (cd : Value) (cl : List (Str × Addr)) (A : Around) (outer : List Env) (s : Shared) (H : Hp) : Cx where
  prog := P
  w := w
  K := K
  mg := mg
  base := base
  A := A.deeper (PySem.W.envX qual scope s.heap.objs.size f cd cl)
  N := N
  s₀ := s
  H₀ := H
  env := PySem.W.envX qual scope s.heap.objs.size f cd cl
  outer := outer
  stack := PySem.W.envX qual scope s.heap.objs.size f cd cl :: outer
  ex := []
  calm := true
  fn := fun _ => false
  pn := []
  xe := fun _ _ => False
theorem lookup_nodup {x : Str} {u : Value} : ∀ {l : List (Str × Value)}, (l.map (·.1)).Nodup → (x, u) ∈ l → l.lookup x = some u
  | (a, b) :: l, nd, h => by
    rw [List.map_cons, List.nodup_cons] at nd
    rw [List.lookup_cons]
    rcases List.mem_cons.mp h with e | e
    · cases e
      rw [beq_self_eq_true]
    · have ne : (x == a) = false := beq_eq_false_iff_ne.mpr fun q => nd.1 (List.mem_map.mpr ⟨(x, u), e, q⟩)
      rw [ne]
      exact lookup_nodup nd.2 e
theorem zip_lookup {ps : List Str} {us : List Value} {i : Nat} {x : Str} {u : Value} (nd : ps.Nodup) (h1 : ps[i]? = some x) (h2 : us[i]? = some u) : (ps.zip us).reverse.lookup x = some u := by
  refine lookup_nodup ?_ (List.mem_reverse.mpr (List.mem_iff_getElem?.mpr ⟨i, List.getElem?_zip_eq_some.mpr ⟨h1, h2⟩⟩))
  have sub : ∀ (ps : List Str) (us : List Value), ((ps.zip us).map (·.1)).Sublist ps := fun ps => by
    induction ps with
    | nil => intro us; simp
    | cons a ps ih =>
      intro us
      cases us with
      | nil => simp
      | cons b us => rw [List.zip_cons_cons, List.map_cons]; exact (ih us).cons₂ a
  rw [List.map_reverse]
  show List.Pairwise (· ≠ ·) _
  rw [List.pairwise_reverse]
  exact (nd.sublist (sub ps us)).imp Ne.symm
theorem lam_inv {P : Program} {w : World} {K : PySem.W.Frag} {mg : Str → Option Value} {base : Heap} {ps : List Str} {y qual : Str} {scope : Scope} {f c m : Addr} {cd : Value} {A : Around} {outer : List Env} {s : Shared} {H : Hp} {us : List Value} {vs : List V} {h1 : Heap} {tk : Nat}
    (S : LamScope ps y scope) (hd : A.handled = none) (e0 : Env0 P w K mg base A outer s H) (hl : vs.length = ps.length) (r : Vals vs us) (hc : H c = none) (ic : s.heap.IsCell c (some (.ref m)))
    (hns : h1.Ns s.heap.objs.size (fun x => (ps.zip us).reverse.lookup x)) (sb : Heap.SameBut s.heap.objs.size (s.heap.push { cls := .type "frame", data := .dict #[] }) h1) :
    Inv (cxL P w K mg base (ps ++ [y]) qual scope f cd [(y, c)] A outer s H) [] (vs.map some ++ [some (.ref m)]) H { s with heap := h1, toks := tk } := by
  have hk : ∀ b o, s.heap.get? b = some o → h1.get? b = some o := fun b o e => sb.extBut _ _ (Nat.ne_of_lt (Heap.lt_size e)) (Heap.get?_push_of_some _ e)
  have ic1 : h1.IsCell c (some (.ref m)) := let ⟨o, e, d⟩ := ic; ⟨o, hk _ _ e, d⟩
  have one : ∀ {x : Str} {d : Addr}, ([(y, c)] : List (Str × Addr)).lookup x = some d → x = y ∧ d = c := fun {x d} h => by
    rw [List.lookup_cons] at h
    cases q : x == y with
    | true => rw [q] at h; cases h; exact ⟨eq_of_beq q, rfl⟩
    | false => rw [q] at h; cases h
  have at_y : ([(y, c)] : List (Str × Addr)).lookup y = some c := by rw [List.lookup_cons, beq_self_eq_true]
  have noA : ∀ b : Addr, b ∉ (cxL P w K mg base (ps ++ [y]) qual scope f cd [(y, c)] A outer s H).ex := fun b z => absurd (show b ∈ ([] : List Addr) from z) (by simp)
  refine ⟨⟨e0.mod, S.kind, rfl, rfl, Nat.le_refl _, fun a b d h1 h2 => (one h1).1.trans (one h2).1.symm, fun a ha => ?_, fun a d h _ => absurd (show false = true from h) Bool.false_ne_true, fun _ => hd, Around.frames_deeper e0.frames, .inr ⟨rfl, rfl⟩, fun b z => absurd z (noA b), e0.bs, e0.bsz, fun b _ _ => noA b, fun b z => absurd z (noA b), e0.funs, e0.frf⟩,
    rfl, e0.bare, Un.kept hk, ⟨_, hns, fun i x v q1 q2 q3 => ?_⟩, fun a d h => ?_, e0.hok.fresh (Nat.le_refl _), fun a d h => ?_, fun p hp => absurd (show p ∈ ([] : List (Addr × Obj)) from hp) (by simp), e0.hok.kept hk, ?_⟩
  · have ha' : scope.names.lookup a = some .cell ∨ scope.names.lookup a = some .free := ha
    rcases ha' with z | z
    · exact absurd rfl (S.only _ (PySem.mem_of_lookup z)).1
    · have e := (S.only _ (PySem.mem_of_lookup z)).2 rfl
      exact ⟨c, by rw [show a = y from e]; exact at_y⟩
  · have q1' : (ps ++ [y])[i]? = some x := q1
    rcases Nat.lt_or_ge i ps.length with z | z
    · rw [List.getElem?_append_left z] at q1'
      rw [List.getElem?_append_left (by rw [List.length_map]; omega), List.getElem?_map] at q2
      cases e : vs[i]? with
      | none => rw [e] at q2; cases q2
      | some a =>
        rw [e] at q2
        cases q2
        obtain ⟨u, hu, rv⟩ := r.get e
        have kx := S.par x (List.mem_of_getElem? q1')
        refine ⟨u, rv, .inl ⟨kx, ?_⟩⟩
        exact zip_lookup (S.nd.sublist (List.sublist_append_left _ _)) q1' hu
    · rw [List.getElem?_append_right z] at q1'
      rw [List.getElem?_append_right (by rw [List.length_map]; omega), List.length_map] at q2
      have e : i - ps.length = 0 := by
        rcases Nat.eq_zero_or_pos (i - ps.length) with y0 | y0
        · exact y0
        · rw [List.getElem?_eq_none (by simp; omega)] at q1'; cases q1'
      rw [e] at q1'
      rw [hl, e] at q2
      cases q1'
      cases q2
      exact ⟨.ref m, rfl, .inr ⟨.inr S.fre, c, at_y, ic1⟩⟩
  · obtain ⟨rfl, rfl⟩ := one (show ([(y, c)] : List (Str × Addr)).lookup a = some d from h)
    exact ⟨_, ic1⟩
  · obtain ⟨rfl, rfl⟩ := one (show ([(y, c)] : List (Str × Addr)).lookup a = some d from h)
    exact hc
  · show (vs.map some ++ [some (V.ref m)]).length = (ps ++ [y]).length
    simp [hl]
theorem lam_fn {P : Program} {w : World} {K : PySem.W.Frag} {mg : Str → Option Value} {base : Heap} {k : Nat} {ps : List Str} {y qual : Str} {params : Arguments} {body : Expr} {scope : Scope} {f c m cc : Addr} {oc : Obj} {pm ct : Value} {sp : Sp}
    (S : LamScope ps y scope) (len : ∀ vs H Q E, sp vs H Q E → vs.length = ps.length) (here : ∀ vs H Q E, sp vs H Q E → H f = some (LamO f (lamFd qual params body scope y c pm (.ref cc) ct)) ∧ H c = some (CellO c m oc) ∧ H cc = some (CodeO cc qual))
    (hbody : ∀ (A : Around) (outer : List Env) (s : Shared) (H : Hp) (vs : List V) (Q : VK) (E : XK), Room k (A.deeper (PySem.W.envX qual scope s.heap.objs.size f (.ref cc) [(y, c)])) → sp vs H Q E →
      ∃ t, PE (cxL P w K mg base (ps ++ [y]) qual scope f (.ref cc) [(y, c)] A outer s (drop H c)) body t ∧ t (vs.map some ++ [some (.ref m)]) (drop H c) fun v H' => H' c = none → Q v (upd H' c (CellO c m oc))) :
    FnOk P w K mg base CX0 (k + 1) f (lamFd qual params body scope y c pm (.ref cc) ct) ps sp := by
  refine ⟨len, fun A outer s H args us vs Q E hr e0 hb r hsp => ?_⟩
  obtain ⟨hf, hc, hcc⟩ := here _ _ _ _ hsp
  have hl := len _ _ _ _ hsp
  obtain ⟨ef, _, _⟩ := e0.hok f _ hf
  obtain ⟨ecell, _, _⟩ := e0.hok c _ hc
  obtain ⟨ecode, _, _⟩ := e0.hok cc _ hcc
  have e1 : Env0 P w K mg base A outer s (drop H c) := ⟨e0.frames, e0.mod, fun b o e => ⟨(e0.bs b o e).1, drop_none (e0.bs b o e).2⟩, e0.bsz, e0.funs, fun b hb => drop_none (e0.frf b hb), e0.hok.drop hc, e0.bare⟩
  have lim : s.heap.NoLimit := e0.mod.nolimit.keeps fun b o e => (e0.bs b o e).1
  refine PySem.W.kla_callFunE hr.depth ef rfl S.co S.gen rfl ecode (hb _ _ _ _ ?_)
  refine wpAny_newFunctionEnv (fun x hx => (S.only x hx).1) (fun x hx => S.par _ (List.of_mem_zip hx).1) (fun h1 hns sb => ?_) S.kind
  have hk : ∀ b o, s.heap.get? b = some o → h1.get? b = some o := fun b o e => sb.extBut _ _ (Nat.ne_of_lt (Heap.lt_size e)) (Heap.get?_push_of_some _ e)
  refine ⟨lim.keeps hk, PySem.W.kla_codeExpr ?_⟩
  obtain ⟨t, ht, hq⟩ := hbody A outer s H vs Q E (hr.deeper _) hsp
  have I : Inv (cxL P w K mg base (ps ++ [y]) qual scope f (.ref cc) [(y, c)] A outer s (drop H c)) [] (vs.map some ++ [some (.ref m)]) (drop H c) { s with heap := h1, toks := s.toks + (ps.zip us).length } := lam_inv S hr.hd e1 hl r drop_same ⟨oc, ecell⟩ hns sb
  refine wpAny_mono (ht [] _ _ _ _ I hq) (fun v s' ⟨x, H', J, rx, q⟩ => ?_) fun e s' z => False.elim z
  have Hc : H' c = none := J.freeC y c (by show ([(y, c)] : List (Str × Addr)).lookup y = some c; rw [List.lookup_cons, beq_self_eq_true])
  have ec' : s'.heap.get? c = some oc := J.base.keep c oc ecell.1 drop_same (fun z => ?_) (by simp [cxL])
  · refine ⟨x, upd H' c (CellO c m oc), J.os, J.bare, ⟨fun b o e n hb _ => ?_, fun b o e n hb _ => ?_, fun b o e n _ => ?_, fun b o e _ => J.base.there b o e (by simp [cxL]), fun b xs e => ?_, fun b o u e => ?_, fun b ps e => ?_⟩, J.hok.back Hc (cell_ok ec' ecell.2), rx, q Hc⟩
    · exact J.base.keep b o e (drop_none n) hb (by simp [cxL])
    · exact J.base.slot b o e (drop_none n) hb (by simp [cxL])
    · have nb : b ≠ c := fun z => by rw [z, hc] at n; cases n
      rw [upd_ne nb]
      exact J.base.free b o e (drop_none n) (by simp [cxL])
    · have nb : b ≠ c := fun z => by rw [z, hc] at e; cases e
      rw [upd_ne nb]
      exact J.base.tups b xs (by show drop H c b = _; rw [drop_ne nb]; exact e)
    · have nb : b ≠ c := fun z => by rw [z, hc] at e; cases e
      rw [upd_ne nb]
      exact J.base.frzs b o u (by show drop H c b = _; rw [drop_ne nb]; exact e)
    · have nb : b ≠ c := fun z => by rw [z, hc] at e; cases e
      rw [upd_ne nb]
      exact J.base.tbls b ps (by show drop H c b = _; rw [drop_ne nb]; exact e)
  · have := e0.frf c z
    rw [hc] at this
    cases this
end L2
namespace L2
open PySem PySem.Spec PyProof.Rows
section
variable {X : Cx}
def tCallV (X : Cx) (i : Nat) (t : TA) : TE := fun σ H Q => tVar i σ H fun v H0 => ∃ st fd, v = .ref st ∧ H0 st = some (LamO st fd) ∧ t σ H0 fun vs H1 => H1 st = some (LamO st fd) ∧ ∃ k ps sp, FnOk X.prog X.w X.K X.mg X.base CX0 k st fd ps sp ∧ Room k X.A ∧ Binds X.K fd ps [] ∧ sp vs H1 Q E0
theorem lam_at {pins : List (Addr × Obj)} {σ : St} {H : Hp} {s : Shared} {st : Addr} {fd : FuncData} (I : Inv X pins σ H s) (h : H st = some (LamO st fd)) : PySem.W.FnAt st s.heap := by
  obtain ⟨e, _, _⟩ := I.hok st _ h
  exact ⟨_, _, _, _, e⟩
theorem pe_callV (i : Nat) {x : Str} {e : Expr} {es : List Expr} {t : TA} {p pos : Pos} (hv : PE X (.Name x p) (tVar i)) (ha : PA X (e :: es) t) (he : starEach (e :: es) X.env = (false, eval e X.env) :: starEach es X.env := by rfl) (hpl : (backTo pos (starEach es X.env)).any (·.1) = false := by rfl) :
    PE X (.Call (.Name x p) (e :: es) [] pos) (tCallV X i t) := by
  intro pins s σ H Q I h
  refine wpAny_Call_Name_kw (thn (hv pins s σ H _ I h) fun u s1 ⟨v, H0, I0, rv, st, fd, ev, e0, q⟩ => ?_)
  subst ev
  cases rv
  refine PySem.W.callWith_F (lam_at I0 e0) (thn (ha pos pins s1 σ H0 _ I0 q) fun us s2 zq => ?_) he hpl
  obtain ⟨vs, H1, I1, r, e1, k, ps, sp, F, hr, hb, q2⟩ := zq
  refine ⟨lam_at I1 e1, ?_⟩
  have z := run_fn (dvs := []) (ds := []) F hr hb .nil pass0 I1 r (by rw [List.append_nil]; exact q2)
  exact z
def tCallC (sp : Sp) (dvs : List V) (j : Nat) (c : Addr) (t : TA) : TE := fun σ H Q => t σ H fun vs H1 => ∃ m, σ[j]? = some (some (.ref m)) ∧ ∀ oc, H1 c = none → sp (vs ++ dvs) (upd H1 c (CellO c m oc)) (fun r H2 => H2 c = some (CellO c m oc) ∧ Q r (drop H2 c)) E0
theorem Inv.afterC {pins : List (Addr × Obj)} {σ : St} {H : Hp} {s s' : Shared} {c m : Addr} {oc : Obj} {Q : VK} {u : Value} (I : Inv X pins σ H s) (hc : H c = none) (ec : s.heap.get? c = some oc)
    (h : CE X.stack X.prog X.w (upd H c (CellO c m oc)) s (fun r H2 => H2 c = some (CellO c m oc) ∧ Q r (drop H2 c)) u s') : EP X pins σ Q u s' := by
  obtain ⟨v, H2, os, bare, un, hok, rv, e2, q⟩ := h
  obtain ⟨⟨ec', _⟩, _, _⟩ := hok c _ e2
  refine I.after ⟨v, drop H2 c, os, bare, ⟨fun b o e n hb he => ?_, fun b o e n hb he => ?_, fun b o e n he => ?_, un.there, fun b xs e => ?_, fun b o w e => ?_, fun b ps e => ?_⟩, hok.drop e2, rv, q⟩
  · by_cases z : b = c
    · subst z
      rw [ec] at e
      cases e
      exact ec'
    · exact un.keep b o e (by rw [upd_ne z]; exact n) hb he
  · by_cases z : b = c
    · subst z
      rw [ec] at e
      cases e
      exact ⟨oc.slots, ec'⟩
    · exact un.slot b o e (by rw [upd_ne z]; exact n) hb he
  · by_cases z : b = c
    · rw [z]; exact drop_same
    · exact drop_none (un.free b o e (by rw [upd_ne z]; exact n) he)
  · have z : b ≠ c := fun z => by rw [z, hc] at e; cases e
    rw [drop_ne z]
    exact un.tups b xs (by rw [upd_ne z]; exact e)
  · have z : b ≠ c := fun z => by rw [z, hc] at e; cases e
    rw [drop_ne z]
    exact un.frzs b o w (by rw [upd_ne z]; exact e)
  · have z : b ≠ c := fun z => by rw [z, hc] at e; cases e
    rw [drop_ne z]
    exact un.tbls b ps (by rw [upd_ne z]; exact e)
theorem pe_callC {x : Str} {k j : Nat} {ps : List Str} {sp : Sp} {f c : Addr} {fd : FuncData} {dvs : List V} {ds : List Value} {y : Str} {e : Expr} {es : List Expr} {t : TA} {p pos : Pos} (F : FnOk X.prog X.w X.K X.mg X.base CX0 k f fd ps sp) (hr : Room k X.A) (hg : Gl X x) (hm : X.mg x = some (.ref f))
    (hk : PySem.W.keepIn X.K (.ref f) = true) (hb : Binds X.K fd ps ds) (hd : Vals dvs ds) (hN : X.N[j]? = some y) (hc : X.env.cells.lookup y = some c) (hkd : X.env.scope.names.lookup y = some .cell) (hfn : X.fn y = true) (ha : PA X (e :: es) t)
    (hdb : (x == ("__debug__" : Str)) = false := by decide) (he : starEach (e :: es) X.env = (false, eval e X.env) :: starEach es X.env := by rfl) (hpl : (backTo pos (starEach es X.env)).any (·.1) = false := by rfl) :
    PE X (.Call (.Name x p) (e :: es) [] pos) (tCallC sp dvs j c t) := by
  intro pins s σ H Q I h
  refine wpAny_Call_Name_kw (ld_glob I hg hm ?_ hdb)
  refine PySem.W.callWith_K (h₀ := X.base) I.ok.mod.kin hk (thn (ha pos pins s σ H _ I h) fun us s1 ⟨vs, H1, I1, r, m, hj, q⟩ => ⟨I1.kIn, ?_⟩) he hpl
  have hc0 : H1 c = none := I1.freeC y c hc
  obtain ⟨mm, hn, look⟩ := I1.loc
  obtain ⟨u, ru, lk⟩ := look j y (.ref m) hN hj (.inr (.inl hkd))
  cases ru
  obtain ⟨oc, ec, dc⟩ : s1.heap.IsCell c (some (.ref m)) := by
    rcases lk with ⟨z, _⟩ | ⟨_, c', ec', ic⟩
    · have z' : X.env.scope.names.lookup y = some .local := z
      rw [hkd] at z'
      cases z'
    · rw [hc] at ec'
      cases ec'
      exact ic
  have q1 := q oc hc0
  have r2 : Vals (vs ++ dvs) (us ++ ds) := r.append hd
  have hl : (us ++ ds).length = ps.length := by rw [← r2.length]; exact F.len _ _ _ _ q1
  have e1 : Env0 X.prog X.w X.K X.mg X.base X.A X.stack s1 (upd H1 c (CellO c m oc)) := by
    have e0 := I1.env0
    have young := I1.ok.cab y c hfn hc
    have nb : ∀ b o, X.base.get? b = some o → b ≠ c := fun b o e z => by
      subst z
      exact absurd (Nat.lt_of_lt_of_le (Heap.lt_size e) (Nat.le_trans I1.ok.bsz young)) (Nat.lt_irrefl _)
    have nf : ∀ b ∈ frs X.stack, b ≠ c := fun b hb z => by
      subst z
      rcases List.mem_cons.mp (I1.stkSub b hb) with w | w
      · exact I1.cne y b hc w
      · obtain ⟨_, o, ho, _⟩ := I1.ok.funs.mem w
        exact absurd (Nat.lt_of_lt_of_le (Heap.lt_size ho) young) (Nat.lt_irrefl _)
    exact ⟨e0.frames, e0.mod, fun b o e => ⟨(e0.bs b o e).1, by rw [upd_ne (nb b o e)]; exact (e0.bs b o e).2⟩, e0.bsz, e0.funs, fun b hb => by rw [upd_ne (nf b hb)]; exact e0.frf b hb, e0.hok.back hc0 (cell_ok ec dc), e0.bare⟩
  refine wpAny_call (codeAny_mono (F.run X.A X.stack s1 _ ⟨us, []⟩ (us ++ ds) (vs ++ dvs) _ E0 hr e1 (hb s1 us I1.kIn hl) r2 q1) fun r s' hq => ?_)
  cases r with
  | error e => exact hq.elim
  | ok fl =>
    cases fl with
    | ret u => exact I1.afterC hc0 ec hq
    | next => exact False.elim hq
    | brk => exact False.elim hq
    | cont => exact False.elim hq
end
end L2
namespace L2
open PySem PySem.Spec PyProof.Rows
section
variable {X : Cx}
def BMain (mg : Str → Option Value) (h : Heap) : Prop := ∃ bm o, mg "__builtins__" = some (.ref bm) ∧ bm ≠ builtinsNs ∧ h.get? bm = some o ∧ o.cls = .type "module" ∧ o.dict = some builtinsNs ∧ o.data = .plain
abbrev triple (pos : Pos) (cc : Addr) : Array Value := #[rawInt pos.line, rawInt pos.col, .ref cc]
def tLam (P : Addr) (qual : Str) (params : Arguments) (body : Expr) (scope : Scope) (y : Str) (c : Addr) (pm : Value) (pos : Pos) : TE := fun _ H Q =>
  (H P = some (.tbl #[]) ∧ ∀ fl cc ct, H fl = none → H cc = none → fl ≠ cc → Q (.ref fl) (upd (upd (upd H P (.tbl (triple pos cc))) cc (CodeO cc qual)) fl (LamO fl (lamFd qual params body scope y c pm (.ref cc) ct)))) ∨
  ∃ cc, H P = some (.tbl (triple pos cc)) ∧ H cc = some (CodeO cc qual) ∧ ∀ fl ct, H fl = none → Q (.ref fl) (upd H fl (LamO fl (lamFd qual params body scope y c pm (.ref cc) ct)))
theorem pe_lam {P cd c : Addr} {qual y : Str} {params : Arguments} {body : Expr} {scope : Scope} {pos : Pos} (hcd : X.env.code = .ref cd) (C : PySem.W.CodeHd X.base cd P) (bm : BMain X.mg X.base) (hcl : ∀ pins σ H s, Inv X pins σ H s → closureFor scope X.env = pure [(y, c)])
    (hdf : defaultsOf params X.env = ([], [])) (hq : X.env.qual ++ "<lambda>" = qual) : PE X (.Lambda params body scope pos) (tLam P qual params body scope y c ((X.mg "__name__").getD .none) pos) := by
  intro pins s σ H Q I h
  rw [arm_eval_Lambda, hdf, hq]
  have C' : PySem.W.CodeHd s.heap cd P := C.keeps I.bk
  have hg : s.heap.Ns mainGlobals X.mg := I.mod.glob.keeps I.bk
  refine wpAny_bind (m := evalAll []) (wpAny_pure (wpAny_bind (m := holding _ (evalAllOpt [])) (wpAny_holding (wpAny_pure ?_))))
  have track : ∀ ps, H P = some (.tbl ps) → s.heap.get? P = some (PySem.W.tabObj ps) ∧ mainGlobals ≠ P ∧ s.heap.BuiltinsAt X.mg P := fun ps e => by
    have eP : s.heap.get? P = some (PySem.W.tabObj ps) := I.hok P _ e
    have ng : mainGlobals ≠ P := fun z => by
      obtain ⟨o, es, ep, e1, _⟩ := I.mod.glob
      have := (I.bs _ _ e1).2
      rw [z, e] at this
      cases this
    obtain ⟨b, o, b1, b2, b3, b4, b5, b6⟩ := bm
    refine ⟨eP, ng, b, o, b1, b2, fun z => ?_, fun z => ?_, I.bk _ _ b3, b4, b5, b6⟩
    · obtain ⟨o', es, ep, e1, d1, _⟩ := I.mod.glob
      rw [z, e1] at b3
      cases b3
      rw [d1] at b6
      cases b6
    · have := (I.bs _ _ b3).2
      rw [z, e] at this
      cases this
  rcases h with ⟨e, q⟩ | ⟨cc, e, ecc, q⟩
  · obtain ⟨eP, ng, hb⟩ := track _ e
    refine PySem.W.kla_makeFunction (hcl pins σ H s I) I.ok.glob hg hcd C' eP (by trivial) rfl ng hb fun cc ct h' tk hx hge hlt hrec htb => ?_
    have hcc : H cc = none := I.hok.fresh hge
    have hfl : H h'.objs.size = none := I.hok.fresh (Nat.le_trans hge (Nat.le_of_lt hlt))
    have nPc : P ≠ cc := ne_of_none e hcc
    have nPf : P ≠ h'.objs.size := ne_of_none e hfl
    have nfc : h'.objs.size ≠ cc := Nat.ne_of_gt hlt
    generalize eo : PySem.W.kla_obj "<lambda>" qual params body scope [(y, c)] ((X.mg "__name__").getD .none) cc ct = ob
    have old : ∀ b u, H b = some u → b ≠ cc ∧ b ≠ h'.objs.size := fun b u z => ⟨ne_of_none z hcc, ne_of_none z hfl⟩
    have far : ∀ b o, s.heap.get? b = some o → b ≠ cc ∧ b ≠ h'.objs.size := fun b o z => ⟨Nat.ne_of_lt (Nat.lt_of_lt_of_le (Heap.lt_size z) hge), Nat.ne_of_lt (Nat.lt_of_lt_of_le (Heap.lt_size z) (Nat.le_trans hge (Nat.le_of_lt hlt)))⟩
    have kp : ∀ b o, b ≠ P → s.heap.get? b = some o → (h'.push ob).get? b = some o := fun b o n z => Heap.get?_push_of_some _ (hx b o n z)
    have at3 : ∀ b, b ≠ P → b ≠ cc → b ≠ h'.objs.size → upd (upd (upd H P (.tbl (triple pos cc))) cc (CodeO cc qual)) h'.objs.size (LamO h'.objs.size (lamFd qual params body scope y c ((X.mg "__name__").getD .none) (.ref cc) ct)) b = H b := fun b n1 n2 n3 => by rw [upd_ne n3, upd_ne n2, upd_ne n1]
    have atP : upd (upd (upd H P (.tbl (triple pos cc))) cc (CodeO cc qual)) h'.objs.size (LamO h'.objs.size (lamFd qual params body scope y c ((X.mg "__name__").getD .none) (.ref cc) ct)) P = some (.tbl (triple pos cc)) := by rw [upd_ne nPf, upd_ne nPc, upd_same]
    have tP : (h'.push ob).get? P = some (PySem.W.tabObj (triple pos cc)) := by
      refine Heap.get?_push_of_some _ ?_
      rw [htb]
      rfl
    refine ⟨.ref h'.objs.size, _, ?_, rfl, q h'.objs.size cc ct hfl hcc nfc⟩
    refine I.step (ch := []) (fun _ z => nomatch z) (fun b o _ _ _ z n => kp b o (fun w => by rw [w, e] at n; cases n) z) (fun b o _ _ _ z n => ⟨o.slots, kp b o (fun w => by rw [w, e] at n; cases n) z⟩)
      (fun b o _ z n => ?_) (fun b o _ z => ?_) (fun b xs z => ?_) (fun b o u z => ?_) (fun b ps z => ?_) (fun m hm => ?_) (fun b u z => ?_) I.bare
    · rw [at3 b (fun w => by rw [w, e] at n; cases n) (far b o z).1 (far b o z).2]; exact n
    · by_cases w : b = P
      · rw [w]; exact ⟨_, tP⟩
      · exact ⟨o, kp b o w z⟩
    · rw [at3 b (fun w => by rw [w, e] at z; cases z) (old b _ z).1 (old b _ z).2]; exact z
    · rw [at3 b (fun w => by rw [w, e] at z; cases z) (old b _ z).1 (old b _ z).2]; exact z
    · by_cases w : b = P
      · subst w
        rw [e] at z
        cases z
        exact ⟨triple pos cc, by rw [atP]; rfl⟩
      · exact ⟨#[], by rw [at3 b w (old b _ z).1 (old b _ z).2, z]; simp⟩
    · exact hm.at' fun o z => kp _ o (fun w => by have := I.free; rw [w, e] at this; cases this) z
    · by_cases w3 : b = h'.objs.size
      · rw [w3, upd_same] at z
        cases z
        rw [w3]
        exact lam_ok (by rw [← eo]; exact Heap.get?_push_size _ rfl)
      · by_cases w2 : b = cc
        · rw [w2, upd_ne nfc.symm, upd_same] at z
          cases z
          rw [w2]
          exact code_ok (hrec.push _)
        · by_cases w1 : b = P
          · rw [w1, atP] at z
            cases z
            rw [w1]
            exact tP
          · rw [at3 b w1 w2 w3] at z
            refine (I.hok b u z).stay (fun d o hd y => kp d o (fun w => ?_) y) (fun d y => ?_) fun d xs y => ?_
            · rcases hd with v | v
              · exact w1 (v.symm.trans w)
              · rw [w, e] at v; cases v
            · rw [at3 d (fun w => by rw [w, e] at y; cases y) (old d _ y).1 (old d _ y).2]; exact y
            · rw [at3 d (fun w => by rw [w, e] at y; cases y) (old d _ y).1 (old d _ y).2]; exact y
  · obtain ⟨eP, ng, hb⟩ := track _ e
    have found : codeAmong pos (triple pos cc).toList = some (.ref cc) := by
      show (if ((pos.line : Int) == (pos.line : Int) && (pos.col : Int) == (pos.col : Int)) = true then _ else _) = _
      rw [if_pos (by simp)]
    refine PySem.W.kla_makeFunctionHit (hcl pins σ H s I) I.ok.glob hg hcd C' eP (by trivial) found hb fun ct h' tk keep sz => ?_
    have I1 : Inv X pins σ H { s with heap := h', toks := tk } := I.kept keep
    have I2 : Inv X pins σ H { s with heap := h'.push { cls := .type "function", data := .func (lamFd qual params body scope y c ((X.mg "__name__").getD .none) (.ref cc) ct) }, toks := tk } := I1.kept fun b o z => Heap.get?_push_of_some _ z
    have ok : ObjOk X.prog X.w (upd H h'.objs.size (LamO h'.objs.size (lamFd qual params body scope y c ((X.mg "__name__").getD .none) (.ref cc) ct))) (h'.push { cls := .type "function", data := .func (lamFd qual params body scope y c ((X.mg "__name__").getD .none) (.ref cc) ct) }) h'.objs.size (LamO h'.objs.size (lamFd qual params body scope y c ((X.mg "__name__").getD .none) (.ref cc) ct)) := lam_ok (Heap.get?_push_size _ rfl)
    exact ⟨.ref h'.objs.size, _, Inv.trackNew I1 I2 ok, rfl, q _ ct I1.fresh⟩
end
end L2
namespace L2
open PySem PySem.Spec PyProof.Rows
def hpT (K : PySem.W.Frag) (tabs : List Addr) (a : Addr) (o : Obj) (ns : List Int) : Hp := fun b => if b ∈ tabs then some (.tbl #[]) else if b = a ∧ K.lookup a = none then some (.frz o (.lst (ns.map V.int))) else none
theorem law_callT {P : Program} {w : World} {K : PySem.W.Frag} {mg mb : Str → Option Value} {k : Nat} {fa a : Addr} {fd : FuncData} {x : Str} {sp : Sp} {s₁ : Shared} {vs : List Value} {ns : List Int} {tabs : List Addr}
    (KX : K.In s₁.heap) (hns : s₁.heap.Ns mainGlobals mg) (hb : s₁.heap.Ns builtinsNs mb) (hbb : ∀ x : Str, x ≠ "__name__" → mb x = bootBuiltins x) (hlim : s₁.heap.NoLimit) (hg : s₁.gens = #[]) (hbm : BMain mg s₁.heap)
    (ha : s₁.heap.get? a = some { cls := .type "list", data := .seq vs.toArray }) (hi : IntsAre vs ns) (hl : ns.length ≤ sizeLine) (hr : Room k callerA) (hT : ∀ q ∈ tabs, K.lookup q = none ∧ ∃ c, s₁.heap.TableAt c q #[])
    (F : ∀ base : Heap, K.In base → base.Ns mainGlobals mg → BMain mg base → FnOk P w K mg base CX0 k fa fd [x] sp) (hbind : ∀ (s : Shared) (u : Value), BindsTo s fd ⟨[u], []⟩ [(x, u)])
    (hsp : ∀ H : Hp, (∀ q ∈ tabs, H q = some (.tbl #[])) → SqL K H a (ns.map V.int) → sp [.ref a] H (fun v _ => v = .bl true) fun _ _ _ => False) :
    codeAny (model P w) callerA (.call (.ref fa) ⟨[.ref a], []⟩) (fun r s' => r = .ok (.ret (.bool true)) ∧ OldK s₁.heap s'.heap ∧ s'.os = s₁.os ∧ AllBare s'.gens) s₁ := by
  have rv := vals_ints hi
  have lenV := hi.length
  have tabO : ∀ q ∈ tabs, s₁.heap.get? q = some (PySem.W.tabObj #[]) := fun q hq => let ⟨_, c, t⟩ := hT q hq; t.2
  have na : a ∉ tabs := fun hq => by
    have := tabO a hq
    rw [ha] at this
    cases this
  generalize eH : hpT K tabs a { cls := .type "list", data := .seq vs.toArray } ns = H
  have inT : ∀ q ∈ tabs, H q = some (.tbl #[]) := fun q hq => by rw [← eH]; exact if_pos hq
  have outT : ∀ b, b ∉ tabs → H b = if b = a ∧ K.lookup a = none then some (.frz { cls := .type "list", data := .seq vs.toArray } (.lst (ns.map V.int))) else none := fun b hb => by rw [← eH]; exact if_neg hb
  -- what is tracked is a table or the script
  have what : ∀ b u, H b = some u → (b ∈ tabs ∧ u = .tbl #[]) ∨ (b = a ∧ K.lookup a = none ∧ u = .frz { cls := .type "list", data := .seq vs.toArray } (.lst (ns.map V.int))) := fun b u e => by
    by_cases hb : b ∈ tabs
    · rw [inT b hb] at e
      cases e
      exact .inl ⟨hb, rfl⟩
    · rw [outT b hb] at e
      by_cases h : b = a ∧ K.lookup a = none
      · rw [if_pos h] at e
        cases e
        exact .inr ⟨h.1, h.2, rfl⟩
      · rw [if_neg h] at e
        cases e
  have hok : HOk P w H s₁.heap := fun b u e => by
    rcases what b u e with ⟨hb, rfl⟩ | ⟨rfl, _, rfl⟩
    · exact tabO b hb
    · exact ⟨ha, by rw [List.length_map]; exact hl, vs, _, rv, ha⟩
  have hS : SqL K H a (ns.map V.int) := by
    cases hk : K.lookup a with
    | some o =>
      have e := KX a o hk
      rw [ha] at e
      cases e
      exact .inr ⟨_, vs.toArray, _, hk, rfl, rfl, rfl, by rw [List.size_toArray, lenV]; exact hl, by simpa using rv⟩
    | none => exact .inl (.inr ⟨{ cls := .type "list", data := .seq vs.toArray }, by rw [outT a na, if_pos ⟨rfl, hk⟩]⟩)
  -- what is no list and no table stays in the base
  have free : ∀ {b : Addr} {o : Obj}, s₁.heap.get? b = some o → o.cls ≠ .none → (∀ its n, o.data ≠ .seq its n) → H b = none := fun {b o} e hc hd => by
    cases q : H b with
    | none => rfl
    | some u =>
      rcases what b u q with ⟨hb, _⟩ | ⟨rfl, _, _⟩
      · rw [tabO b hb] at e
        cases e
        exact absurd rfl hc
      · rw [ha] at e
        cases e
        exact absurd rfl (hd _ _)
  have nsK : ∀ {b : Addr} {m : Str → Option Value}, s₁.heap.Ns b m → (hidT s₁.heap H).Ns b m := fun {b m} ⟨o, es, ep, e, d, r⟩ => by
    refine ⟨o, es, ep, hidT_get e ?_, d, r⟩
    cases q : H b with
    | none => rfl
    | some u =>
      rcases what b u q with ⟨hb, _⟩ | ⟨rfl, _, _⟩
      · rw [tabO b hb] at e
        cases e
        cases d
      · rw [ha] at e
        cases e
        cases d
  have hKb : K.In (hidT s₁.heap H) := fun b o e => hidT_get (KX b o e) (by
    cases q : H b with
    | none => rfl
    | some u =>
      rcases what b u q with ⟨hb, _⟩ | ⟨rfl, hk, _⟩
      · rw [(hT b hb).1] at e
        cases e
      · rw [hk] at e
        cases e)
  have hBb : BMain mg (hidT s₁.heap H) := by
    obtain ⟨bm, o, b1, b2, b3, b4, b5, b6⟩ := hbm
    exact ⟨bm, o, b1, b2, hidT_get b3 (free b3 (by rw [b4]; nofun) (fun its n z => by rw [b6] at z; cases z)), b4, b5, b6⟩
  have hM : Mod K mg (hidT s₁.heap H) := ⟨hKb, nsK hns, ⟨mb, nsK hb, hbb⟩, let ⟨mc, h1, h2⟩ := hlim; ⟨mc, nsK h1, h2⟩⟩
  have e0 : Env0 P w K mg (hidT s₁.heap H) callerA [] s₁ H := ⟨rfl, hM, fun b o e => of_hidT e, Nat.le_of_eq (hidT_size _ _), trivial, fun b hb => absurd (show b ∈ ([] : List Addr) from hb) (by simp), hok, .of_eq hg⟩
  refine codeAny_mono ((F _ hKb (nsK hns) hBb).run callerA [] s₁ H ⟨[.ref a], []⟩ [.ref a] [.ref a] _ _ hr e0 (hbind s₁ (.ref a)) (.cons rfl .nil) (hsp H inT hS)) fun r s' h => ?_
  cases r with
  | error e => exact h.elim
  | ok fl =>
    cases fl with
    | next => exact False.elim h
    | brk => exact False.elim h
    | cont => exact False.elim h
    | ret u =>
      obtain ⟨v, H', os, bare, un, hok', r', q⟩ := h
      have q' : v = .bl true := q
      subst q'
      obtain rfl : u = Value.bool true := r'
      refine ⟨rfl, ⟨fun b o e => ?_, fun b o e => un.there b o e (by simp)⟩, os, bare⟩
      cases z : H b with
      | none => exact .inl (un.keep b o e z (by intro y; exact absurd (show b ∈ ([] : List Addr) from y) (by simp)) (by simp))
      | some u =>
        rcases what b u z with ⟨hb, rfl⟩ | ⟨rfl, _, rfl⟩
        · obtain ⟨more, z2⟩ := un.tbls b _ z
          have e2 : s'.heap.get? b = some (PySem.W.tabObj (#[] ++ more)) := hok' b _ z2
          rw [tabO b hb] at e
          cases e
          obtain ⟨_, c, t⟩ := hT b hb
          exact .inr (.inl ⟨t.isCodeTable, rfl, #[], more, rfl, e2⟩)
        · obtain ⟨e2, _⟩ := hok' b _ (un.frzs b _ _ z)
          rw [ha] at e
          cases e
          exact .inl e2
theorem walk_ofT {l : PySem.W.OpenLaw} {n k : Nat} {q : Program} {loose : List Str} {XP : (Str → Option Value) → Heap → Prop} {YP : World → Heap → Prop} {d : DefRec} {K : Params → PySem.W.Frag} {sp : World → Sp} {x : Str} {tabs : List (Str × Addr)}
    (hn : l.most = some n) (hn2 : n ≤ sizeLine) (hdf : d.params.defaults = []) (hr : Room k callerA) (hY : ∀ (w : World) (h : Heap), YP w h → (K w.params).In h)
    (hT : ∀ w : World, ∀ t ∈ tabs, (K w.params).lookup t.2 = none ∧ (∃ c, PySem.W.tabIn (K w.params) t.1 = some (c, t.2)) ∧ ∃ e, (recsOf q).find? (fun r => r.name == t.1) = some e)
    (F : ∀ (w : World) (mg : Str → Option Value) (fa : Addr) (h : Heap), (K w.params).In h → h.Ns mainGlobals mg → mg d.name = some (.ref fa) →
      ∃ fd : FuncData, (∀ (s : Shared) (u : Value), BindsTo s fd ⟨[u], []⟩ [(x, u)]) ∧ ∀ base : Heap, (K w.params).In base → base.Ns mainGlobals mg → BMain mg base → FnOk l.prog w (K w.params) mg base CX0 k fa fd [x] (sp w))
    (hsp : ∀ (w : World) (H : Hp) (a : Addr) (ns : List Int), ns.length ≤ n → (∀ t ∈ tabs, H t.2 = some (.tbl #[])) → SqL (K w.params) H a (ns.map V.int) → sp w [.ref a] H (fun v _ => v = .bl true) fun _ _ _ => False) :
    PySem.W.WalkO q loose XP YP l.row.toRowW d [] (fun f vs => PySem.call f vs) := by
  refine Att.attach_call hn hdf fun w s₀ s₁ mg mb fa o pm cd doc a vs ns G Y ho hd hcd hmg hobj hints hlen hg => ?_
  have KX := hY w _ Y
  obtain ⟨fd, hb, hF⟩ := F w mg fa _ KX G.T.g hmg
  refine law_callT (tabs := tabs.map (·.2)) KX G.T.g G.T.b G.T.builtins G.T.nolimit hg G.T.bmain hobj hints (Nat.le_trans hlen hn2) hr (fun q hq => ?_) hF hb (fun H hH hS => hsp w H a ns hlen (fun t ht => hH _ (List.mem_map_of_mem ht)) hS)
  obtain ⟨t, ht, rfl⟩ := List.mem_map.mp hq
  obtain ⟨h1, ⟨c, h2⟩, e, h3⟩ := hT w t ht
  obtain ⟨C, eP⟩ := PySem.W.tab_of G.T KX h3 h2
  exact ⟨h1, c, C.tab eP⟩
end L2
namespace L2
def sl (u v : List Nat) : Prop := u.length < v.length ∨ (u.length = v.length ∧ ltl u v = true)
theorem ltl_cons_ne {a b : Nat} {xs ys : List Nat} (h : a ≠ b) : ltl (a :: xs) (b :: ys) = decide (a < b) := by
  unfold ltl
  rw [ltlO, if_neg h]
  rfl
theorem ltl_cons {a : Nat} {xs ys : List Nat} : ltl (a :: xs) (a :: ys) = ltl xs ys := by
  unfold ltl
  rw [ltlO, if_pos rfl]
  cases ltlO xs ys with
  | none => simp
  | some b => rfl
theorem ltl_trans : ∀ {xs ys zs : List Nat}, xs.length = ys.length → ys.length = zs.length → ltl xs ys = true → ltl ys zs = true → ltl xs zs = true
  | [], [], _, _, _, h, _ => by rw [ltl_irr] at h; cases h
  | [], _ :: _, _, h, _, _, _ => by simp at h
  | _ :: _, [], _, h, _, _, _ => by simp at h
  | _ :: _, _ :: _, [], _, h, _, _ => by simp at h
  | a :: xs, b :: ys, c :: zs, h1, h2, h3, h4 => by
    by_cases ab : a = b
    · subst ab
      rw [ltl_cons] at h3
      by_cases bc : a = c
      · subst bc
        rw [ltl_cons] at h4 ⊢
        exact ltl_trans (by simpa using h1) (by simpa using h2) h3 h4
      · rw [ltl_cons_ne bc] at h4 ⊢
        exact h4
    · rw [ltl_cons_ne ab] at h3
      have h3' : a < b := of_decide_eq_true h3
      by_cases bc : b = c
      · subst bc
        rw [ltl_cons_ne ab]
        exact h3
      · rw [ltl_cons_ne bc] at h4
        have h4' : b < c := of_decide_eq_true h4
        rw [ltl_cons_ne (by omega)]
        exact decide_eq_true (by omega)
theorem ltl_behind : ∀ {xs ys us vs : List Nat}, xs.length = ys.length → ltl xs ys = true → ltl (xs ++ us) (ys ++ vs) = true
  | [], [], _, _, _, h => by rw [ltl_irr] at h; cases h
  | [], _ :: _, _, _, h, _ => by simp at h
  | _ :: _, [], _, _, h, _ => by simp at h
  | a :: xs, b :: ys, us, vs, h1, h2 => by
    by_cases ab : a = b
    · subst ab
      rw [List.cons_append, List.cons_append, ltl_cons]
      rw [ltl_cons] at h2
      exact ltl_behind (by simpa using h1) h2
    · rw [List.cons_append, List.cons_append, ltl_cons_ne ab]
      rw [ltl_cons_ne ab] at h2
      exact h2
theorem ltl_last (xs : List Nat) {a b : Nat} (h : a < b) : ltl (xs ++ [a]) (xs ++ [b]) = true := by
  induction xs with
  | nil => exact (ltl_cons_ne (by omega)).trans (decide_eq_true h)
  | cons x xs ih => rw [List.cons_append, List.cons_append, ltl_cons]; exact ih
theorem sl_trans {u v x : List Nat} (h1 : sl u v) (h2 : sl v x) : sl u x := by
  rcases h1 with h1 | ⟨e1, l1⟩ <;> rcases h2 with h2 | ⟨e2, l2⟩
  · exact .inl (by omega)
  · exact .inl (by omega)
  · exact .inl (by omega)
  · exact .inr ⟨by omega, ltl_trans e1 e2 l1 l2⟩
theorem sl_irr {u : List Nat} (h : sl u u) : False := by
  rcases h with h | ⟨_, h⟩
  · omega
  · rw [ltl_irr] at h; cases h
theorem sl_snoc {u v : List Nat} {a b : Nat} (h : sl u v) : sl (u ++ [a]) (v ++ [b]) := by
  rcases h with h | ⟨e, l⟩
  · exact .inl (by simp; omega)
  · exact .inr ⟨by simp [e], ltl_behind e l⟩
theorem sl_last (u : List Nat) {a b : Nat} (h : a < b) : sl (u ++ [a]) (u ++ [b]) := .inr ⟨by simp, ltl_last u h⟩
def sle (u v : List Nat) : Prop := u = v ∨ sl u v
theorem sle_trans {u v x : List Nat} (h1 : sle u v) (h2 : sle v x) : sle u x := by
  rcases h1 with rfl | h1
  · exact h2
  · rcases h2 with rfl | h2
    · exact .inr h1
    · exact .inr (sl_trans h1 h2)
theorem sle_snoc {u v : List Nat} {a : Nat} (h : sle u v) : sle (u ++ [a]) (v ++ [a]) := by
  rcases h with rfl | h
  · exact .inl rfl
  · exact .inr (sl_snoc h)
section
variable (f : List Nat → Nat → List Nat) (L : Nat) (x0 : List Nat)
abbrev TW := List (List Nat × List Nat)
def goes (word : List Nat) : List Nat := word.foldl f x0
def Goes (ws : TW) (p : List Nat × List Nat) (l : Nat) : Prop := ∃ u, (f p.1 l, u) ∈ ws ∧ sle u (p.2 ++ [l])
structure Told (ws : TW) : Prop where
  head : ws[0]? = some (x0, [])
  keys : (ws.map (·.1)).Nodup
  run : ∀ p ∈ ws, (∀ l ∈ p.2, l < L) ∧ goes f x0 p.2 = p.1
  up : ws.Pairwise fun p q => sl p.2 q.2
  all : ∀ p ∈ ws, ∀ l, l < L → Goes f ws p l
  short : ∀ p ∈ ws, p.2.length < ws.length
structure Bfs (d : Nat) (ws wv fo : TW) (i j : Nat) : Prop where
  head : ws[0]? = some (x0, [])
  keys : (ws.map (·.1)).Nodup
  run : ∀ p ∈ ws, (∀ l ∈ p.2, l < L) ∧ goes f x0 p.2 = p.1
  up : ws.Pairwise fun p q => sl p.2 q.2
  len : ∀ p ∈ ws, p.2.length ≤ d + 1
  wave : ∀ p ∈ wv, p ∈ ws ∧ p.2.length = d
  wup : wv.Pairwise fun p q => sl p.2 q.2
  foll : ∀ p ∈ fo, p ∈ ws ∧ p.2.length = d + 1
  fup : fo.Pairwise fun p q => sl p.2 q.2
  front : ∀ p ∈ ws, ∀ t, wv[i]? = some t → sl p.2 (t.2 ++ [j])
  done : ∀ p ∈ ws, p ∈ fo ∨ (∃ a, i ≤ a ∧ wv[a]? = some p) ∨ ∀ l, l < L → Goes f ws p l
  part : ∀ t, wv[i]? = some t → ∀ l, l < j → Goes f ws t l
  short : ∀ p ∈ ws, p.2.length < ws.length
variable {f L x0} {d i j : Nat} {ws wv fo : TW} {t : List Nat × List Nat}
theorem Goes.more {p q : List Nat × List Nat} {l : Nat} (h : Goes f ws p l) : Goes f (ws ++ [q]) p l := by
  obtain ⟨u, h1, h2⟩ := h
  exact ⟨u, List.mem_append_left _ h1, h2⟩
theorem Bfs.start : Bfs f L x0 0 [(x0, [])] [(x0, [])] [] 0 0 where
  head := rfl
  keys := by simp
  run := fun p hp => by
    rw [List.mem_singleton.mp hp]
    exact ⟨fun _ h => (nomatch h), rfl⟩
  up := List.pairwise_singleton _ _
  len := fun p hp => by rw [List.mem_singleton.mp hp]; simp
  wave := fun p hp => ⟨hp, by rw [List.mem_singleton.mp hp]; rfl⟩
  wup := List.pairwise_singleton _ _
  foll := fun _ h => nomatch h
  fup := .nil
  front := fun p hp t _ => by
    rw [List.mem_singleton.mp hp]
    exact .inl (by simp)
  done := fun p hp => .inr (.inl ⟨0, Nat.le_refl _, by rw [List.mem_singleton.mp hp]; rfl⟩)
  part := fun _ _ _ h => absurd h (Nat.not_lt_zero _)
  short := fun p hp => by rw [List.mem_singleton.mp hp]; simp
theorem Bfs.old (b : Bfs f L x0 d ws wv fo i j) (ht : wv[i]? = some t) (hm : f t.1 j ∈ ws.map (·.1)) : Bfs f L x0 d ws wv fo i (j + 1) := by
  obtain ⟨p, hp, e⟩ := List.mem_map.mp hm
  refine { b with front := fun q hq t' ht' => ?_, part := fun t' ht' l hl => ?_ }
  · exact sl_trans (b.front q hq t' ht') (sl_last _ (Nat.lt_succ_self _))
  · rcases Nat.lt_succ_iff_lt_or_eq.mp hl with hl | rfl
    · exact b.part t' ht' l hl
    · rw [ht] at ht'
      cases ht'
      exact ⟨p.2, by rw [← e]; exact hp, .inr (b.front p hp t ht)⟩
theorem Bfs.new (b : Bfs f L x0 d ws wv fo i j) (ht : wv[i]? = some t) (hj : j < L) (hm : f t.1 j ∉ ws.map (·.1)) :
    Bfs f L x0 d (ws ++ [(f t.1 j, t.2 ++ [j])]) wv (fo ++ [(f t.1 j, t.2 ++ [j])]) i (j + 1) := by
  obtain ⟨tw, tl⟩ := b.wave t (List.mem_of_getElem? ht)
  obtain ⟨r1, r2⟩ := b.run t tw
  have nl : (t.2 ++ [j]).length = d + 1 := by simp [tl]
  have pos : 0 < ws.length := List.length_pos_of_mem tw
  refine ⟨?_, ?_, fun p hp => ?_, ?_, fun p hp => ?_, fun p hp => ⟨List.mem_append_left _ (b.wave p hp).1, (b.wave p hp).2⟩, b.wup, fun p hp => ?_, ?_, fun p hp t' ht' => ?_, fun p hp => ?_, fun t' ht' l hl => ?_, fun p hp => ?_⟩
  · rw [List.getElem?_append_left pos]
    exact b.head
  · rw [List.map_append, List.nodup_append]
    refine ⟨b.keys, by simp, fun x hx y hy z => ?_⟩
    simp at hy
    subst hy
    exact hm (z ▸ hx)
  · rcases List.mem_append.mp hp with hp | hp
    · exact b.run p hp
    · rw [List.mem_singleton.mp hp]
      refine ⟨fun l hl => ?_, ?_⟩
      · rcases List.mem_append.mp hl with hl | hl
        · exact r1 l hl
        · rw [List.mem_singleton.mp hl]; exact hj
      · show goes f x0 (t.2 ++ [j]) = f t.1 j
        unfold goes at r2 ⊢
        rw [List.foldl_append, r2]
        rfl
  · rw [List.pairwise_append]
    refine ⟨b.up, List.pairwise_singleton _ _, fun p hp q hq => ?_⟩
    rw [List.mem_singleton.mp hq]
    exact b.front p hp t ht
  · rcases List.mem_append.mp hp with hp | hp
    · exact b.len p hp
    · rw [List.mem_singleton.mp hp]; exact Nat.le_of_eq nl
  · rcases List.mem_append.mp hp with hp | hp
    · exact ⟨List.mem_append_left _ (b.foll p hp).1, (b.foll p hp).2⟩
    · exact ⟨List.mem_append_right _ hp, by rw [List.mem_singleton.mp hp]; exact nl⟩
  · rw [List.pairwise_append]
    refine ⟨b.fup, List.pairwise_singleton _ _, fun p hp q hq => ?_⟩
    rw [List.mem_singleton.mp hq]
    exact b.front p (b.foll p hp).1 t ht
  · rw [ht] at ht'
    cases ht'
    rcases List.mem_append.mp hp with hp | hp
    · exact sl_trans (b.front p hp t ht) (sl_last _ (Nat.lt_succ_self _))
    · rw [List.mem_singleton.mp hp]
      exact sl_last _ (Nat.lt_succ_self _)
  · rcases List.mem_append.mp hp with hp | hp
    · rcases b.done p hp with h | h | h
      · exact .inl (List.mem_append_left _ h)
      · exact .inr (.inl h)
      · exact .inr (.inr fun l hl => (h l hl).more)
    · exact .inl (List.mem_append_right _ hp)
  · rw [ht] at ht'
    cases ht'
    rcases Nat.lt_succ_iff_lt_or_eq.mp hl with hl | rfl
    · exact (b.part t ht l hl).more
    · exact ⟨t.2 ++ [l], List.mem_append_right _ (List.mem_singleton.mpr rfl), .inl rfl⟩
  · rw [List.length_append, List.length_singleton]
    rcases List.mem_append.mp hp with hp | hp
    · exact Nat.lt_succ_of_lt (b.short p hp)
    · rw [List.mem_singleton.mp hp]
      have z := b.short t tw
      show (t.2 ++ [j]).length < _
      rw [List.length_append, List.length_singleton]
      omega
theorem Bfs.next (b : Bfs f L x0 d ws wv fo i L) (ht : wv[i]? = some t) : Bfs f L x0 d ws wv fo (i + 1) 0 := by
  refine { b with front := fun p hp t' ht' => ?_, done := fun p hp => ?_, part := fun _ _ l hl => absurd hl (Nat.not_lt_zero _) }
  · have h1 := b.front p hp t ht
    have h2 : sl t.2 t'.2 := by
      obtain ⟨l1, e1⟩ := List.getElem?_eq_some_iff.mp ht
      obtain ⟨l2, e2⟩ := List.getElem?_eq_some_iff.mp ht'
      rw [← e1, ← e2]
      exact List.pairwise_iff_getElem.mp b.wup i (i + 1) l1 l2 (Nat.lt_succ_self _)
    exact sl_trans h1 (sl_snoc h2)
  · rcases b.done p hp with h | ⟨a, h1, h2⟩ | h
    · exact .inl h
    · rcases Nat.eq_or_lt_of_le h1 with e | e
      · subst e
        rw [ht] at h2
        cases h2
        exact .inr (.inr fun l hl => b.part t ht l hl)
      · exact .inr (.inl ⟨a, e, h2⟩)
    · exact .inr (.inr h)
theorem Bfs.wave' (b : Bfs f L x0 d ws wv fo wv.length 0) : Bfs f L x0 (d + 1) ws fo [] 0 0 := by
  refine ⟨b.head, b.keys, b.run, b.up, fun p hp => Nat.le_succ_of_le (b.len p hp), b.foll, b.fup, fun _ h => (nomatch h), .nil, fun p hp t ht => ?_, fun p hp => ?_, fun _ _ l hl => absurd hl (Nat.not_lt_zero _), b.short⟩
  · have h1 := b.len p hp
    have h2 := (b.foll t (List.mem_of_getElem? ht)).2
    exact .inl (by simp; omega)
  · rcases b.done p hp with h | ⟨a, h1, h2⟩ | h
    · obtain ⟨a, e⟩ := List.mem_iff_getElem?.mp h
      exact .inr (.inl ⟨a, Nat.zero_le _, e⟩)
    · rw [List.getElem?_eq_none h1] at h2
      cases h2
    · exact .inr (.inr h)
theorem Bfs.told (b : Bfs f L x0 d ws [] [] 0 0) : Told f L x0 ws := ⟨b.head, b.keys, b.run, b.up, fun p hp => by
  rcases b.done p hp with h | ⟨a, _, h⟩ | h
  · nomatch h
  · simp at h
  · exact h, b.short⟩
theorem Told.least (T : Told f L x0 ws) : ∀ (n : Nat) (v : List Nat), v.length = n → (∀ l ∈ v, l < L) → ∃ u, (goes f x0 v, u) ∈ ws ∧ sle u v
  | 0, v, hn, _ => by
    have e : v = [] := List.length_eq_zero_iff.mp hn
    subst e
    exact ⟨[], List.mem_of_getElem? T.head, .inl rfl⟩
  | n + 1, v, hn, hv => by
    obtain ⟨v', l, rfl⟩ : ∃ v' l, v = v' ++ [l] := ⟨v.dropLast, v.getLast (by intro z; rw [z] at hn; cases hn), (List.dropLast_concat_getLast _).symm⟩
    obtain ⟨u, h1, h2⟩ := T.least n v' (by simp at hn; omega) fun x hx => hv x (List.mem_append_left _ hx)
    obtain ⟨u', h3, h4⟩ := T.all _ h1 l (hv l (List.mem_append_right _ (List.mem_singleton.mpr rfl)))
    refine ⟨u', ?_, sle_trans h4 (sle_snoc h2)⟩
    have e : goes f x0 (v' ++ [l]) = f (goes f x0 v') l := by
      unfold goes
      rw [List.foldl_append]
      rfl
    rw [e]
    exact h3
theorem goes_in {U : List (List Nat)} (h0 : x0 ∈ U) (hU : ∀ x ∈ U, ∀ l, l < L → f x l ∈ U) : ∀ word : List Nat, (∀ l ∈ word, l < L) → goes f x0 word ∈ U := by
  have go : ∀ (word : List Nat) (x : List Nat), x ∈ U → (∀ l ∈ word, l < L) → word.foldl f x ∈ U := by
    intro word
    induction word with
    | nil => intro x hx _; exact hx
    | cons l word ih => intro x hx h; exact ih _ (hU x hx l (h l (List.mem_cons_self ..))) fun y hy => h y (List.mem_cons_of_mem _ hy)
  exact fun word h => go word x0 h0 h
theorem few_of {U : List (List Nat)} {l : List (List Nat)} (nd : l.Nodup) (h : ∀ x ∈ l, x ∈ U) : l.length ≤ U.length := List.Nodup.length_le_of_subset nd h
end
end L2
namespace L2
theorem sl_asym {u v : List Nat} (h1 : sl u v) (h2 : sl v u) : False := sl_irr (sl_trans h1 h2)
theorem sle_anti {u v : List Nat} (h1 : sle u v) (h2 : sle v u) : u = v := by
  rcases h1 with h1 | h1
  · exact h1
  · rcases h2 with h2 | h2
    · exact h2.symm
    · exact (sl_asym h1 h2).elim
theorem Told.sub {f : List Nat → Nat → List Nat} {L : Nat} {x0 : List Nat} {ws vs : TW} (T : Told f L x0 ws) (T' : Told f L x0 vs) {p : List Nat × List Nat} (hp : p ∈ ws) : p ∈ vs := by
  obtain ⟨r1, r2⟩ := T.run p hp
  obtain ⟨u, h1, h2⟩ := T'.least _ p.2 rfl r1
  rw [r2] at h1
  obtain ⟨r3, r4⟩ := T'.run _ h1
  obtain ⟨u', h3, h4⟩ := T.least _ u rfl r3
  have e : goes f x0 u = p.1 := r4
  rw [e] at h3
  have same : u' = p.2 := by
    obtain ⟨i, ei⟩ := List.mem_iff_getElem?.mp h3
    obtain ⟨j, ej⟩ := List.mem_iff_getElem?.mp hp
    have ij : i = j := (List.getElem?_inj (by rw [List.length_map]; exact (List.getElem?_eq_some_iff.mp ei).1) T.keys).mp (by rw [List.getElem?_map, List.getElem?_map, ei, ej]; rfl)
    subst ij
    rw [ei] at ej
    have z := Option.some.inj ej
    rw [← z]
  rw [same] at h4
  have uu : u = p.2 := sle_anti h2 h4
  rw [uu] at h1
  exact h1
end L2
namespace L2
open PySem PySem.Spec PyProof.Rows
section
variable {P : Program} {w : World} {A : Around} {E : Value → Shared → Prop} {s : Shared} {it d : Addr} {i ep : Nat} {es : Array DictEntry}
abbrev pairObj (k v : Value) : Obj := { cls := .type "tuple", data := .seq #[k, v] }
abbrev goerObj (own : Value) (out : Bool) (d : Addr) (i n ep : Nat) (k v : Value) : Obj := { cls := .type "dict_itemiterator", data := .fields #[own, .bool out, .ref d, .int i 0, .int n 0, .int ep 0, k, v] }
def Lies (h : Heap) (d : Addr) (es : Array DictEntry) (ep : Nat) : Prop := ∃ o, h.get? d = some o ∧ o.ExactDict ∧ o.data = .dict es ep
def Goer (h : Heap) (it d : Addr) (i n ep : Nat) : Prop := ∃ own out k v, h.get? it = some (goerObj own out d i n ep k v) ∧ (own = .none ∨ ∃ a : Nat, own = rawInt a ∧ a ≠ it ∧ ∃ o, h.get? a = some o)
theorem Goer.keep {h h' : Heap} {n : Nat} (g : Goer h it d i n ep) (k : ∀ o, h.get? it = some o → h'.get? it = some o) (l : ∀ b o, h.get? b = some o → ∃ o', h'.get? b = some o') : Goer h' it d i n ep := by
  obtain ⟨own, out, x, v, e, c⟩ := g
  refine ⟨own, out, x, v, k _ e, c.imp id ?_⟩
  rintro ⟨a, ea, na, o, eo⟩
  exact ⟨a, ea, na, l a o eo⟩
end
end L2
namespace L2
open PySem PySem.Spec PyProof.Rows
section
variable {P : Program} {w : World} {A : Around} {E : Value → Shared → Prop} {s : Shared} {it d : Addr} {i ep : Nat} {es : Array DictEntry}
theorem goer_end {Q : Option Value → Shared → Prop} (hh : A.handled = none) (G : Goer s.heap it d i es.size ep) (L : Lies s.heap d es ep) (hx : es[i]? = none)
    (q : ∀ h', Heap.ExtBut it s.heap h' → Q none { s with heap := h' }) : wpAny (model P w) A (pyNext (.ref it)) Q E s := by
  obtain ⟨own, out, k0, v0, e, c⟩ := G
  obtain ⟨o, ho, _, hd⟩ := L
  have ty : s.TypeIs (.ref it) "dict_itemiterator" := ⟨_, e, rfl⟩
  unfold pyNext
  refine wpAny_bind (wpAny_attempt (wpAny_callSpecial?_slot (name := Str.ofString "__next__") ty F.slot_dict_itemiterator_next (wpAny_call_entry F.slot_dict_itemiterator_next ty F.entry_dict_itemiterator_next ?_ (F.args_dict_itemiterator_next_1 _))))
  refine wpAny_bind (wpAny_pure (wpAny_bind (wpAny_bind ?_)))
  refine wpAny_bind (wpAny_typeNameOfWhole_itemiter ty (wpAny_pure (wpAny_bind (wpAny_fieldsOf e rfl ?_))))
  have own2 : Builtin.Dict_items.ownsTuple "dict_itemiterator" = true := by decide
  simp only [own2, if_true]
  refine show wpAny _ _ (if (Value.ref d == Value.none) = true then _ else _) _ _ s from (if_neg (show ¬ ((Value.ref d == Value.none) = true) from Bool.false_ne_true)) ▸ wpAny_bind (wpAny_pure (wpAny_bind (wpAny_dictEntries ho hd ?_)))
  rw [if_neg (by simp)]
  refine wpAny_bind (wpAny_pure (wpAny_bind (wpAny_dictEpoch ho hd ?_)))
  rw [if_neg (by simp)]
  refine wpAny_pure ?_
  have at0 : (if ((i : Nat) : Int) < 0 then none else es[((i : Nat) : Int).toNat]?) = none := by
    rw [if_neg (by omega), Int.toNat_natCast]
    exact hx
  show wpAny _ _ (match (if ((i : Nat) : Int) < 0 then none else es[((i : Nat) : Int).toNat]?) with | some e => _ | none => _) _ _ s
  rw [at0]
  refine wpAny_bind (wpAny_bind (wpAny_typeNameOfWhole_itemiter ty (wpAny_pure ?_)))
  refine show wpAny _ _ (setField (.ref it) 2 .none >>= _) _ _ s from wpAny_bind (wpAny_setField_rec e (by simp) fun h1 e1 sb => ?_)
  refine wpAny_bind (m := newExc _ _) ?_
  simp only [newExc, newTuple]
  refine wpAny_bind (wpAny_newObj_type ?_ (by size_fits))
  refine wpAny_bind (m := firstArgMember _ _) (wpAny_of_eq (a := Value.none) (by first | rfl | (unfold firstArgMember; rfl)) (wpAny_newObj_type ?_ (by size_fits)))
  refine wpAny_raiseNew_none (by simpa using hh) (wpAny_bind (wpAny_isInstance (T := "StopIteration") (b := true) ⟨_, Heap.get?_push_size _ rfl, rfl⟩ isSubtype_stop (wpAny_pure ?_)))
  exact q _ fun b o nb z => Heap.get?_push_of_some _ (Heap.get?_push_of_some _ (sb.extBut b o nb z))
end
end L2
namespace L2
open PySem PySem.Spec PyProof.Rows
structure PMade (es : Array DictEntry) (lo : Addr) (h : Heap) (as : List Addr) : Prop where
  far : ∀ a ∈ as, lo < a
  up : as.Pairwise (· < ·)
  is : ∀ (j : Nat) (a : Addr), as[j]? = some a → ∃ en : DictEntry, es[j]? = some en ∧ h.get? a = some (pairObj en.key en.val)
theorem PMade.nil {es : Array DictEntry} {lo : Addr} {h : Heap} : PMade es lo h [] := ⟨fun _ z => (nomatch z), .nil, fun _ _ z => by simp at z⟩
theorem PMade.here {es : Array DictEntry} {lo : Addr} {h : Heap} {as : List Addr} (m : PMade es lo h as) : ∀ a ∈ as, a < h.objs.size := fun a ha => by
  obtain ⟨j, e⟩ := List.mem_iff_getElem?.mp ha
  obtain ⟨_, _, g⟩ := m.is j a e
  exact Heap.lt_size g
theorem PMade.keep {es : Array DictEntry} {lo : Addr} {h h' : Heap} {as : List Addr} (m : PMade es lo h as) (k : ∀ b o, lo < b → h.get? b = some o → h'.get? b = some o) : PMade es lo h' as :=
  ⟨m.far, m.up, fun j a e => by
    obtain ⟨en, x, g⟩ := m.is j a e
    exact ⟨en, x, k a _ (m.far a (List.mem_of_getElem? e)) g⟩⟩
theorem PMade.more {es : Array DictEntry} {lo a : Addr} {h : Heap} {as : List Addr} {en : DictEntry} (m : PMade es lo h as) (la : lo < a) (new : ∀ b ∈ as, b < a) (x : es[as.length]? = some en) (g : h.get? a = some (pairObj en.key en.val)) : PMade es lo h (as ++ [a]) :=
  ⟨fun b hb => by
    rcases List.mem_append.mp hb with z | z
    · exact m.far b z
    · rw [List.mem_singleton.mp z]; exact la,
   List.pairwise_append.mpr ⟨m.up, List.pairwise_singleton _ _, fun b hb c hc => by rw [List.mem_singleton.mp hc]; exact new b hb⟩,
   fun j b e => by
    by_cases hj : j < as.length
    · rw [List.getElem?_append_left hj] at e
      exact m.is j b e
    · rw [List.getElem?_append_right (Nat.le_of_not_lt hj)] at e
      obtain ⟨z, e'⟩ := List.getElem?_eq_some_iff.mp e
      have j0 : j - as.length = 0 := by simp at z; omega
      have jj : j = as.length := by omega
      subst jj
      simp at e'
      subst e'
      exact ⟨en, x, g⟩⟩
section
variable {P : Program} {w : World} {A : Around} {R : Result → Shared → Prop} {S I d : Addr} {ep : Nat} {es : Array DictEntry} {res : Value}
abbrev lstAt (h : Heap) (S : Addr) (vs : Array Value) (c : Nat) : Prop := h.get? S = some { cls := .type "list", data := .seq vs c }
end
end L2
namespace L2
open PySem PySem.Spec PyProof.Rows
section
variable {P : Program} {w : World} {A : Around} {E : Value → Shared → Prop} {s : Shared} {v d : Addr} {ep : Nat} {es : Array DictEntry}
abbrev viewObj (d : Addr) : Obj := { cls := .type "dict_items", data := .fields #[.ref d] }
theorem Lies.typeIs {s : Shared} (L : Lies s.heap d es ep) : s.TypeIs (.ref d) "dict" := let ⟨o, h, x, _⟩ := L; ⟨o, h, x.1⟩
theorem view_made {Q : Value → Shared → Prop} (nd : (d == sysModules) = false) (L : Lies s.heap d es ep) (q : Q (.ref s.heap.objs.size) { s with heap := s.heap.push (viewObj d) }) : wpAny (model P w) A (call (.builtin "dict.items") [.ref d]) Q E s := by
  refine call_meetsIn (S := fun _ R s => Lies s.heap d es ep ∧ R (.ok (.ret (.ref s.heap.objs.size))) { s with heap := s.heap.push (viewObj d) }) F.slot_dict_items L.typeIs F.entry_dict_items (F.args_dict_items_1 _) (.of_wp fun A R s ⟨L, r⟩ => ?_) ⟨L, q⟩
  unfold Builtin.«dict.items» Builtin.Dict.noArgs
  refine wpAny_bind (wpAny_bind (wpAny_notOrdered_dict L.typeIs ?_))
  refine show wpAny _ _ (pure d) _ _ s from wpAny_pure (show wpAny _ _ (Builtin.Dict.showsAll d >>= _) _ _ s from ?_)
  have all : Builtin.Dict.showsAll d = pure () := by
    unfold Builtin.Dict.showsAll
    rw [nd]
    rfl
  rw [all]
  exact wpAny_bind (wpAny_pure (wpAny_bind (wpAny_newObj_type (wpAny_pure ⟨_, rfl, r⟩))))
theorem view_iter {Q : Value → Shared → Prop} (ev : s.heap.get? v = some (viewObj d)) (L : Lies s.heap d es ep) (q : Q (.ref s.heap.objs.size) { s with heap := s.heap.push (goerObj .none false d 0 es.size ep .none .none) }) : wpAny (model P w) A (pyIter (.ref v)) Q E s := by
  have ty : s.TypeIs (.ref v) "dict_items" := ⟨_, ev, rfl⟩
  obtain ⟨o, ho, _, hd⟩ := L
  refine wpAny_pyIter_slot ty F.slot_dict_items_iter (wpAny_call_entry F.slot_dict_items_iter ty F.entry_dict_items_iter ?_ (F.args_dict_items_iter_1 _))
  unfold Builtin.«dict_items.__iter__» Builtin.Dict_items.dictOf Builtin.Dict_items.newIterator
  refine wpAny_bind (wpAny_pure (wpAny_bind (wpAny_bind (wpAny_field ev rfl (x := .ref d) rfl (wpAny_pure (wpAny_bind (wpAny_bind (wpAny_dictEntries ho hd (wpAny_bind (wpAny_dictEpoch ho hd ?_))))))))))
  refine show wpAny _ _ (newFields "dict_itemiterator" [.none, .bool false, .ref d, rawInt 0, rawInt (es.size : Nat), rawInt (ep : Nat), .none, .none]) _ _ s from wpAny_newObj_type (wpAny_pure ⟨_, rfl, "dict_itemiterator", _, ⟨_, Heap.get?_push_size _ rfl, rfl⟩, F.slot_dict_itemiterator_next.lookup, q⟩) (by size_fits)
end
end L2
namespace L2
open PySem PySem.Spec PyProof.Rows
def lay (H : Hp) : List (Addr × HO) → Hp
  | [] => H
  | p :: l => lay (upd H p.1 p.2) l
theorem paired_at {α β : Type} {F : α → β → Prop} {l : List α} {m : List β} {j : Nat} {a : α} (r : Paired F l m) (e : l[j]? = some a) : ∃ b, m[j]? = some b ∧ F a b := by
  induction r generalizing j with
  | nil => simp at e
  | cons h _ ih =>
    cases j with
    | zero =>
      have z := Option.some.inj e
      subst z
      exact ⟨_, rfl, h⟩
    | succ j => exact ih (by simpa using e)
section
variable {X : Cx}
structure Listed (H H' : Hp) (kvs : List (List Key × V)) (l : Addr) (as : List Addr) : Prop where
  new : H l = none
  news : ∀ a ∈ as, H a = none
  out : l ∉ as
  nd : as.Nodup
  len : as.length = kvs.length
  lst : H' l = some (.lst (as.map .ref))
  is : ∀ (j : Nat) (a : Addr), as[j]? = some a → ∃ k v b, kvs[j]? = some (k, v) ∧ H b = some (.tup (k.map kV)) ∧ H' a = some (.tup [.ref b, v])
  rest : ∀ b, b ≠ l → b ∉ as → H' b = H b
def ViewO (v d : Addr) : HO := .ext fun h => h.get? v = some (viewObj d)
def rItems : V → List V → Hp → VK → Prop := fun x xs H Q => xs = [] ∧ ∃ a kvs, x = .ref a ∧ H a = some (.dT kvs) ∧ ∀ v, H v = none → Q (.ref v) (upd H v (ViewO v a))
theorem mt_items : MtR X "dict.items" rItems := by
  intro pins s σ H x xs u us Q I r1 r2 h
  obtain ⟨rfl, a, kvs, rfl, ha, q⟩ := h
  cases r1
  cases r2
  obtain ⟨z, na, ys, rel, o, es, ep, e1, e2, e3, _⟩ := I.hok a _ ha
  refine view_made na ⟨o, e1, e2, e3⟩ ⟨.ref s.heap.objs.size, _, I.laid (a := s.heap.objs.size) (o := ViewO s.heap.objs.size a) (t' := s.toks) (fun _ _ q => Heap.get?_push_of_some _ q) (Nat.le_refl _) ?_, rfl, q _ I.fresh⟩
  have e : (s.heap.push (viewObj a)).get? s.heap.objs.size = some (viewObj a) := Heap.get?_push_size _ rfl
  exact ⟨e, ⟨_, e⟩, fun h1 h2 y k => k _ y⟩
def rListItems : List V → Hp → VK → Prop := fun xs H Q => ∃ v a kvs, xs = [.ref v] ∧ H v = some (ViewO v a) ∧ H a = some (.dT kvs) ∧ ∀ l as H', Listed H H' kvs l as → Q (.ref l) H'
end
end L2
namespace L2
open PySem PySem.Spec PyProof.Rows
def kvsOf (ws : TW) (as : List Addr) : List (List Key × V) := List.zipWith (fun p a => (nk p.1, V.ref a)) ws as
theorem kvs_snoc {ws : TW} {as : List Addr} {p : List Nat × List Nat} {a : Addr} (h : as.length = ws.length) : kvsOf (ws ++ [p]) (as ++ [a]) = kvsOf ws as ++ [(nk p.1, .ref a)] := by
  unfold kvsOf
  rw [List.zipWith_append h.symm]
  rfl
theorem kvs_len {ws : TW} {as : List Addr} (h : as.length = ws.length) : (kvsOf ws as).length = ws.length := by
  unfold kvsOf
  rw [List.length_zipWith]
  omega
theorem kvs_at {ws : TW} {as : List Addr} {j : Nat} {p : List Nat × List Nat} {a : Addr} (hp : ws[j]? = some p) (ha : as[j]? = some a) : (kvsOf ws as)[j]? = some (nk p.1, .ref a) := by
  unfold kvsOf
  rw [List.getElem?_zipWith, hp, ha]
theorem val_no : ∀ {ws : TW} {as : List Addr} {x : List Nat}, x ∉ ws.map (·.1) → valV (kvsOf ws as) (nk x) = none
  | [], _, _, _ => rfl
  | _ :: _, [], _, _ => rfl
  | p :: ws, a :: as, x, h => by
    have h1 : ¬ (nk p.1 : List Key) = nk x := fun z => h (List.mem_map.mpr ⟨p, List.mem_cons_self .., nk_inj z⟩)
    exact (valV_neg (p := (nk p.1, V.ref a)) (r := kvsOf ws as) h1).trans (val_no fun z => h (List.mem_cons_of_mem _ z))
theorem val_at : ∀ {ws : TW} {as : List Addr} {j : Nat} {p : List Nat × List Nat} {a : Addr}, (ws.map (·.1)).Nodup → ws[j]? = some p → as[j]? = some a → valV (kvsOf ws as) (nk p.1) = some (.ref a)
  | q :: ws, b :: as, 0, p, a, _, hp, ha => by
    cases hp
    cases ha
    exact valV_pos (p := (nk q.1, V.ref b)) (r := kvsOf ws as) rfl
  | q :: ws, b :: as, j + 1, p, a, nd, hp, ha => by
    obtain ⟨h1, h2⟩ := List.nodup_cons.mp nd
    have hp' : ws[j]? = some p := by simpa using hp
    have n : ¬ (nk q.1 : List Key) = nk p.1 := fun z => h1 (List.mem_map.mpr ⟨p, List.mem_of_getElem? hp', (nk_inj z).symm⟩)
    exact (valV_neg (p := (nk q.1, V.ref b)) (r := kvsOf ws as) n).trans (val_at h2 hp' (by simpa using ha))
  | [], _, _, _, _, _, hp, _ => by simp at hp
  | _ :: _, [], _, _, _, _, _, ha => by simp at ha
structure WordsAt (H : Hp) (D : Addr) (ws : TW) (as : List Addr) : Prop where
  len : as.length = ws.length
  dict : H D = some (.dT (kvsOf ws as))
  list : ∀ (j : Nat) (a : Addr) (p : List Nat × List Nat), as[j]? = some a → ws[j]? = some p → H a = some (.lst (p.2.map nv))
theorem WordsAt.same {H H' : Hp} {D : Addr} {ws : TW} {as : List Addr} (W : WordsAt H D ws as) (g : Same H H') : WordsAt H' D ws as := ⟨W.len, g _ _ W.dict, fun j a p h1 h2 => g _ _ (W.list j a p h1 h2)⟩
theorem WordsAt.word {H : Hp} {D : Addr} {ws : TW} {as : List Addr} {p : List Nat × List Nat} (W : WordsAt H D ws as) (nd : (ws.map (·.1)).Nodup) (hp : p ∈ ws) : ∃ a, valV (kvsOf ws as) (nk p.1) = some (.ref a) ∧ H a = some (.lst (p.2.map nv)) := by
  obtain ⟨j, e⟩ := List.mem_iff_getElem?.mp hp
  obtain ⟨hj, _⟩ := List.getElem?_eq_some_iff.mp e
  obtain ⟨a, ea⟩ : ∃ a, as[j]? = some a := ⟨_, List.getElem?_eq_getElem (by rw [W.len]; exact hj)⟩
  exact ⟨a, val_at nd e ea, W.list j a p ea e⟩
theorem WordsAt.put {H : Hp} {D l : Addr} {ws : TW} {as : List Addr} {p : List Nat × List Nat} (W : WordsAt H D ws as) (hl : H l = some (.lst (p.2.map nv))) : WordsAt (upd H D (.dT (kvsOf ws as ++ [(nk p.1, .ref l)]))) D (ws ++ [p]) (as ++ [l]) := by
  have nD : ∀ {a : Addr} {xs : List V}, H a = some (.lst xs) → a ≠ D := fun h => ne_of h W.dict (fun z => nomatch z)
  refine ⟨by simp [W.len], by rw [upd_same, kvs_snoc W.len], fun j a q h1 h2 => ?_⟩
  by_cases hj : j < ws.length
  · rw [List.getElem?_append_left (by rw [W.len]; exact hj)] at h1
    rw [List.getElem?_append_left hj] at h2
    have z := W.list j a q h1 h2
    rw [upd_ne (nD z)]
    exact z
  · rw [List.getElem?_append_right (by rw [W.len]; omega)] at h1
    rw [List.getElem?_append_right (by omega)] at h2
    have z : j - ws.length = 0 := by
      have := (List.getElem?_eq_some_iff.mp h2).1
      simp at this
      omega
    rw [W.len, z] at h1
    rw [z] at h2
    cases h1
    cases h2
    rw [upd_ne (nD hl)]
    exact hl
def noT (H : Hp) : Hp := fun a => match H a with
  | some (.tbl _) => none
  | o => o
theorem noT_at {H : Hp} {a : Addr} {o : HO} (h : H a = some o) (n : ∀ ps, o ≠ .tbl ps) : noT H a = some o := by
  unfold noT
  rw [h]
  cases o <;> first | rfl | exact absurd rfl (n _)
theorem of_noT {H : Hp} {a : Addr} {o : HO} (h : noT H a = some o) : H a = some o ∧ ∀ ps, o ≠ .tbl ps := by
  unfold noT at h
  split at h
  · cases h
  · rename_i n
    exact ⟨h, fun ps z => n ps (by rw [h, z])⟩
def Keeps (H H' : Hp) : Prop := Same (noT H) H'
theorem Same.keeps {H H' : Hp} (g : Same H H') : Keeps H H' := fun a o h => g a o (of_noT h).1
theorem Keeps.refl (H : Hp) : Keeps H H := (Same.refl H).keeps
theorem Keeps.trans {H H1 H2 : Hp} (a : Keeps H H1) (b : Keeps H1 H2) : Keeps H H2 := fun c o h => b c o (noT_at (a c o h) (of_noT h).2)
def TabOk (qual : Str) (pos : Pos) (H : Hp) (T : Addr) : Prop := H T = some (.tbl #[]) ∨ ∃ cc, H T = some (.tbl (triple pos cc)) ∧ H cc = some (CodeO cc qual)
theorem TabOk.same {qual : Str} {pos : Pos} {H H' : Hp} {T : Addr} (t : TabOk qual pos H T) (g : Same H H') : TabOk qual pos H' T := by
  rcases t with t | ⟨cc, t1, t2⟩
  · exact .inl (g _ _ t)
  · exact .inr ⟨cc, g _ _ t1, g _ _ t2⟩
def DefAt (K : PySem.W.Frag) (x : Str) (st : Stmt) (f : Addr) (fd : FuncData) (dv cv : Value) : Prop :=
  PySem.W.codeIn K cv x = true ∧ (∃ kV doc pm an ct, fd = PySem.W.fnOf x x (defArgs st) (defBody st) (defScope st) dv kV doc pm an cv ct) ∧ ∃ c d sl, K.lookup f = some ⟨c, d, .func fd, sl⟩
section
variable {P : Program} {w : World} {K : PySem.W.Frag} {mg : Str → Option Value} {base : Heap} {x : Str} {st : Stmt} {f : Addr} {fd : FuncData} {dv cv : Value} {N ps : List Str} {k : Nat} {sp : Sp}
def BodyOk (P : Program) (w : World) (K : PySem.W.Frag) (mg : Str → Option Value) (base : Heap) (x : Str) (st : Stmt) (f : Addr) (cv : Value) (N : List Str) (k : Nat) (sp : Sp) : Prop :=
  ∀ A outer s H vs Q E, sp vs H Q E → Room k (A.deeper (envOfC x (defScope st) s.heap.objs.size f cv)) → ∃ t : TS, t ⟨fun _ H' => Q .non H', Q, fun _ _ => False, fun _ _ => False⟩ (start N vs) H ∧ PSs (cxOf CX0 P w K mg base N x (defScope st) f cv A outer s H E).nox (defBody st) t
theorem DefAt.fnOk (d : DefAt K x st f fd dv cv) (sc : FnScope N ps (defScope st)) (len : ∀ vs H Q E, sp vs H Q E → vs.length = ps.length) (b : BodyOk P w K mg base x st f cv N k sp) : FnOk P w K mg base CX0 (k + 1) f fd ps sp := by
  obtain ⟨hcode, ⟨kV, doc, pm, an, ct, rfl⟩, _, _, _, lk⟩ := d
  refine fn_of lk hcode sc len fun A outer s H vs Q E hr hsp => ?_
  obtain ⟨t, q, h⟩ := b A outer s H vs Q E hsp hr
  exact ⟨t, h.nox, q⟩
theorem DefAt.binds {T : Addr} {o : Obj} {n : Nat} {ds : List Value} (d : DefAt K x st f fd (.ref T) cv) (lT : K.lookup T = some o) (dT : o.data = .seq ds.toArray n) (kk : List Value → Option (Array Value) → Sem (List (Str × Value)))
    (h1 : ∀ (kV doc pm : Value) (an : Option Addr) (ct : Value) (us : List Value), (us ++ ds).length = ps.length → bindArgs (PySem.W.fnOf x x (defArgs st) (defBody st) (defScope st) (.ref T) kV doc pm an cv ct) ⟨us, []⟩ = seqItems? (.ref T) >>= kk us)
    (h2 : ∀ us : List Value, (us ++ ds).length = ps.length → kk us (some ds.toArray) = pure (ps.zip (us ++ ds))) : Binds K fd ps ds := fun s us KX hl => by
  obtain ⟨_, ⟨kV, doc, pm, an, ct, rfl⟩, _⟩ := d
  exact BindsTo.of_defaults rfl (KX _ _ lT) dT (h1 kV doc pm an ct us hl) (h2 us hl)
def CalleeD (P : Program) (w : World) (K : PySem.W.Frag) (mg : Str → Option Value) (base : Heap) (x : Str) (k : Nat) (ps : List Str) (sp : Sp) (dvs : List V) : Prop :=
  ∃ f fd ds, FnOk P w K mg base CX0 k f fd ps sp ∧ mg x = some (.ref f) ∧ PySem.W.keepIn K (.ref f) = true ∧ Binds K fd ps ds ∧ Vals dvs ds
theorem pe_callCD {X : Cx} {x y : Str} {k j : Nat} {ps : List Str} {sp : Sp} {c : Addr} {dvs : List V} {e : Expr} {es : List Expr} {t : TA} {p pos : Pos} (cl : CalleeD X.prog X.w X.K X.mg X.base x k ps sp dvs) (hr : Room k X.A) (hg : Gl X x) (hN : X.N[j]? = some y) (hc : X.env.cells.lookup y = some c)
    (hkd : X.env.scope.names.lookup y = some .cell) (hfn : X.fn y = true) (ha : PA X (e :: es) t) (hdb : (x == ("__debug__" : Str)) = false := by decide) (he : starEach (e :: es) X.env = (false, eval e X.env) :: starEach es X.env := by rfl)
    (hpl : (backTo pos (starEach es X.env)).any (·.1) = false := by rfl) : PE X (.Call (.Name x p) (e :: es) [] pos) (tCallC sp dvs j c t) := by
  obtain ⟨f, fd, ds, F, hm, hk, hb, hd⟩ := cl
  exact pe_callC F hr hg hm hk hb hd hN hc hkd hfn ha hdb he hpl
end
end L2
namespace L2
open PySem PySem.Spec PyProof.Rows
section
variable {X : Cx}
def tDisp1 (tk tv : TE) : TE := fun σ H Q => ∀ p, H p = none → tk σ (upd H p (.dT [])) fun x H1 => tv σ H1 fun y H2 => H2 p = some (.dT []) ∧ ∃ b k, x = .ref b ∧ H2 b = some (.tup (k.map kV)) ∧ Q (.ref p) (upd H2 p (.dT [(k, y)]))
theorem pe_disp1 {k v : Expr} {tk tv : TE} {pos : Pos} (hu : X.A.units + 1 < cLine) (hk : PE X k tk) (hv : PE X v tv) : PE X (.Dict [some k] [v] pos) (tDisp1 tk tv) := by
  intro pins s σ H Q I q
  have hn := I.hok.fresh (Nat.le_refl s.heap.objs.size)
  have I1 := I.laid (a := s.heap.objs.size) (o := .dT []) (h' := s.heap.push { cls := .type "dict", data := .dict #[] }) (t' := s.toks) (fun _ _ q => Heap.get?_push_of_some _ q) (Nat.le_refl _) (dt_empty s.heap I.big)
  have pairs := pps_cons (X := X) (pos := pos) hk hv pps_nil
  have q1 := q s.heap.objs.size hn
  rw [arm_eval_Dict]
  refine wpAny_bind (wpAny_standAt ?_)
  have shape : (evalEachOpt [some k] X.env).zip ((evalEach [v] X.env).map fun v => do let x ← v; standAt pos; pure x) = (pairTrees [some k] [v] X.env pos).map fun p => (some p.1, p.2) := rfl
  rw [shape, dictDisplay_pairs _ (by intro z; cases z) (by show 1 < 17; decide)]
  refine wpAny_bind ?_
  unfold subDict
  refine wpAny_bind (wpAny_alloc (wpAny_bind (wpAny_holding ?_)))
  rw [if_pos (by show 1 ≤ 15; decide)]
  let G : List (V × V) → Hp → Prop := fun ps H2 => match ps with | [(x, y)] => H2 s.heap.objs.size = some (.dT []) ∧ ∃ b k, x = .ref b ∧ H2 b = some (.tup (k.map kV)) ∧ Q (.ref s.heap.objs.size) (upd H2 s.heap.objs.size (.dT [(k, y)])) | _ => False
  refine wpAny_bind (thn (pairs pins _ σ _ G I1 q1) fun ws s2 ⟨ps, H2, I2, rel, g⟩ => ?_)
  obtain ⟨x, y, rfl⟩ : ∃ x y, ps = [(x, y)] := by
    cases ps with
    | nil => exact False.elim g
    | cons p ps =>
      cases ps with
      | nil => exact ⟨p.1, p.2, rfl⟩
      | cons _ _ => exact False.elim g
  obtain ⟨e, b, key, rfl, eb, q2⟩ := g
  obtain ⟨u, r, rfl, ru, rr⟩ : ∃ u r, ws = [(u, r)] ∧ RelV (.ref b) u ∧ RelV y r := by
    cases rel with
    | @cons _ q _ qs h t =>
      cases t
      exact ⟨q.1, q.2, rfl, h.1, h.2⟩
  cases ru
  obtain ⟨z, hd, xs, kt, dd⟩ := dt_of I2.hok e
  cases kt
  refine wpAny_holding ?_
  simp only [List.forIn_cons, List.forIn_nil]
  refine wpAny_bind (wpAny_bind (wpAny_bind (wpAny_dictSet_heap (show X.A.units < cLine by omega) (key_of I2.hok eb) dd (fun h' dd' hs => ?_) (by show 0 ≤ _; exact Nat.zero_le _))))
  refine wpAny_pure (wpAny_pure (wpAny_pure (wpAny_pure ?_)))
  obtain ⟨o, es, ep, hq, h2, h3, h4, _, h5⟩ := dd'
  have key' : upd H2 s.heap.objs.size (.dT [(key, y)]) b = some (.tup (key.map kV)) := by
    rw [upd_ne (ne_of eb e (fun z => nomatch z))]
    exact eb
  have ok : ObjOk X.prog X.w (upd H2 s.heap.objs.size (.dT [(key, y)])) h' s.heap.objs.size (.dT [(key, y)]) := ⟨by show 1 ≤ sizeLine; decide, hd, _, .cons ⟨rfl, key', rr⟩ .nil, o, es, ep, hq, h2, h3, h4, h5⟩
  exact wpAny_pure ⟨.ref s.heap.objs.size, _, d_write I2 (by rw [e]; exact True.intro) hs ⟨o, hq⟩ ok, rfl, q2⟩
end
end L2
namespace L2
open PySem PySem.Spec PyProof.Rows
def spRefuse : Sp := fun vs H Q _ => ∃ d : Addr, vs = [.ref d, .non] ∧ Q .non H
def spStep (G : Hp → Prop) (U : List (List Nat)) (L : Nat) (g : List Nat → Nat → List Nat) : Sp := fun vs H Q _ => ∃ (t : Addr) (x : List Nat) (l : Nat), vs = [.ref t, nv l] ∧ G H ∧ H t = some (.tup (x.map nv)) ∧ x ∈ U ∧ l < L ∧ NewT H ((g x l).map nv) Q
def ThAt (H : Hp) (l : Addr) (ps : TW) : Prop := ∃ ts : List Addr, H l = some (.lst (ts.map .ref)) ∧ ts.length = ps.length ∧ ∀ (j : Nat) (t : Addr) (p : List Nat × List Nat), ts[j]? = some t → ps[j]? = some p → H t = some (.tup (p.1.map nv))
theorem ThAt.same {H H' : Hp} {l : Addr} {ps : TW} (h : ThAt H l ps) (g : Same H H') : ThAt H' l ps := by
  obtain ⟨ts, h1, h2, h3⟩ := h
  exact ⟨ts, g _ _ h1, h2, fun j t p e1 e2 => g _ _ (h3 j t p e1 e2)⟩
theorem ThAt.more {H : Hp} {l t : Addr} {ps : TW} {ts : List Addr} {p : List Nat × List Nat} (h1 : H l = some (.lst (ts.map .ref))) (h2 : ts.length = ps.length) (h3 : ∀ (j : Nat) (t : Addr) (p : List Nat × List Nat), ts[j]? = some t → ps[j]? = some p → H t = some (.tup (p.1.map nv))) (ht : H t = some (.tup (p.1.map nv))) :
    ThAt (upd H l (.lst (ts.map .ref ++ [.ref t]))) l (ps ++ [p]) := by
  have nl : ∀ {a : Addr} {xs : List V}, H a = some (.tup xs) → a ≠ l := fun h => ne_of h h1 fun e => nomatch e
  refine ⟨ts ++ [t], by rw [upd_same, List.map_append]; rfl, by simp [h2], fun j a q e1 e2 => ?_⟩
  by_cases hj : j < ps.length
  · rw [List.getElem?_append_left (by omega)] at e1
    rw [List.getElem?_append_left hj] at e2
    have z := h3 j a q e1 e2
    rw [upd_ne (nl z)]
    exact z
  · rw [List.getElem?_append_right (by omega)] at e1
    rw [List.getElem?_append_right (by omega)] at e2
    have z : j - ps.length = 0 := by
      have := (List.getElem?_eq_some_iff.mp e2).1
      simp at this
      omega
    rw [h2, z] at e1
    rw [z] at e2
    cases e1
    cases e2
    rw [upd_ne (nl ht)]
    exact ht
structure Srch (H0 H : Hp) (D wa fa : Addr) (ts : List Addr) (ws wv fo : TW) (as : List Addr) : Prop where
  g : Same H0 H
  nD : H0 D = none
  nF : H0 fa = none
  W : WordsAt H D ws as
  wl : H wa = some (.lst (ts.map .ref))
  wt : ∀ (j : Nat) (t : Addr) (p : List Nat × List Nat), ts[j]? = some t → wv[j]? = some p → H t = some (.tup (p.1.map nv))
  foll : ThAt H fa fo
  wf : wa ≠ fa
  fas : fa ∉ as
  new : ∀ b ∈ as, H0 b = none
theorem Srch.same {H0 H H' : Hp} {D wa fa : Addr} {ts : List Addr} {ws wv fo : TW} {as : List Addr} (S : Srch H0 H D wa fa ts ws wv fo as) (k : Same H H') : Srch H0 H' D wa fa ts ws wv fo as :=
  ⟨S.g.trans k, S.nD, S.nF, S.W.same k, k _ _ S.wl, fun j t p h1 h2 => k _ _ (S.wt j t p h1 h2), S.foll.same k, S.wf, S.fas, S.new⟩
theorem Srch.more {H0 H : Hp} {D wa fa l t : Addr} {tw : List Addr} {ws wv fo : TW} {as ts : List Addr} {p : List Nat × List Nat} (S : Srch H0 H D wa fa tw ws wv fo as) (hl : H l = some (.lst (p.2.map nv))) (lf : l ≠ fa) (l0 : H0 l = none) (ht : H t = some (.tup (p.1.map nv)))
    (e1 : H fa = some (.lst (ts.map .ref))) (e2 : ts.length = fo.length) (e3 : ∀ (j : Nat) (t : Addr) (p : List Nat × List Nat), ts[j]? = some t → fo[j]? = some p → H t = some (.tup (p.1.map nv))) :
    Srch H0 (upd (upd H D (.dT (kvsOf ws as ++ [(nk p.1, .ref l)]))) fa (.lst (ts.map .ref ++ [.ref t]))) D wa fa tw (ws ++ [p]) wv (fo ++ [p]) (as ++ [l]) := by
  have fD : fa ≠ D := ne_of e1 S.W.dict fun e => nomatch e
  have tD : ∀ {a : Addr} {xs : List V}, H a = some (.tup xs) → a ≠ D := fun h => ne_of h S.W.dict fun e => nomatch e
  have wD : wa ≠ D := ne_of S.wl S.W.dict fun e => nomatch e
  have tF : ∀ {a : Addr} {xs : List V}, H a = some (.tup xs) → a ≠ fa := fun h => ne_of h e1 fun e => nomatch e
  have W1 := S.W.put (l := l) (p := p) hl
  have f1 : (upd H D (.dT (kvsOf ws as ++ [(nk p.1, .ref l)]))) fa = some (.lst (ts.map .ref)) := by rw [upd_ne fD]; exact e1
  refine ⟨same_upd (same_upd S.g S.nD) S.nF, S.nD, S.nF, ⟨W1.len, ?_, fun j a q h1 h2 => ?_⟩, ?_, fun j a q h1 h2 => ?_, ?_, S.wf, ?_, fun b hb => (List.mem_append.mp hb).elim (S.new b) fun m => by rw [List.mem_singleton.mp m]; exact l0⟩
  · rw [upd_ne (Ne.symm fD)]
    exact W1.dict
  · have na : a ≠ fa := fun z => by
      subst z
      rcases List.mem_append.mp (List.mem_of_getElem? h1) with m | m
      · exact S.fas m
      · exact lf (List.mem_singleton.mp m).symm
    rw [upd_ne na]
    exact W1.list j a q h1 h2
  · rw [upd_ne S.wf, upd_ne wD]
    exact S.wl
  · have z := S.wt j a q h1 h2
    rw [upd_ne (tF z), upd_ne (tD z)]
    exact z
  · refine ThAt.more f1 e2 (fun j a q h1 h2 => ?_) ?_
    · have z := e3 j a q h1 h2
      rw [upd_ne (tD z)]
      exact z
    · rw [upd_ne (tD ht)]
      exact ht
  · intro m
    rcases List.mem_append.mp m with m | m
    · exact S.fas m
    · exact lf (List.mem_singleton.mp m).symm
section
variable {X : Cx} {H0 : Hp} {a st D wa fa : Addr} {sd : FuncData} {ps : List Str} {x0 : List Nat} {L : Nat} {U : List (List Nat)} {g : List Nat → Nat → List Nat}
abbrev tStep (X : Cx) : TS := tSeq (tAsg (tCallV X 2 (tCons (tVar 7) (tCons (tVar 8) tNil))) (gName 9)) (tIfS (tB (tDNotIn (tVar 9) (tVar 4)))
  (tSeq (sDPut (tVar 4) (tVar 9) (tOp (rCatS X.K) (tDGet (tVar 4) (tVar 7)) (tLst (tCons (tVar 8) tNil)))) (tSeq (tDrop (tCall spRefuse [] E0 (tCons (tVar 4) (tCons (tVar 3) tNil)))) (tDrop (tBM X.K "list" rAppend (tVar 6) (tCons (tVar 9) tNil))))) tNext)
theorem step_read {d i j : Nat} {ws wv fo : TW} {as ts : List Addr} {th : Addr} {t : List Nat × List Nat} {H : Hp} {En : Ends} {o9 : Option V} (hr : Room 5 X.A) (hst : H0 st = some (LamO st sd)) (h0 : x0 ∈ U) (hU : ∀ x ∈ U, ∀ l, l < L → g x l ∈ U) (few : U.length ≤ 4000)
    (hF : FnOk X.prog X.w X.K X.mg X.base CX0 5 st sd ps (spStep (Same H0) U L g)) (hB : Binds X.K sd ps []) (B : Bfs g L x0 d ws wv fo i j) (ht : wv[i]? = some t) (hj : j < L) (hd : d + 1 ≤ ws.length) (S : Srch H0 H D wa fa ts ws wv fo as) (hth : H th = some (.tup (t.1.map nv)))
    (next : ∀ ws' fo' as' H' v, Bfs g L x0 d ws' wv fo' i (j + 1) → Srch H0 H' D wa fa ts ws' wv fo' as' → ws'.length + fo.length = ws.length + fo'.length → H' th = some (.tup (t.1.map nv)) → En.nx [some (.ref a), some (nv L), some (.ref st), some .non, some (.ref D), some (.ref wa), some (.ref fa), some (.ref th), some (nv j), some v] H') :
    tStep X En [some (.ref a), some (nv L), some (.ref st), some .non, some (.ref D), some (.ref wa), some (.ref fa), some (.ref th), some (nv j), o9] H := by
  have tw := (B.wave t (List.mem_of_getElem? ht)).1
  have tU : t.1 ∈ U := by
    obtain ⟨r1, r2⟩ := B.run t tw
    rw [← r2]
    exact goes_in h0 hU t.2 r1
  have fewW : ws.length ≤ 4000 := by
    have z : (ws.map (·.1)).length ≤ U.length := few_of B.keys fun x hx => by
      obtain ⟨p, hp, rfl⟩ := List.mem_map.mp hx
      obtain ⟨r1, r2⟩ := B.run p hp
      rw [← r2]
      exact goes_in h0 hU p.2 r1
    rw [List.length_map] at z
    omega
  refine ⟨_, rfl, st, sd, rfl, S.g _ _ hst, _, rfl, _, rfl, S.g _ _ hst, 5, ps, _, hF, hr, hB, th, t.1, j, rfl, S.g, hth, tU, hj, fun fn H1 g1 e1 => ?_⟩
  have S1 := S.same g1
  have hth1 := g1 _ _ hth
  refine ⟨_, rfl, _, rfl, D, _, rfl, DGet.t S1.W.dict (by rw [nk_kV]; exact e1), _, rfl, ?_⟩
  by_cases hm : g t.1 j ∈ ws.map (·.1)
  · obtain ⟨p, hp, e⟩ := List.mem_map.mp hm
    obtain ⟨c, v1, _⟩ := S1.W.word B.keys hp
    rw [← e, v1]
    rw [if_neg (by simp)]
    exact next ws fo as H1 _ (B.old ht hm) S1 rfl hth1
  · rw [val_no hm]
    refine iteT ?_
    obtain ⟨tw, tl⟩ := B.wave t (List.mem_of_getElem? ht)
    obtain ⟨c, v1, v2⟩ := S1.W.word B.keys tw
    have dg : DGet H1 D (.ref th) (some (.ref c)) := v1 ▸ DGet.t S1.W.dict (by rw [nk_kV]; exact hth1)
    refine ⟨_, rfl, _, rfl, D, _, rfl, dg, _, rfl, by show 1 ≤ sizeLine; decide, fun p hp => ?_⟩
    have k2 := same_new hp (.lst [nv j])
    refine ⟨c, p, _, _, rfl, rfl, SqL.of (k2 _ _ v2), SqL.of upd_same, by rw [List.length_map, tl, sizeLine_eq]; show d + 1 ≤ _; omega, fun l hl => ?_⟩
    have k3 := k2.trans (same_new hl (.lst (t.2.map nv ++ [nv j])))
    have S3 := S1.same k3
    have e3 := k3 _ _ e1
    have hl3 : upd (upd H1 p (.lst [nv j])) l (.lst (t.2.map nv ++ [nv j])) l = some (.lst ((t.2 ++ [j]).map nv)) := by rw [upd_same, List.map_append]; rfl
    have hth3 := k3 _ _ hth1
    obtain ⟨tf, f1, f2, f3⟩ := S3.foll
    have lf : l ≠ fa := fun z => by
      obtain ⟨_, q1, _⟩ := S1.foll
      have q2 := k2 _ _ q1
      rw [← z, hl] at q2
      cases q2
    generalize upd (upd H1 p (.lst [nv j])) l (.lst (t.2.map nv ++ [nv j])) = H3 at S3 e3 hl3 hth3 f1 f3 ⊢
    refine ⟨_, rfl, _, rfl, D, _, rfl, DPut.t S3.W.dict (by rw [nk_kV]; exact e3) (by rw [kvs_len S3.W.len, sizeLine_eq]; omega), ?_⟩
    rw [putK_new _ (val_no hm)]
    have fD : fa ≠ D := ne_of f1 S3.W.dict fun e => nomatch e
    have thD : th ≠ D := ne_of hth3 S3.W.dict fun e => nomatch e
    have thF : th ≠ fa := ne_of hth3 f1 fun e => nomatch e
    have ffD : (upd H3 D (.dT (kvsOf ws as ++ [(nk (g t.1 j), .ref l)]))) fa = some (.lst (tf.map .ref)) := by rw [upd_ne fD]; exact f1
    have fl : tf.length ≤ 4000 := by
      have z : (fo.map (·.1)).length ≤ ws.length := by
        rw [← List.length_map (f := (·.1)) (as := ws)]
        refine few_of ?_ fun x hx => ?_
        · refine (List.pairwise_map.mpr (B.fup.imp_of_mem fun {p q} hp hq h z => ?_))
          have r1 := (B.run p (B.foll p hp).1).2
          have r2 := (B.run q (B.foll q hq).1).2
          obtain ⟨i1, e1⟩ := List.mem_iff_getElem?.mp (B.foll p hp).1
          obtain ⟨i2, e2⟩ := List.mem_iff_getElem?.mp (B.foll q hq).1
          have ii : i1 = i2 := (List.getElem?_inj (by rw [List.length_map]; exact (List.getElem?_eq_some_iff.mp e1).1) B.keys).mp (by rw [List.getElem?_map, List.getElem?_map, e1, e2]; exact congrArg some z)
          subst ii
          rw [e1] at e2
          cases e2
          exact sl_irr h
        · obtain ⟨p, hp, rfl⟩ := List.mem_map.mp hx
          exact List.mem_map.mpr ⟨p, (B.foll p hp).1, rfl⟩
      rw [List.length_map] at z
      omega
    refine ⟨_, rfl, _, rfl, D, rfl, _, rfl, .inl ⟨rfl, _, SqL.of ffD⟩, _, rfl, fa, _, _, rfl, rfl, ffD, by rw [List.length_map, sizeLine_eq]; omega, ?_⟩
    exact next (ws ++ [(g t.1 j, t.2 ++ [j])]) (fo ++ [(g t.1 j, t.2 ++ [j])]) (as ++ [l]) _ _ (B.new ht hj hm) (S3.more (p := (g t.1 j, t.2 ++ [j])) hl3 lf ((S1.g.trans k2).free hl) e3 f1 f2 f3) (by simp; omega) (by rw [upd_ne thF, upd_ne thD]; exact hth3)
abbrev tWave (X : Cx) : TS := tFor (iList X.K (tVar 5)) (gName 7) (tFor (iRng1 (tCons (tVar 1) tNil)) (gName 8) (tStep X))
theorem wave_read {d : Nat} {ws0 wv : TW} {as0 ts : List Addr} {H : Hp} {En : Ends} {o7 o8 o9 : Option V} (hr : Room 5 X.A) (hst : H0 st = some (LamO st sd)) (h0 : x0 ∈ U) (hU : ∀ x ∈ U, ∀ l, l < L → g x l ∈ U) (few : U.length ≤ 4000) (fewL : L ≤ 4000)
    (hF : FnOk X.prog X.w X.K X.mg X.base CX0 5 st sd ps (spStep (Same H0) U L g)) (hB : Binds X.K sd ps []) (B : Bfs g L x0 d ws0 wv [] 0 0) (hd : d + 1 ≤ ws0.length) (S : Srch H0 H D wa fa ts ws0 wv [] as0) (lt : ts.length = wv.length)
    (next : ∀ ws fo as H' o7 o8 o9, Bfs g L x0 d ws wv fo wv.length 0 → Srch H0 H' D wa fa ts ws wv fo as → ws.length = ws0.length + fo.length → En.nx [some (.ref a), some (nv L), some (.ref st), some .non, some (.ref D), some (.ref wa), some (.ref fa), o7, o8, o9] H') :
    tWave X En [some (.ref a), some (nv L), some (.ref st), some .non, some (.ref D), some (.ref wa), some (.ref fa), o7, o8, o9] H := by
  let Pv : Nat → L2.St → Hp → Prop := fun i σ H' => ∃ ws fo as o7 o8 o9, Bfs g L x0 d ws wv fo i 0 ∧ Srch H0 H' D wa fa ts ws wv fo as ∧ ws.length = ws0.length + fo.length ∧
    σ = [some (.ref a), some (nv L), some (.ref st), some .non, some (.ref D), some (.ref wa), some (.ref fa), o7, o8, o9]
  refine ⟨_, rfl, wa, rfl, ⟨_, SqL.of S.wl⟩, for_list (xs := ts.map .ref) Pv ⟨ws0, [], as0, o7, o8, o9, B, S, by simp, rfl⟩ (fun i σ H' _ p => ?_) (fun i x σ H' hx p => ?_) (fun σ H' p => ?_)⟩
  · obtain ⟨_, _, _, _, _, _, _, S1, _⟩ := p
    exact SqL.of S1.wl
  · obtain ⟨ws, fo, as, p7, p8, p9, B1, S1, l1, rfl⟩ := p
    rw [List.getElem?_map] at hx
    obtain ⟨th, eth, rfl⟩ := Option.map_eq_some_iff.mp hx
    obtain ⟨hi, _⟩ := List.getElem?_eq_some_iff.mp eth
    obtain ⟨t, ht⟩ : ∃ t, wv[i]? = some t := ⟨_, List.getElem?_eq_getElem (by omega)⟩
    let Pj : Nat → L2.St → Hp → Prop := fun j σ H2 => ∃ ws fo as o8 o9, Bfs g L x0 d ws wv fo i j ∧ Srch H0 H2 D wa fa ts ws wv fo as ∧ ws.length = ws0.length + fo.length ∧
      σ = [some (.ref a), some (nv L), some (.ref st), some .non, some (.ref D), some (.ref wa), some (.ref fa), some (.ref th), o8, o9]
    refine ⟨_, rfl, (L : Int), rfl, by omega, by omega, for_range Pj ⟨ws, fo, as, p8, p9, B1, S1, l1, rfl⟩ (fun j σ H2 hj p => ?_) (fun σ H2 p => ?_)⟩
    · obtain ⟨ws', fo', as', q8, q9, B2, S2, l2, rfl⟩ := p
      have z : (0 : Int) + ((j : Nat) : Int) = ((j : Nat) : Int) := by omega
      rw [z]
      refine step_read (t := t) hr hst h0 hU few hF hB B2 ht (by simpa using hj) (by omega) S2 (S2.wt i th t eth ht) fun w3 f3 a3 H3 v B3 S3 l3 _ => ⟨w3, f3, a3, _, _, B3, S3, by omega, rfl⟩
    · obtain ⟨ws', fo', as', q8, q9, B2, S2, l2, rfl⟩ := p
      exact ⟨ws', fo', as', _, _, _, Bfs.next (by simpa using B2) ht, S2, l2, rfl⟩
  · obtain ⟨ws, fo, as, p7, p8, p9, B1, S1, l1, rfl⟩ := p
    rw [List.length_map, lt] at B1
    exact next ws fo as H' p7 p8 p9 B1 S1 l1
abbrev tReach (X : Cx) : TS := tSeq (tAsg (tDisp1 (tVar 0) (tLst tNil)) (gName 4)) (tSeq (tDrop (tCall spRefuse [] E0 (tCons (tVar 4) (tCons (tVar 3) tNil)))) (tSeq (tAsg (tLst (tCons (tVar 0) tNil)) (gName 5))
  (tSeq (tWhile (fun σ H_1 Q => tVar 5 σ H_1 fun x H' => ∃ k, TruV X.K x H' k ∧ Q k H') (tSeq (tAsg (tLst tNil) (gName 6)) (tSeq (tWave X) (tAsg (tVar 6) (gName 5))))) (tRet (tVar 4)))))
theorem few_ws {d i j : Nat} {ws wv fo : TW} (h0 : x0 ∈ U) (hU : ∀ x ∈ U, ∀ l, l < L → g x l ∈ U) (B : Bfs g L x0 d ws wv fo i j) : ws.length ≤ U.length := by
  rw [← List.length_map (f := (·.1)) (as := ws)]
  exact few_of B.keys fun x hx => by
    obtain ⟨p, hp, rfl⟩ := List.mem_map.mp hx
    obtain ⟨r1, r2⟩ := B.run p hp
    rw [← r2]
    exact goes_in h0 hU p.2 r1
theorem reach_read {En : Ends} (hr : Room 5 X.A) (ha : H0 a = some (.tup (x0.map nv))) (hst : H0 st = some (LamO st sd)) (h0 : x0 ∈ U) (hU : ∀ x ∈ U, ∀ l, l < L → g x l ∈ U) (few : U.length ≤ 4000) (fewL : L ≤ 4000)
    (hF : FnOk X.prog X.w X.K X.mg X.base CX0 5 st sd ps (spStep (Same H0) U L g)) (hB : Binds X.K sd ps []) (q : ∀ D ws as H', Same H0 H' → WordsAt H' D ws as → (∀ b ∈ D :: as, H0 b = none) → Told g L x0 ws → En.rt (.ref D) H') :
    tReach X En [some (.ref a), some (nv L), some (.ref st), some .non, none, none, none, none, none, none] H0 := by
  intro D hD
  have kD := same_new hD (.dT [])
  refine ⟨_, rfl, by show 0 ≤ sizeLine; decide, fun l hl => ?_⟩
  have kl := same_new hl (.lst [])
  refine ⟨kl _ _ upd_same, a, nk x0, rfl, by rw [nk_kV]; exact (kD.trans kl) _ _ ha, ?_⟩
  have lD : l ≠ D := fun z => by
    subst z
    rw [upd_same] at hl
    cases hl
  have W0 : WordsAt (upd (upd (upd H0 D (.dT [])) l (.lst [])) D (.dT [(nk x0, .ref l)])) D [(x0, [])] [l] := ⟨rfl, upd_same, fun j b p h1 h2 => by
    cases j with
    | zero =>
      cases h1
      cases h2
      rw [upd_ne lD, upd_same]
      rfl
    | succ j => simp at h1⟩
  have g0 : Same H0 (upd (upd (upd H0 D (.dT [])) l (.lst [])) D (.dT [(nk x0, .ref l)])) := same_upd (kD.trans kl) hD
  generalize upd (upd (upd H0 D (.dT [])) l (.lst [])) D (.dT [(nk x0, .ref l)]) = H1 at W0 g0 ⊢
  refine ⟨_, rfl, _, rfl, D, rfl, _, rfl, by show 1 ≤ sizeLine; decide, fun wa hw => ?_⟩
  have kw := same_new hw (.lst [.ref a])
  let Wv : Nat → L2.St → Hp → Prop := fun m σ H => ∃ (d : Nat) (ws wv : TW) (as : List Addr) (wa : Addr) (ts : List Addr) (o6 o7 o8 o9 : Option V), Bfs g L x0 d ws wv [] 0 0 ∧ WordsAt H D ws as ∧ H wa = some (.lst (ts.map .ref)) ∧ (∀ (j : Nat) (t : Addr) (p : List Nat × List Nat), ts[j]? = some t → wv[j]? = some p → H t = some (.tup (p.1.map nv))) ∧ ts.length = wv.length ∧ Same H0 H ∧ (∀ b ∈ as, H0 b = none) ∧
      (wv ≠ [] → d + 1 ≤ ws.length) ∧ m = 2 * (U.length - ws.length) + (if wv = [] then 0 else 1) ∧ σ = [some (.ref a), some (nv L), some (.ref st), some .non, some (.ref D), some (.ref wa), o6, o7, o8, o9]
  refine ⟨Wv, ⟨_, 0, [(x0, [])], [(x0, [])], [l], wa, [a], none, none, none, none, Bfs.start, W0.same kw, upd_same, ?_, rfl, g0.trans kw, fun b hb => (by rw [List.mem_singleton.mp hb]; exact kD.free hl), fun _ => Nat.le_refl _, rfl, rfl⟩, fun m σ H P => ?_⟩
  · intro j t p h1 h2
    cases j with
    | zero =>
      cases h1
      cases h2
      exact (g0.trans kw) _ _ ha
    | succ j => simp at h1
  · obtain ⟨d, ws, wv, as, wa, ts, o6, o7, o8, o9, B, W, wl, wt, lt, gg, nw, deep, hm, rfl⟩ := P
    refine ⟨_, rfl, !(ts.map V.ref).isEmpty, .inl ⟨_, SqL.of wl, rfl⟩, ?_⟩
    by_cases hwv : wv = []
    · subst hwv
      have e : ts = [] := List.length_eq_zero_iff.mp lt
      subst e
      rw [if_neg (by simp)]
      exact ⟨_, rfl, q D ws as H gg W (fun b hb => (List.mem_cons.mp hb).elim (fun e => e ▸ hD) (nw b)) B.told⟩
    · have ne : ts ≠ [] := fun z => hwv (List.length_eq_zero_iff.mp (by rw [← lt, z]; rfl))
      have c1 : (!(ts.map V.ref).isEmpty) = true := by
        cases ts with
        | nil => exact absurd rfl ne
        | cons => rfl
      rw [c1]
      refine iteT ?_
      refine ⟨fun σ' H' => ∃ m', m' < m ∧ Wv m' σ' H', fun σ' H' h => h, by show 0 ≤ sizeLine; decide, fun fa hfa => ?_⟩
      have kf := same_new hfa (.lst [])
      have fas : fa ∉ as := fun m => by
        obtain ⟨j, e⟩ := List.mem_iff_getElem?.mp m
        obtain ⟨hj, _⟩ := List.getElem?_eq_some_iff.mp e
        have z := W.list j fa _ e (List.getElem?_eq_getElem (by rw [← W.len]; exact hj))
        rw [hfa] at z
        cases z
      have S : Srch H0 (upd H fa (.lst [])) D wa fa ts ws wv [] as := ⟨gg.trans kf, hD, gg.free hfa, W.same kf, kf _ _ wl, fun j t p h1 h2 => kf _ _ (wt j t p h1 h2), ⟨[], upd_same, rfl, fun j t p h1 _ => by simp at h1⟩, ne_of_none wl hfa, fas, nw⟩
      refine wave_read (En := { En with nx := _, ct := _, bk := _ }) hr hst h0 hU few fewL hF hB B (deep hwv) S lt fun ws' fo as' H' p7 p8 p9 B' S' l' => ?_
      obtain ⟨tf, f1, f2, f3⟩ := S'.foll
      have z1 := few_ws h0 hU B'
      have z2 := deep hwv
      refine ⟨_, rfl, 2 * (U.length - ws'.length) + (if fo = [] then 0 else 1), ?_, d + 1, ws', fo, as', fa, tf, _, _, _, _, B'.wave', S'.W, f1, f3, f2, S'.g, S'.new, fun nf => ?_, rfl, rfl⟩
      · rw [hm, if_neg hwv]
        by_cases hf : fo = []
        · subst hf
          rw [if_pos rfl]
          simp at l'
          omega
        · have := List.length_pos_iff.mpr hf
          rw [if_neg hf]
          omega
      · have := List.length_pos_iff.mpr nf
        omega
end
end L2
namespace L2
open PySem PySem.Spec PyProof.Rows
def hd (x : List Nat) : Nat := x.getD 0 0
def kvsI (ws : TW) (as : List Addr) : List (Key × V) := List.zipWith (fun p a => ((Sum.inl (hd p.1 : Int) : Key), V.ref a)) ws as
theorem kvsI_snoc {ws : TW} {as : List Addr} {p : List Nat × List Nat} {a : Addr} (h : as.length = ws.length) : kvsI (ws ++ [p]) (as ++ [a]) = kvsI ws as ++ [(Sum.inl (hd p.1 : Int), .ref a)] := by
  unfold kvsI
  rw [List.zipWith_append h.symm]
  rfl
theorem kvsI_len {ws : TW} {as : List Addr} (h : as.length = ws.length) : (kvsI ws as).length = ws.length := by
  unfold kvsI
  rw [List.length_zipWith]
  omega
theorem inl_ne {a b : Nat} (h : a ≠ b) : ¬ (Sum.inl (a : Int) : Key) = Sum.inl (b : Int) := fun z => h (Int.ofNat.inj (Sum.inl.inj z))
theorem valI_no : ∀ {ws : TW} {as : List Addr} {x : Nat}, (∀ p ∈ ws, hd p.1 ≠ x) → valV (kvsI ws as) (Sum.inl (x : Int)) = none
  | [], _, _, _ => rfl
  | _ :: _, [], _, _ => rfl
  | p :: ws, a :: as, x, h =>
    (valV_neg (p := ((Sum.inl (hd p.1 : Int) : Key), V.ref a)) (r := kvsI ws as) (inl_ne (h p (List.mem_cons_self ..)))).trans (valI_no fun q hq => h q (List.mem_cons_of_mem _ hq))
theorem valI_at : ∀ {ws : TW} {as : List Addr} {j : Nat} {p : List Nat × List Nat} {a : Addr}, (ws.map (fun p => hd p.1)).Nodup → ws[j]? = some p → as[j]? = some a → valV (kvsI ws as) (Sum.inl (hd p.1 : Int)) = some (.ref a)
  | q :: ws, b :: as, 0, p, a, _, hp, ha => by
    cases hp
    cases ha
    exact valV_pos (p := ((Sum.inl (hd q.1 : Int) : Key), V.ref b)) (r := kvsI ws as) rfl
  | q :: ws, b :: as, j + 1, p, a, nd, hp, ha => by
    obtain ⟨h1, h2⟩ := List.nodup_cons.mp nd
    have hp' : ws[j]? = some p := by simpa using hp
    have n : hd q.1 ≠ hd p.1 := fun z => h1 (List.mem_map.mpr ⟨p, List.mem_of_getElem? hp', z.symm⟩)
    exact (valV_neg (p := ((Sum.inl (hd q.1 : Int) : Key), V.ref b)) (r := kvsI ws as) (inl_ne n)).trans (valI_at h2 hp' (by simpa using ha))
  | [], _, _, _, _, _, hp, _ => by simp at hp
  | _ :: _, [], _, _, _, _, _, ha => by simp at ha
structure WordsI (H : Hp) (D : Addr) (ws : TW) (as : List Addr) : Prop where
  len : as.length = ws.length
  dict : H D = some (.dK (kvsI ws as))
  list : ∀ (j : Nat) (a : Addr) (p : List Nat × List Nat), as[j]? = some a → ws[j]? = some p → H a = some (.lst (p.2.map nv))
theorem WordsI.same {H H' : Hp} {D : Addr} {ws : TW} {as : List Addr} (W : WordsI H D ws as) (g : Same H H') : WordsI H' D ws as := ⟨W.len, g _ _ W.dict, fun j a p h1 h2 => g _ _ (W.list j a p h1 h2)⟩
theorem WordsI.word {H : Hp} {D : Addr} {ws : TW} {as : List Addr} {p : List Nat × List Nat} (W : WordsI H D ws as) (nd : (ws.map (fun p => hd p.1)).Nodup) (hp : p ∈ ws) : ∃ a, valV (kvsI ws as) (Sum.inl (hd p.1 : Int)) = some (.ref a) ∧ H a = some (.lst (p.2.map nv)) := by
  obtain ⟨j, e⟩ := List.mem_iff_getElem?.mp hp
  obtain ⟨hj, _⟩ := List.getElem?_eq_some_iff.mp e
  obtain ⟨a, ea⟩ : ∃ a, as[j]? = some a := ⟨_, List.getElem?_eq_getElem (by rw [W.len]; exact hj)⟩
  exact ⟨a, valI_at nd e ea, W.list j a p ea e⟩
theorem WordsI.put {H : Hp} {D l : Addr} {ws : TW} {as : List Addr} {p : List Nat × List Nat} (W : WordsI H D ws as) (hl : H l = some (.lst (p.2.map nv))) : WordsI (upd H D (.dK (kvsI ws as ++ [(Sum.inl (hd p.1 : Int), .ref l)]))) D (ws ++ [p]) (as ++ [l]) := by
  have nD : ∀ {a : Addr} {xs : List V}, H a = some (.lst xs) → a ≠ D := fun h => ne_of h W.dict (fun z => nomatch z)
  refine ⟨by simp [W.len], by rw [upd_same, kvsI_snoc W.len], fun j a q h1 h2 => ?_⟩
  by_cases hj : j < ws.length
  · rw [List.getElem?_append_left (by rw [W.len]; exact hj)] at h1
    rw [List.getElem?_append_left hj] at h2
    have z := W.list j a q h1 h2
    rw [upd_ne (nD z)]
    exact z
  · rw [List.getElem?_append_right (by rw [W.len]; omega)] at h1
    rw [List.getElem?_append_right (by omega)] at h2
    have z : j - ws.length = 0 := by
      have := (List.getElem?_eq_some_iff.mp h2).1
      simp at this
      omega
    rw [W.len, z] at h1
    rw [z] at h2
    cases h1
    cases h2
    rw [upd_ne (nD hl)]
    exact hl
def spStepI (G : Hp → Prop) (U : List (List Nat)) (L : Nat) (g : List Nat → Nat → List Nat) : Sp := fun vs H Q _ => ∃ (x : List Nat) (l : Nat), vs = [nv (hd x), nv l] ∧ G H ∧ x ∈ U ∧ l < L ∧ ∀ H', Same H H' → Q (nv (hd (g x l))) H'
def thsI (ps : TW) : List V := ps.map fun p => nv (hd p.1)
structure SrchI (H0 H : Hp) (D wa fa : Addr) (ws wv fo : TW) (as : List Addr) : Prop where
  g : Same H0 H
  nD : H0 D = none
  nF : H0 fa = none
  W : WordsI H D ws as
  wl : H wa = some (.lst (thsI wv))
  foll : H fa = some (.lst (thsI fo))
  wf : wa ≠ fa
  fas : fa ∉ as
  new : ∀ b ∈ as, H0 b = none
theorem SrchI.same {H0 H H' : Hp} {D wa fa : Addr} {ws wv fo : TW} {as : List Addr} (S : SrchI H0 H D wa fa ws wv fo as) (k : Same H H') : SrchI H0 H' D wa fa ws wv fo as :=
  ⟨S.g.trans k, S.nD, S.nF, S.W.same k, k _ _ S.wl, k _ _ S.foll, S.wf, S.fas, S.new⟩
theorem SrchI.more {H0 H : Hp} {D wa fa l : Addr} {ws wv fo : TW} {as : List Addr} {p : List Nat × List Nat} (S : SrchI H0 H D wa fa ws wv fo as) (hl : H l = some (.lst (p.2.map nv))) (lf : l ≠ fa) (l0 : H0 l = none) :
    SrchI H0 (upd (upd H D (.dK (kvsI ws as ++ [(Sum.inl (hd p.1 : Int), .ref l)]))) fa (.lst (thsI fo ++ [nv (hd p.1)]))) D wa fa (ws ++ [p]) wv (fo ++ [p]) (as ++ [l]) := by
  have fD : fa ≠ D := ne_of S.foll S.W.dict fun e => nomatch e
  have wD : wa ≠ D := ne_of S.wl S.W.dict fun e => nomatch e
  have W1 := S.W.put (l := l) (p := p) hl
  refine ⟨same_upd (same_upd S.g S.nD) S.nF, S.nD, S.nF, ⟨W1.len, ?_, fun j a q h1 h2 => ?_⟩, ?_, ?_, S.wf, ?_, fun b hb => (List.mem_append.mp hb).elim (S.new b) fun m => by rw [List.mem_singleton.mp m]; exact l0⟩
  · rw [upd_ne (Ne.symm fD)]
    exact W1.dict
  · have na : a ≠ fa := fun z => by
      subst z
      rcases List.mem_append.mp (List.mem_of_getElem? h1) with m | m
      · exact S.fas m
      · exact lf (List.mem_singleton.mp m).symm
    rw [upd_ne na]
    exact W1.list j a q h1 h2
  · rw [upd_ne S.wf, upd_ne wD]
    exact S.wl
  · rw [upd_same]
    unfold thsI
    rw [List.map_append]
    rfl
  · intro m
    rcases List.mem_append.mp m with m | m
    · exact S.fas m
    · exact lf (List.mem_singleton.mp m).symm
section
variable {X : Cx} {H0 : Hp} {st D wa fa : Addr} {sd : FuncData} {ps : List Str} {x0 : List Nat} {L : Nat} {U : List (List Nat)} {g : List Nat → Nat → List Nat}
theorem hd_keys {ws : TW} (hS : ∀ x ∈ U, x = [hd x]) (inU : ∀ p ∈ ws, p.1 ∈ U) (nd : (ws.map (·.1)).Nodup) : (ws.map (fun p => hd p.1)).Nodup := by
  refine List.pairwise_map.mpr ((List.pairwise_map.mp nd).imp_of_mem fun {p q} hp hq h z => h ?_)
  rw [hS _ (inU p hp), hS _ (inU q hq), z]
theorem bfs_in {d i j : Nat} {ws wv fo : TW} (h0 : x0 ∈ U) (hU : ∀ x ∈ U, ∀ l, l < L → g x l ∈ U) (B : Bfs g L x0 d ws wv fo i j) : ∀ p ∈ ws, p.1 ∈ U := fun p hp => by
  obtain ⟨r1, r2⟩ := B.run p hp
  rw [← r2]
  exact goes_in h0 hU p.2 r1
theorem step_readI {d i j : Nat} {ws wv fo : TW} {as : List Addr} {t : List Nat × List Nat} {H : Hp} {En : Ends} {o9 : Option V} (hr : Room 5 X.A) (hst : H0 st = some (LamO st sd)) (hS : ∀ x ∈ U, x = [hd x]) (h0 : x0 ∈ U) (hU : ∀ x ∈ U, ∀ l, l < L → g x l ∈ U) (few : U.length ≤ 4000)
    (hF : FnOk X.prog X.w X.K X.mg X.base CX0 5 st sd ps (spStepI (Same H0) U L g)) (hB : Binds X.K sd ps []) (B : Bfs g L x0 d ws wv fo i j) (ht : wv[i]? = some t) (hj : j < L) (hd' : d + 1 ≤ ws.length) (S : SrchI H0 H D wa fa ws wv fo as)
    (next : ∀ ws' fo' as' H' v, Bfs g L x0 d ws' wv fo' i (j + 1) → SrchI H0 H' D wa fa ws' wv fo' as' → ws'.length + fo.length = ws.length + fo'.length →
      En.nx [some (nv (hd x0)), some (nv L), some (.ref st), some .non, some (.ref D), some (.ref wa), some (.ref fa), some (nv (hd t.1)), some (nv j), some v] H') :
    tStep X En [some (nv (hd x0)), some (nv L), some (.ref st), some .non, some (.ref D), some (.ref wa), some (.ref fa), some (nv (hd t.1)), some (nv j), o9] H := by
  have inU := bfs_in h0 hU B
  have tU : t.1 ∈ U := inU t (B.wave t (List.mem_of_getElem? ht)).1
  have nd := hd_keys hS inU B.keys
  have fewW : ws.length ≤ 4000 := by
    have z : (ws.map (·.1)).length ≤ U.length := few_of B.keys fun x hx => by
      obtain ⟨p, hp, rfl⟩ := List.mem_map.mp hx
      exact inU p hp
    rw [List.length_map] at z
    omega
  refine ⟨_, rfl, st, sd, rfl, S.g _ _ hst, _, rfl, _, rfl, S.g _ _ hst, 5, ps, _, hF, hr, hB, t.1, j, rfl, S.g, tU, hj, fun H1 g1 => ?_⟩
  have S1 := S.same g1
  refine ⟨_, rfl, _, rfl, D, _, rfl, DGet.k (k := Sum.inl (hd (g t.1 j) : Int)) S1.W.dict, _, rfl, ?_⟩
  by_cases hm : g t.1 j ∈ ws.map (·.1)
  · obtain ⟨p, hp, e⟩ := List.mem_map.mp hm
    obtain ⟨c, v1, _⟩ := S1.W.word nd hp
    rw [← e, v1]
    rw [if_neg (by simp)]
    exact next ws fo as H1 _ (B.old ht hm) S1 rfl
  · have no : ∀ p ∈ ws, hd p.1 ≠ hd (g t.1 j) := fun p hp z => hm (List.mem_map.mpr ⟨p, hp, by rw [hS _ (inU p hp), hS _ (hU _ tU j hj), z]⟩)
    rw [valI_no no]
    refine iteT ?_
    obtain ⟨tw, tl⟩ := B.wave t (List.mem_of_getElem? ht)
    obtain ⟨c, v1, v2⟩ := S1.W.word nd tw
    have dg : DGet H1 D (nv (hd t.1)) (some (.ref c)) := v1 ▸ DGet.k (k := Sum.inl (hd t.1 : Int)) S1.W.dict
    refine ⟨_, rfl, _, rfl, D, _, rfl, dg, _, rfl, by show 1 ≤ sizeLine; decide, fun p hp => ?_⟩
    have k2 := same_new hp (.lst [nv j])
    refine ⟨c, p, _, _, rfl, rfl, SqL.of (k2 _ _ v2), SqL.of upd_same, by rw [List.length_map, tl, sizeLine_eq]; show d + 1 ≤ _; omega, fun l hl => ?_⟩
    have k3 := k2.trans (same_new hl (.lst (t.2.map nv ++ [nv j])))
    have S3 := S1.same k3
    have hl3 : upd (upd H1 p (.lst [nv j])) l (.lst (t.2.map nv ++ [nv j])) l = some (.lst ((t.2 ++ [j]).map nv)) := by rw [upd_same, List.map_append]; rfl
    have lf : l ≠ fa := fun z => by
      have q2 := k2 _ _ S1.foll
      rw [← z, hl] at q2
      cases q2
    generalize upd (upd H1 p (.lst [nv j])) l (.lst (t.2.map nv ++ [nv j])) = H3 at S3 hl3 ⊢
    refine ⟨_, rfl, _, rfl, D, _, rfl, DPut.k (k := Sum.inl (hd (g t.1 j) : Int)) S3.W.dict (by rw [kvsI_len S3.W.len, sizeLine_eq]; omega), ?_⟩
    rw [putK_new _ (valI_no no)]
    have fD : fa ≠ D := ne_of S3.foll S3.W.dict fun e => nomatch e
    have ffD : (upd H3 D (.dK (kvsI ws as ++ [(Sum.inl (hd (g t.1 j) : Int), .ref l)]))) fa = some (.lst (thsI fo)) := by rw [upd_ne fD]; exact S3.foll
    have fl : fo.length ≤ 4000 := by
      have z : (fo.map (·.1)).length ≤ ws.length := by
        rw [← List.length_map (f := (·.1)) (as := ws)]
        refine few_of ?_ fun x hx => ?_
        · refine (List.pairwise_map.mpr (B.fup.imp_of_mem fun {p q} hp hq h z => ?_))
          obtain ⟨i1, e1⟩ := List.mem_iff_getElem?.mp (B.foll p hp).1
          obtain ⟨i2, e2⟩ := List.mem_iff_getElem?.mp (B.foll q hq).1
          have ii : i1 = i2 := (List.getElem?_inj (by rw [List.length_map]; exact (List.getElem?_eq_some_iff.mp e1).1) B.keys).mp (by rw [List.getElem?_map, List.getElem?_map, e1, e2]; exact congrArg some z)
          subst ii
          rw [e1] at e2
          cases e2
          exact sl_irr h
        · obtain ⟨p, hp, rfl⟩ := List.mem_map.mp hx
          exact List.mem_map.mpr ⟨p, (B.foll p hp).1, rfl⟩
      rw [List.length_map] at z
      omega
    refine ⟨_, rfl, _, rfl, D, rfl, _, rfl, .inl ⟨rfl, _, SqL.of ffD⟩, _, rfl, fa, _, _, rfl, rfl, ffD, by unfold thsI; rw [List.length_map, sizeLine_eq]; omega, ?_⟩
    exact next (ws ++ [(g t.1 j, t.2 ++ [j])]) (fo ++ [(g t.1 j, t.2 ++ [j])]) (as ++ [l]) _ _ (B.new ht hj hm) (S3.more (p := (g t.1 j, t.2 ++ [j])) hl3 lf ((S1.g.trans k2).free hl)) (by simp; omega)
theorem wave_readI {d : Nat} {ws0 wv : TW} {as0 : List Addr} {H : Hp} {En : Ends} {o7 o8 o9 : Option V} (hr : Room 5 X.A) (hst : H0 st = some (LamO st sd)) (hS : ∀ x ∈ U, x = [hd x]) (h0 : x0 ∈ U) (hU : ∀ x ∈ U, ∀ l, l < L → g x l ∈ U) (few : U.length ≤ 4000) (fewL : L ≤ 4000)
    (hF : FnOk X.prog X.w X.K X.mg X.base CX0 5 st sd ps (spStepI (Same H0) U L g)) (hB : Binds X.K sd ps []) (B : Bfs g L x0 d ws0 wv [] 0 0) (hd' : d + 1 ≤ ws0.length) (S : SrchI H0 H D wa fa ws0 wv [] as0)
    (next : ∀ ws fo as H' o7 o8 o9, Bfs g L x0 d ws wv fo wv.length 0 → SrchI H0 H' D wa fa ws wv fo as → ws.length = ws0.length + fo.length → En.nx [some (nv (hd x0)), some (nv L), some (.ref st), some .non, some (.ref D), some (.ref wa), some (.ref fa), o7, o8, o9] H') :
    tWave X En [some (nv (hd x0)), some (nv L), some (.ref st), some .non, some (.ref D), some (.ref wa), some (.ref fa), o7, o8, o9] H := by
  let Pv : Nat → L2.St → Hp → Prop := fun i σ H' => ∃ ws fo as o7 o8 o9, Bfs g L x0 d ws wv fo i 0 ∧ SrchI H0 H' D wa fa ws wv fo as ∧ ws.length = ws0.length + fo.length ∧
    σ = [some (nv (hd x0)), some (nv L), some (.ref st), some .non, some (.ref D), some (.ref wa), some (.ref fa), o7, o8, o9]
  refine ⟨_, rfl, wa, rfl, ⟨_, SqL.of S.wl⟩, for_list (xs := thsI wv) Pv ⟨ws0, [], as0, o7, o8, o9, B, S, by simp, rfl⟩ (fun i σ H' _ p => ?_) (fun i x σ H' hx p => ?_) (fun σ H' p => ?_)⟩
  · obtain ⟨_, _, _, _, _, _, _, S1, _⟩ := p
    exact SqL.of S1.wl
  · obtain ⟨ws, fo, as, p7, p8, p9, B1, S1, l1, rfl⟩ := p
    unfold thsI at hx
    rw [List.getElem?_map] at hx
    obtain ⟨t, ht, rfl⟩ := Option.map_eq_some_iff.mp hx
    let Pj : Nat → L2.St → Hp → Prop := fun j σ H2 => ∃ ws fo as o8 o9, Bfs g L x0 d ws wv fo i j ∧ SrchI H0 H2 D wa fa ws wv fo as ∧ ws.length = ws0.length + fo.length ∧
      σ = [some (nv (hd x0)), some (nv L), some (.ref st), some .non, some (.ref D), some (.ref wa), some (.ref fa), some (nv (hd t.1)), o8, o9]
    refine ⟨_, rfl, (L : Int), rfl, by omega, by omega, for_range Pj ⟨ws, fo, as, p8, p9, B1, S1, l1, rfl⟩ (fun j σ H2 hj p => ?_) (fun σ H2 p => ?_)⟩
    · obtain ⟨ws', fo', as', q8, q9, B2, S2, l2, rfl⟩ := p
      have z : (0 : Int) + ((j : Nat) : Int) = ((j : Nat) : Int) := by omega
      rw [z]
      refine step_readI (t := t) hr hst hS h0 hU few hF hB B2 ht (by simpa using hj) (by omega) S2 fun w3 f3 a3 H3 v B3 S3 l3 => ⟨w3, f3, a3, _, _, B3, S3, by omega, rfl⟩
    · obtain ⟨ws', fo', as', q8, q9, B2, S2, l2, rfl⟩ := p
      exact ⟨ws', fo', as', _, _, _, Bfs.next (by simpa using B2) ht, S2, l2, rfl⟩
  · obtain ⟨ws, fo, as, p7, p8, p9, B1, S1, l1, rfl⟩ := p
    unfold thsI at B1
    rw [List.length_map] at B1
    exact next ws fo as H' p7 p8 p9 B1 S1 l1
def tDisp1B (tk tv : TE) : TE := fun σ H Q => tDisp1 tk tv σ H Q ∨ tDisp [(tk, tv)] σ H Q
theorem pe_disp1B {k v : Expr} {tk tv : TE} {pos : Pos} (hu : X.A.units + 1 < cLine) (hk : PE X k tk) (hv : PE X v tv) : PE X (.Dict [some k] [v] pos) (tDisp1B tk tv) := by
  intro pins s σ H Q I q
  rcases q with q | q
  · exact pe_disp1 hu hk hv pins s σ H Q I q
  · exact pe_disp (pps_cons hk hv pps_nil) rfl rfl (by simp) (by show 1 ≤ 15; decide) pins s σ H Q I q
abbrev tReachB (X : Cx) : TS := tSeq (tAsg (tDisp1B (tVar 0) (tLst tNil)) (gName 4)) (tSeq (tDrop (tCall spRefuse [] E0 (tCons (tVar 4) (tCons (tVar 3) tNil)))) (tSeq (tAsg (tLst (tCons (tVar 0) tNil)) (gName 5))
  (tSeq (tWhile (fun σ H_1 Q => tVar 5 σ H_1 fun x H' => ∃ k, TruV X.K x H' k ∧ Q k H') (tSeq (tAsg (tLst tNil) (gName 6)) (tSeq (tWave X) (tAsg (tVar 6) (gName 5))))) (tRet (tVar 4)))))
theorem reach_readI {En : Ends} (hr : Room 5 X.A) (hst : H0 st = some (LamO st sd)) (hS : ∀ x ∈ U, x = [hd x]) (h0 : x0 ∈ U) (hU : ∀ x ∈ U, ∀ l, l < L → g x l ∈ U) (few : U.length ≤ 4000) (fewL : L ≤ 4000)
    (hF : FnOk X.prog X.w X.K X.mg X.base CX0 5 st sd ps (spStepI (Same H0) U L g)) (hB : Binds X.K sd ps []) (q : ∀ D ws as H', Same H0 H' → WordsI H' D ws as → (∀ b ∈ D :: as, H0 b = none) → Told g L x0 ws → En.rt (.ref D) H') :
    tReachB X En [some (nv (hd x0)), some (nv L), some (.ref st), some .non, none, none, none, none, none, none] H0 := by
  refine .inr ?_
  intro D hD
  have kD := same_new hD (.dK [])
  refine ⟨_, rfl, by show 0 ≤ sizeLine; decide, fun l hl => ?_⟩
  have kl := same_new hl (.lst [])
  refine ⟨kl _ _ upd_same, [(Sum.inl (hd x0 : Int), .ref l)], rfl, by show 1 ≤ 15; decide, ?_⟩
  have lD : l ≠ D := fun z => by
    subst z
    rw [upd_same] at hl
    cases hl
  have W0 : WordsI (upd (upd (upd H0 D (.dK [])) l (.lst [])) D (.dK (mergeK [] [(Sum.inl (hd x0 : Int), .ref l)]))) D [(x0, [])] [l] := ⟨rfl, upd_same, fun j b p h1 h2 => by
    cases j with
    | zero =>
      cases h1
      cases h2
      rw [upd_ne lD, upd_same]
      rfl
    | succ j => simp at h1⟩
  have g0 : Same H0 (upd (upd (upd H0 D (.dK [])) l (.lst [])) D (.dK (mergeK [] [(Sum.inl (hd x0 : Int), .ref l)]))) := same_upd (kD.trans kl) hD
  generalize upd (upd (upd H0 D (.dK [])) l (.lst [])) D (.dK (mergeK [] [(Sum.inl (hd x0 : Int), .ref l)])) = H1 at W0 g0 ⊢
  refine ⟨_, rfl, _, rfl, D, rfl, _, rfl, by show 1 ≤ sizeLine; decide, fun wa hw => ?_⟩
  have kw := same_new hw (.lst [nv (hd x0)])
  let Wv : Nat → L2.St → Hp → Prop := fun m σ H => ∃ (d : Nat) (ws wv : TW) (as : List Addr) (wa : Addr) (o6 o7 o8 o9 : Option V), Bfs g L x0 d ws wv [] 0 0 ∧ WordsI H D ws as ∧ H wa = some (.lst (thsI wv)) ∧ Same H0 H ∧ (∀ b ∈ as, H0 b = none) ∧
      (wv ≠ [] → d + 1 ≤ ws.length) ∧ m = 2 * (U.length - ws.length) + (if wv = [] then 0 else 1) ∧ σ = [some (nv (hd x0)), some (nv L), some (.ref st), some .non, some (.ref D), some (.ref wa), o6, o7, o8, o9]
  refine ⟨Wv, ⟨_, 0, [(x0, [])], [(x0, [])], [l], wa, none, none, none, none, Bfs.start, W0.same kw, upd_same, g0.trans kw, fun b hb => (by rw [List.mem_singleton.mp hb]; exact kD.free hl), fun _ => Nat.le_refl _, rfl, rfl⟩, fun m σ H P => ?_⟩
  obtain ⟨d, ws, wv, as, wa, o6, o7, o8, o9, B, W, wl, gg, nw, deep, hm, rfl⟩ := P
  refine ⟨_, rfl, !(thsI wv).isEmpty, .inl ⟨_, SqL.of wl, rfl⟩, ?_⟩
  by_cases hwv : wv = []
  · subst hwv
    rw [if_neg (by simp [thsI])]
    exact ⟨_, rfl, q D ws as H gg W (fun b hb => (List.mem_cons.mp hb).elim (fun e => e ▸ hD) (nw b)) B.told⟩
  · have c1 : (!(thsI wv).isEmpty) = true := by
      cases wv with
      | nil => exact absurd rfl hwv
      | cons => rfl
    rw [c1]
    refine iteT ?_
    refine ⟨fun σ' H' => ∃ m', m' < m ∧ Wv m' σ' H', fun σ' H' h => h, by show 0 ≤ sizeLine; decide, fun fa hfa => ?_⟩
    have kf := same_new hfa (.lst [])
    have fas : fa ∉ as := fun m => by
      obtain ⟨j, e⟩ := List.mem_iff_getElem?.mp m
      obtain ⟨hj, _⟩ := List.getElem?_eq_some_iff.mp e
      have z := W.list j fa _ e (List.getElem?_eq_getElem (by rw [← W.len]; exact hj))
      rw [hfa] at z
      cases z
    have S : SrchI H0 (upd H fa (.lst [])) D wa fa ws wv [] as := ⟨gg.trans kf, hD, gg.free hfa, W.same kf, kf _ _ wl, upd_same, ne_of_none wl hfa, fas, nw⟩
    refine wave_readI (En := { En with nx := _, ct := _, bk := _ }) hr hst hS h0 hU few fewL hF hB B (deep hwv) S fun ws' fo as' H' p7 p8 p9 B' S' l' => ?_
    have z1 := few_ws h0 hU B'
    have z2 := deep hwv
    refine ⟨_, rfl, 2 * (U.length - ws'.length) + (if fo = [] then 0 else 1), ?_, d + 1, ws', fo, as', fa, _, _, _, _, B'.wave', S'.W, S'.foll, S'.g, S'.new, fun nf => ?_, rfl, rfl⟩
    · rw [hm, if_neg hwv]
      by_cases hf : fo = []
      · subst hf
        rw [if_pos rfl]
        simp at l'
        omega
      · have := List.length_pos_iff.mpr hf
        rw [if_neg hf]
        omega
    · have := List.length_pos_iff.mpr nf
      omega
end
end L2
namespace L2
structure Que (f : List Nat → Nat → List Nat) (L : Nat) (x0 : List Nat) (ws : TW) (i j : Nat) : Prop where
  head : ws[0]? = some (x0, [])
  keys : (ws.map (·.1)).Nodup
  run : ∀ p ∈ ws, (∀ l ∈ p.2, l < L) ∧ goes f x0 p.2 = p.1
  up : ws.Pairwise fun p q => sl p.2 q.2
  done : ∀ (a : Nat) p, a < i → ws[a]? = some p → ∀ l, l < L → Goes f ws p l
  part : ∀ p, ws[i]? = some p → ∀ l, l < j → Goes f ws p l
  front : ∀ t, ws[i]? = some t → ∀ p ∈ ws, sl p.2 (t.2 ++ [j])
  short : ∀ (a : Nat) p, ws[a]? = some p → p.2.length ≤ a
section
variable {f : List Nat → Nat → List Nat} {L : Nat} {x0 : List Nat} {ws : TW} {i j : Nat} {t : List Nat × List Nat}
theorem Que.start : Que f L x0 [(x0, [])] 0 0 where
  head := rfl
  keys := by simp
  run := fun p hp => by
    rw [List.mem_singleton.mp hp]
    exact ⟨fun l hl => (nomatch hl), rfl⟩
  up := List.pairwise_singleton _ _
  done := fun a p h => absurd h (Nat.not_lt_zero _)
  part := fun p _ l h => absurd h (Nat.not_lt_zero _)
  front := fun t _ p hp => by
    rw [List.mem_singleton.mp hp]
    exact .inl (by simp)
  short := fun a p h => by
    have z : p ∈ [(x0, ([] : List Nat))] := List.mem_of_getElem? h
    rw [List.mem_singleton.mp z]
    exact Nat.zero_le _
theorem Que.old (q : Que f L x0 ws i j) (ht : ws[i]? = some t) (h : f t.1 j ∈ ws.map (·.1)) : Que f L x0 ws i (j + 1) := by
  refine ⟨q.head, q.keys, q.run, q.up, q.done, fun p hp l hl => ?_, fun t' ht' p hp => ?_, q.short⟩
  · by_cases e : l < j
    · exact q.part p hp l e
    · have e' : l = j := by omega
      subst e'
      rw [ht] at hp
      cases hp
      obtain ⟨r, hr, er⟩ := List.mem_map.mp h
      exact ⟨r.2, by rw [← er]; exact hr, .inr (q.front t ht r hr)⟩
  · rw [ht] at ht'
    cases ht'
    exact sl_trans (q.front t ht p hp) (sl_last _ (Nat.lt_succ_self _))
theorem Que.new (q : Que f L x0 ws i j) (ht : ws[i]? = some t) (hj : j < L) (h : f t.1 j ∉ ws.map (·.1)) : Que f L x0 (ws ++ [(f t.1 j, t.2 ++ [j])]) i (j + 1) := by
  obtain ⟨li, _⟩ := List.getElem?_eq_some_iff.mp ht
  have at1 : ∀ {a : Nat} {p : List Nat × List Nat}, a ≤ i → (ws ++ [(f t.1 j, t.2 ++ [j])])[a]? = some p → ws[a]? = some p := fun {a p} ha e => by
    rwa [List.getElem?_append_left (by omega)] at e
  refine ⟨?_, ?_, fun p hp => ?_, ?_, fun a p ha hp l hl => ?_, fun p hp l hl => ?_, fun t' ht' p hp => ?_, fun a p hp => ?_⟩
  · rw [List.getElem?_append_left (by omega)]
    exact q.head
  · rw [List.map_append, List.nodup_append]
    refine ⟨q.keys, by simp, fun x hx y hy => ?_⟩
    have e : y = f t.1 j := by simpa using hy
    subst e
    exact fun z => h (z ▸ hx)
  · rcases List.mem_append.mp hp with z | z
    · exact q.run p z
    · rw [List.mem_singleton.mp z]
      obtain ⟨r1, r2⟩ := q.run t (List.mem_of_getElem? ht)
      refine ⟨fun l hl => ?_, ?_⟩
      · rcases List.mem_append.mp hl with y | y
        · exact r1 l y
        · rw [List.mem_singleton.mp y]
          exact hj
      · show (t.2 ++ [j]).foldl f x0 = f t.1 j
        rw [List.foldl_append, ← r2]
        rfl
  · refine List.pairwise_append.mpr ⟨q.up, List.pairwise_singleton _ _, fun p hp r hr => ?_⟩
    rw [List.mem_singleton.mp hr]
    exact q.front t ht p hp
  · exact (q.done a p ha (at1 (by omega) hp) l hl).more
  · have hp' := at1 (Nat.le_refl _) hp
    by_cases e : l < j
    · exact (q.part p hp' l e).more
    · have e' : l = j := by omega
      subst e'
      rw [ht] at hp'
      cases hp'
      exact ⟨_, List.mem_append_right _ (List.mem_singleton.mpr rfl), .inl rfl⟩
  · have e := at1 (Nat.le_refl _) ht'
    rw [ht] at e
    cases e
    rcases List.mem_append.mp hp with z | z
    · exact sl_trans (q.front t ht p z) (sl_last _ (Nat.lt_succ_self _))
    · rw [List.mem_singleton.mp z]
      exact sl_last _ (Nat.lt_succ_self _)
  · by_cases e : a < ws.length
    · rw [List.getElem?_append_left e] at hp
      exact q.short a p hp
    · have la := (List.getElem?_eq_some_iff.mp hp).1
      rw [List.length_append] at la
      have ea : a = ws.length := by
        have : a < ws.length + 1 := la
        omega
      rw [ea, List.getElem?_append_right (Nat.le_refl _), Nat.sub_self] at hp
      cases hp
      have := q.short i t ht
      simp
      omega
theorem Que.next (q : Que f L x0 ws i L) (ht : ws[i]? = some t) : Que f L x0 ws (i + 1) 0 := by
  refine ⟨q.head, q.keys, q.run, q.up, fun a p ha hp => ?_, fun p _ l hl => absurd hl (Nat.not_lt_zero _), fun t' ht' p hp => ?_, q.short⟩
  · by_cases e : a < i
    · exact q.done a p e hp
    · have e' : a = i := by omega
      subst e'
      exact q.part p hp
  · obtain ⟨l1, e1⟩ := List.getElem?_eq_some_iff.mp ht
    obtain ⟨l2, e2⟩ := List.getElem?_eq_some_iff.mp ht'
    have up := List.pairwise_iff_getElem.mp q.up i (i + 1) l1 l2 (Nat.lt_succ_self _)
    rw [e1, e2] at up
    exact sl_trans (q.front t ht p hp) (sl_snoc up)
theorem Que.told (q : Que f L x0 ws i j) (h : ws.length ≤ i) : Told f L x0 ws := by
  refine ⟨q.head, q.keys, q.run, q.up, fun p hp => ?_, fun p hp => ?_⟩
  · obtain ⟨a, e⟩ := List.mem_iff_getElem?.mp hp
    exact q.done a p (by have := (List.getElem?_eq_some_iff.mp e).1; omega) e
  · obtain ⟨a, e⟩ := List.mem_iff_getElem?.mp hp
    have := (List.getElem?_eq_some_iff.mp e).1
    have := q.short a p e
    omega
end
end L2
namespace L2
open PySem PySem.Spec PyProof.Rows
structure QAt (H0 H : Hp) (D S : Addr) (ts : List Addr) (ws : TW) (as : List Addr) : Prop where
  g : Same H0 H
  nD : H0 D = none
  nS : H0 S = none
  W : WordsAt H D ws as
  lst : H S = some (.lst (ts.map .ref))
  len : ts.length = ws.length
  each : ∀ (j : Nat) (t : Addr) (p : List Nat × List Nat), ts[j]? = some t → ws[j]? = some p → H t = some (.tup (p.1.map nv))
  out : S ∉ as
theorem QAt.same {H0 H H' : Hp} {D S : Addr} {ts as : List Addr} {ws : TW} (q : QAt H0 H D S ts ws as) (k : Same H H') : QAt H0 H' D S ts ws as :=
  ⟨q.g.trans k, q.nD, q.nS, q.W.same k, k _ _ q.lst, q.len, fun j t p h1 h2 => k _ _ (q.each j t p h1 h2), q.out⟩
theorem QAt.more {H0 H : Hp} {D S l t : Addr} {ts as : List Addr} {ws : TW} {p : List Nat × List Nat} (q : QAt H0 H D S ts ws as) (hl : H l = some (.lst (p.2.map nv))) (lS : l ≠ S) (ht : H t = some (.tup (p.1.map nv))) :
    QAt H0 (upd (upd H D (.dT (kvsOf ws as ++ [(nk p.1, .ref l)]))) S (.lst (ts.map .ref ++ [.ref t]))) D S (ts ++ [t]) (ws ++ [p]) (as ++ [l]) := by
  have SD : S ≠ D := ne_of q.lst q.W.dict fun e => nomatch e
  have off : ∀ {a : Addr} {xs : List V}, H a = some (.tup xs) → (upd (upd H D (.dT (kvsOf ws as ++ [(nk p.1, .ref l)]))) S (.lst (ts.map .ref ++ [.ref t]))) a = some (.tup xs) := fun h => by
    rw [upd_ne (ne_of h q.lst fun e => nomatch e), upd_ne (ne_of h q.W.dict fun e => nomatch e)]
    exact h
  have W1 := q.W.put (l := l) (p := p) hl
  refine ⟨same_upd (same_upd q.g q.nD) q.nS, q.nD, q.nS, ⟨W1.len, ?_, fun j a r h1 h2 => ?_⟩, ?_, by simp [q.len], fun j a r e1 e2 => ?_, fun m => ?_⟩
  · rw [upd_ne (Ne.symm SD)]
    exact W1.dict
  · have na : a ≠ S := fun z => by
      subst z
      rcases List.mem_append.mp (List.mem_of_getElem? h1) with m | m
      · exact q.out m
      · exact lS (List.mem_singleton.mp m).symm
    rw [upd_ne na]
    exact W1.list j a r h1 h2
  · rw [upd_same, List.map_append]
    rfl
  · by_cases hj : j < ws.length
    · rw [List.getElem?_append_left (by rw [q.len]; exact hj)] at e1
      rw [List.getElem?_append_left hj] at e2
      exact off (q.each j a r e1 e2)
    · rw [List.getElem?_append_right (by rw [q.len]; omega)] at e1
      rw [List.getElem?_append_right (by omega)] at e2
      have z : j - ws.length = 0 := by
        have := (List.getElem?_eq_some_iff.mp e2).1
        simp at this
        omega
      rw [q.len, z] at e1
      rw [z] at e2
      cases e1
      cases e2
      exact off ht
  · rcases List.mem_append.mp m with m | m
    · exact q.out m
    · exact lS (List.mem_singleton.mp m).symm
section
variable {X : Cx}
def rGetT : V → List V → Hp → VK → Prop := fun x xs H Q => ∃ a b kvs k, x = .ref a ∧ xs = [V.ref b] ∧ H a = some (.dT kvs) ∧ H b = some (.tup (k.map kV)) ∧ Q ((valV kvs k).getD .non) H
end
end L2
namespace L2
open PySem PySem.Spec PyProof.Rows
end L2
namespace L2
open PySem PySem.Spec PyProof.Rows
section
variable {X : Cx}
def rInD (K : PySem.W.Frag) (neg : Bool) : R2 := fun x y H Q => ∃ (l : Addr) (n : Nat) (d : Dt) (ds : List Dt) (xs : List V), y = .ref l ∧ SqL K H l xs ∧ xs.length = ds.length ∧ Rep K H n d x ∧ (∀ (i : Nat) d' v, ds[i]? = some d' → xs[i]? = some v → Rep K H n d' v) ∧ n ≤ 30 ∧ ∀ b, (b = true ↔ d ∈ ds) → Q (.bl (if neg then !b else b)) H
end
end L2
namespace L2
open PySem PySem.Spec PyProof.Rows
section
variable {X : Cx}
def rIndexD (K : PySem.W.Frag) : V → List V → Hp → VK → Prop := fun x vs H Q => ∃ (l : Addr) (y : V) (n : Nat) (d : Dt) (ds : List Dt) (xs : List V) (j : Nat), x = .ref l ∧ vs = [y] ∧ SqL K H l xs ∧ xs.length = ds.length ∧ Rep K H n d y ∧ (∀ (i : Nat) d' v, ds[i]? = some d' → xs[i]? = some v → Rep K H n d' v) ∧ n ≤ 30 ∧ ds[j]? = some d ∧ (∀ i : Nat, i < j → ds[i]? ≠ some d) ∧ Q (.int (j : Nat)) H
end
end L2
namespace L2
open PySem PySem.Spec PyProof.Rows
section
variable {P : Program} {w : World} {A : Around} {E : Value → Shared → Prop} {s : Shared} {it d : Addr} {i ep : Nat} {es : Array DictEntry}
abbrev stepObj (d : Addr) (i n ep : Nat) : Obj := { cls := .type "dict_keyiterator", data := .fields #[.ref d, .int i 0, .int n 0, .int ep 0] }
theorem keys_item {en : DictEntry} {Q : Option Value → Shared → Prop} (G : s.heap.get? it = some (stepObj d i es.size ep)) (L : Lies s.heap d es ep) (hx : es[i]? = some en)
    (q : ∀ h', h'.get? it = some (stepObj d (i + 1) es.size ep) → Heap.SameBut it s.heap h' → Q (some en.key) { s with heap := h' }) : wpAny (model P w) A (pyNext (.ref it)) Q E s := by
  obtain ⟨o, ho, _, hd⟩ := L
  have ty : s.TypeIs (.ref it) "dict_keyiterator" := ⟨_, G, rfl⟩
  unfold pyNext
  refine wpAny_bind (wpAny_attempt (wpAny_callSpecial?_slot (name := Str.ofString "__next__") ty F.slot_dict_keyiterator_next (wpAny_call_entry F.slot_dict_keyiterator_next ty F.entry_dict_keyiterator_next ?_ (F.args_dict_keyiterator_next_1 _))))
  refine wpAny_bind (wpAny_pure (wpAny_bind (wpAny_bind ?_)))
  refine wpAny_bind (wpAny_typeNameOfWhole_keyiter ty (wpAny_pure (wpAny_bind (wpAny_fieldsOf G rfl ?_))))
  have own2 : Builtin.Dict_items.ownsTuple "dict_keyiterator" = false := by decide
  simp only [own2, Bool.false_eq_true, if_false]
  refine show wpAny _ _ (if (Value.ref d == Value.none) = true then _ else _) _ _ s from (if_neg (show ¬ ((Value.ref d == Value.none) = true) from Bool.false_ne_true)) ▸ wpAny_bind (wpAny_pure (wpAny_bind (wpAny_dictEntries ho hd ?_)))
  rw [if_neg (by simp)]
  refine wpAny_bind (wpAny_pure (wpAny_bind (wpAny_dictEpoch ho hd ?_)))
  rw [if_neg (by simp)]
  refine wpAny_pure ?_
  have at0 : (if ((i : Nat) : Int) < 0 then none else es[((i : Nat) : Int).toNat]?) = some en := by
    rw [if_neg (by omega), Int.toNat_natCast]
    exact hx
  show wpAny _ _ (match (if ((i : Nat) : Int) < 0 then none else es[((i : Nat) : Int).toNat]?) with | some e => _ | none => _) _ _ s
  rw [at0]
  refine wpAny_bind (wpAny_bind (wpAny_typeNameOfWhole_keyiter ty (wpAny_pure (wpAny_bind (wpAny_isOneOf_keyiter ty ?_)))))
  refine show wpAny _ _ (setField (.ref it) 1 (rawInt ((i : Int) + 1)) >>= _) _ _ s from wpAny_bind (wpAny_setField_rec G (by simp) fun h1 e1 s1 => wpAny_bind (wpAny_holding ?_))
  have e1' : h1.get? it = some (stepObj d (i + 1) es.size ep) := by
    have z : ((i + 1 : Nat) : Int) = (i : Int) + 1 := by omega
    unfold stepObj
    rw [z]
    simpa [rawInt] using e1
  have ty1 : Shared.TypeIs { s with heap := h1 } (.ref it) "dict_keyiterator" := ⟨_, e1', rfl⟩
  refine wpAny_bind (wpAny_isOneOf_keyiter ty1 ?_)
  exact show wpAny _ _ (pure en.key) _ _ { s with heap := h1 } from wpAny_pure (wpAny_pure ⟨_, rfl, wpAny_pure (q h1 e1' s1)⟩)
theorem keys_end {Q : Option Value → Shared → Prop} (hh : A.handled = none) (G : s.heap.get? it = some (stepObj d i es.size ep)) (L : Lies s.heap d es ep) (hx : es[i]? = none)
    (q : ∀ h', Heap.ExtBut it s.heap h' → Q none { s with heap := h' }) : wpAny (model P w) A (pyNext (.ref it)) Q E s := by
  obtain ⟨o, ho, _, hd⟩ := L
  have ty : s.TypeIs (.ref it) "dict_keyiterator" := ⟨_, G, rfl⟩
  unfold pyNext
  refine wpAny_bind (wpAny_attempt (wpAny_callSpecial?_slot (name := Str.ofString "__next__") ty F.slot_dict_keyiterator_next (wpAny_call_entry F.slot_dict_keyiterator_next ty F.entry_dict_keyiterator_next ?_ (F.args_dict_keyiterator_next_1 _))))
  refine wpAny_bind (wpAny_pure (wpAny_bind (wpAny_bind ?_)))
  refine wpAny_bind (wpAny_typeNameOfWhole_keyiter ty (wpAny_pure (wpAny_bind (wpAny_fieldsOf G rfl ?_))))
  have own2 : Builtin.Dict_items.ownsTuple "dict_keyiterator" = false := by decide
  simp only [own2, Bool.false_eq_true, if_false]
  refine show wpAny _ _ (if (Value.ref d == Value.none) = true then _ else _) _ _ s from (if_neg (show ¬ ((Value.ref d == Value.none) = true) from Bool.false_ne_true)) ▸ wpAny_bind (wpAny_pure (wpAny_bind (wpAny_dictEntries ho hd ?_)))
  rw [if_neg (by simp)]
  refine wpAny_bind (wpAny_pure (wpAny_bind (wpAny_dictEpoch ho hd ?_)))
  rw [if_neg (by simp)]
  refine wpAny_pure ?_
  have at0 : (if ((i : Nat) : Int) < 0 then none else es[((i : Nat) : Int).toNat]?) = none := by
    rw [if_neg (by omega), Int.toNat_natCast]
    exact hx
  show wpAny _ _ (match (if ((i : Nat) : Int) < 0 then none else es[((i : Nat) : Int).toNat]?) with | some e => _ | none => _) _ _ s
  rw [at0]
  refine wpAny_bind (wpAny_bind (wpAny_typeNameOfWhole_keyiter ty (wpAny_pure ?_)))
  refine show wpAny _ _ (setField (.ref it) 0 .none >>= _) _ _ s from wpAny_bind (wpAny_setField_rec G (by simp) fun h1 e1 sb => ?_)
  refine wpAny_bind (m := newExc _ _) ?_
  simp only [newExc, newTuple]
  refine wpAny_bind (wpAny_newObj_type ?_ (by size_fits))
  refine wpAny_bind (m := firstArgMember _ _) (wpAny_of_eq (a := Value.none) (by first | rfl | (unfold firstArgMember; rfl)) (wpAny_newObj_type ?_ (by size_fits)))
  refine wpAny_raiseNew_none (by simpa using hh) (wpAny_bind (wpAny_isInstance (T := "StopIteration") (b := true) ⟨_, Heap.get?_push_size _ rfl, rfl⟩ isSubtype_stop (wpAny_pure ?_)))
  exact q _ fun b o nb z => Heap.get?_push_of_some _ (Heap.get?_push_of_some _ (sb.extBut b o nb z))
theorem keys_iter {Q : Value → Shared → Prop} (nd : (d == sysModules) = false) (L : Lies s.heap d es ep) (q : Q (.ref s.heap.objs.size) { s with heap := s.heap.push (stepObj d 0 es.size ep) }) : wpAny (model P w) A (pyIter (.ref d)) Q E s := by
  obtain ⟨o, ho, x, hd⟩ := L
  have ty : s.TypeIs (.ref d) "dict" := ⟨o, ho, x.1⟩
  refine wpAny_pyIter_slot ty F.slot_dict_iter (wpAny_call_entry F.slot_dict_iter ty F.entry_dict_iter ?_ (F.args_dict_iter_1 _))
  unfold Builtin.«dict.__iter__» Builtin.Dict.dictSlotNone
  refine wpAny_bind (wpAny_bind (wpAny_notOrdered_dict ty ?_))
  refine show wpAny _ _ (pure (Value.ref d)) _ _ s from wpAny_pure (show wpAny _ _ (Builtin.Dict.showsAll d >>= _) _ _ s from ?_)
  have all : Builtin.Dict.showsAll d = pure () := by
    unfold Builtin.Dict.showsAll
    rw [nd]
    rfl
  rw [all]
  refine wpAny_bind (wpAny_pure (wpAny_bind (wpAny_dictEntries ho hd (wpAny_bind (wpAny_dictEpoch ho hd ?_)))))
  exact wpAny_bind (wpAny_newObj_type (wpAny_pure ⟨_, rfl, "dict_keyiterator", _, ⟨_, Heap.get?_push_size _ rfl, rfl⟩, F.slot_dict_keyiterator_next.lookup, q⟩))
theorem walksK (hh : A.handled = none) (hne : d ≠ it) : Walks P w A it [it, d] [it] es.size (fun i v => ∃ en, es[i]? = some en ∧ v = en.key) (fun i h => h.get? it = some (stepObj d i es.size ep) ∧ Lies h d es ep) where
  sub := fun b hb => List.mem_cons.mpr (.inl (List.mem_singleton.mp hb))
  frame := fun i h h' st k => ⟨k it (List.mem_cons_self ..) _ st.1, let ⟨o, e, x⟩ := st.2; ⟨o, k d (List.mem_cons_of_mem _ (List.mem_singleton.mpr rfl)) _ e, x⟩⟩
  item := fun i s Q E hi st q => by
    obtain ⟨en, he⟩ : ∃ en, es[i]? = some en := ⟨_, Array.getElem?_eq_getElem hi⟩
    refine keys_item st.1 st.2 he fun h' e1 sb => q en.key h' s.toks ⟨en, he, rfl⟩ ⟨e1, let ⟨o, e, x⟩ := st.2; ⟨o, sb.extBut _ _ hne e, x⟩⟩ fun b o nb e => sb.extBut _ _ (fun z => nb (List.mem_singleton.mpr z)) e
  done := fun s Q E st q => keys_end hh st.1 st.2 (Array.getElem?_eq_none (Nat.le_refl _)) fun h' x => q h' s.toks fun b o nb e => x b o (fun z => nb (List.mem_singleton.mpr z)) e
  self := fun i s Q E st q => by
    have ty : s.TypeIs (.ref it) "dict_keyiterator" := ⟨_, st.1, rfl⟩
    refine wpAny_pyIter_slot ty F.slot_dict_keyiterator_iter (wpAny_call_entry F.slot_dict_keyiterator_iter ty F.entry_dict_keyiterator_iter ?_ (F.args_dict_keyiterator_iter_1 _))
    exact show wpAny _ _ (ret (.ref it)) _ _ s from wpAny_pure ⟨_, rfl, "dict_keyiterator", _, ty, F.slot_dict_keyiterator_next.lookup, q⟩
theorem srcK (nd : (d == sysModules) = false) : PySem.W.KdlSrc P w "dict" d d es.size (fun i v => ∃ en, es[i]? = some en ∧ v = en.key) (fun h => Lies h d es ep) where
  type := fun _ e => e.typeIs
  there := fun _ ⟨_, e, _⟩ => ⟨Heap.lt_size e, Heap.lt_size e⟩
  keep := fun _ _ ⟨o, e, x⟩ k => ⟨o, k d (.inl rfl) _ e, x⟩
  notList := by decide
  notTuple := by decide
  hint := fun _ _ _ _ e q => PySem.W.kdl_hint_dict e.typeIs q
  iter := fun _ _ hh e => ⟨_, _, fun _ _ q => keys_iter nd e q, walksK hh (Nat.ne_of_lt (let ⟨_, z, _⟩ := e; Heap.lt_size z)), Heap.get?_push_size _ rfl, let ⟨o, z, x⟩ := e; ⟨o, Heap.get?_push_of_some _ z, x⟩⟩
end
end L2
namespace L2
open PySem PySem.W PyProof.Rows
section
variable (n : Nat) (k : Nat → Int)
def KOk {α : Type} : KasT α → (α → Prop) → Prop
  | .ret a, R => R a
  | .ask i j f, R => i < n ∧ j < n ∧ KOk (f (decide (k i < k j))) R
def Arr (p : Array Nat) : Prop := p.Perm (List.range n).toArray
def SUp (p : Array Nat) (m : Nat) : Prop := ∀ a b, a < b → b < m → k (p.getD a 0) < k (p.getD b 0)
def SDn (p : Array Nat) (m : Nat) : Prop := ∀ a b, a < b → b < m → k (p.getD b 0) < k (p.getD a 0)
variable {n k}
theorem KOk.bind {α β : Type} {f : α → KasT β} {R : α → Prop} {R' : β → Prop} (h : ∀ a, R a → KOk n k (f a) R') : ∀ t : KasT α, KOk n k t R → KOk n k (t.bind f) R'
  | .ret a, q => h a q
  | .ask i j g, q => ⟨q.1, q.2.1, KOk.bind h (g _) q.2.2⟩
theorem Arr.size {p : Array Nat} (h : Arr n p) : p.size = n := by
  have z := (Array.perm_iff_toList_perm.mp h).length_eq
  simpa using z
theorem Arr.at {p : Array Nat} (h : Arr n p) {i : Nat} (hi : i < n) : p.getD i 0 < n ∧ p[i]? = some (p.getD i 0) := by
  have hs := h.size
  have e : p[i]? = some (p.getD i 0) := by
    rw [Array.getD_eq_getD_getElem?, Array.getElem?_eq_getElem (by omega)]
    rfl
  refine ⟨?_, e⟩
  have m : p.getD i 0 ∈ p := Array.mem_of_getElem? e
  have m2 := (Array.Perm.mem_iff h).mp m
  simpa using m2
theorem Arr.inj {p : Array Nat} (h : Arr n p) {i j : Nat} (hi : i < n) (hj : j < n) (e : p.getD i 0 = p.getD j 0) : i = j := by
  have nd : p.toList.Nodup := (Array.perm_iff_toList_perm.mp h).nodup_iff.mpr (by simpa using List.nodup_range)
  have e1 := (h.at hi).2
  have e2 := (h.at hj).2
  rw [← e] at e2
  rw [← Array.getElem?_toList] at e1 e2
  exact (List.getElem?_inj (by rw [Array.length_toList, h.size]; exact hi) nd).mp (e1.trans e2.symm)
variable (inj : ∀ i j, i < n → j < n → k i = k j → i = j)
include inj
end
end L2
namespace L2
open PySem PySem.Spec PySem.W PyProof.Rows
section
variable {P : Program} {w : World} {A : Around} {E : Value → Shared → Prop} {s : Shared} {a : Addr} {vs ks : List Value} {k : Nat → Int}
def AskOk (P : Program) (w : World) (A : Around) (ks : List Value) (lt : Nat → Nat → Bool) (s : Shared) : Prop :=
  wpAny (model P w) A (keyKind' ks.toArray) (fun κ s' => s' = s ∧ ∀ i j (C : Bool → Shared → Prop), i < ks.length → j < ks.length → C (lt i j) s → kas_ask P w A κ ks i j C s) (fun _ _ => False) s
abbrev picked (vs : List Value) (p : Array Nat) : List Value := p.toList.map fun i => vs.getD i Value.none
end
end L2
namespace L2
open PySem PySem.Spec PySem.W PyProof.Rows
theorem count_less {α : Type} {p q : α → Bool} : ∀ {xs : List α}, (∀ z ∈ xs, p z = true → q z = true) → (∃ z ∈ xs, p z = false ∧ q z = true) → xs.countP p < xs.countP q
  | [], _, h => by obtain ⟨z, hz, _⟩ := h; cases hz
  | x :: xs, mono, h => by
    have le : xs.countP p ≤ xs.countP q := List.countP_mono_left fun z hz => mono z (List.mem_cons_of_mem _ hz)
    rw [List.countP_cons, List.countP_cons]
    obtain ⟨z, hz, h1, h2⟩ := h
    rcases List.mem_cons.mp hz with e | hz
    · subst e
      rw [h1, h2]
      simp
      omega
    · have ih := count_less (xs := xs) (fun y hy => mono y (List.mem_cons_of_mem _ hy)) ⟨z, hz, h1, h2⟩
      have m := mono x (List.mem_cons_self ..)
      cases e1 : p x with
      | false => cases q x <;> simp <;> omega
      | true => rw [m e1]; simp; omega
structure Total {α : Type} (lt : α → α → Bool) (xs : List α) : Prop where
  irr : ∀ x, lt x x = false
  trans : ∀ x y z, lt x y = true → lt y z = true → lt x z = true
  tot : ∀ x ∈ xs, ∀ y ∈ xs, x ≠ y → lt x y = true ∨ lt y x = true
def rankOf {α : Type} (lt : α → α → Bool) (xs : List α) (x : α) : Int := ((xs.countP fun y => lt y x) : Nat)
section
variable {α : Type} {lt : α → α → Bool} {xs : List α} (T : Total lt xs)
include T
theorem Total.up {x y : α} (hx : x ∈ xs) (h : lt x y = true) : rankOf lt xs x < rankOf lt xs y := by
  unfold rankOf
  have z := count_less (xs := xs) (p := fun z => lt z x) (q := fun z => lt z y) (fun z _ hz => T.trans _ _ _ hz h) ⟨x, hx, T.irr x, h⟩
  omega
theorem Total.same {x y : α} (hx : x ∈ xs) (hy : y ∈ xs) (h : rankOf lt xs x = rankOf lt xs y) : x = y := by
  refine Classical.byContradiction fun e => ?_
  rcases T.tot x hx y hy e with z | z
  · have := T.up hx z
    omega
  · have := T.up hy z
    omega
end
section
variable {P : Program} {w : World} {A : Around} {E : Value → Shared → Prop} {s : Shared}
def TupN (h : Heap) (v : Value) (ns : List Nat) : Prop := ∃ a o its c, v = .ref a ∧ h.get? a = some o ∧ o.cls = .type "tuple" ∧ o.data = .seq its c ∧ Vals (ns.map nv) its.toList
end
end L2
namespace L2
open PySem PySem.Spec PySem.W PyProof.Rows
section
variable {P : Program} {w : World} {A : Around} {E : Value → Shared → Prop} {s : Shared} {vs : List Value} {k : Nat → Int}
end
structure TupsAt (H : Hp) (bs : List Addr) (us : List (List Nat)) : Prop where
  len : bs.length = us.length
  is : ∀ (i : Nat) (b : Addr) (u : List Nat), bs[i]? = some b → us[i]? = some u → H b = some (.tup (u.map nv))
theorem TupsAt.same {H H' : Hp} {bs : List Addr} {us : List (List Nat)} (h : TupsAt H bs us) (g : Same H H') : TupsAt H' bs us := ⟨h.len, fun i b u e1 e2 => g _ _ (h.is i b u e1 e2)⟩
theorem TupsAt.pick {H : Hp} {bs : List Addr} {us : List (List Nat)} (h : TupsAt H bs us) {p : Array Nat} (ar : Arr us.length p) : TupsAt H (p.toList.map fun i => bs.getD i 0) (p.toList.map fun i => us.getD i []) := by
  refine ⟨by simp, fun i b u e1 e2 => ?_⟩
  rw [List.getElem?_map] at e1 e2
  obtain ⟨j, ej, rfl⟩ := Option.map_eq_some_iff.mp e1
  rw [ej] at e2
  cases e2
  have lj : j < us.length := by
    have m := (Array.perm_iff_toList_perm.mp ar).mem_iff.mp (List.mem_of_getElem? ej)
    simpa using m
  have lb := h.len
  refine h.is j _ _ ?_ ?_
  · rw [List.getD_eq_getElem?_getD, List.getElem?_eq_getElem (by omega)]
    rfl
  · show us[j]? = some (us.getD j [])
    rw [List.getD_eq_getElem?_getD, List.getElem?_eq_getElem lj]
    rfl
section
variable {X : Cx}
def rSortT (K : PySem.W.Frag) : List V → Hp → VK → Prop := fun xs H Q => ∃ l as ts, xs = [V.ref l] ∧ SqL K H l (as.map V.ref) ∧ TupsAt H as ts ∧ (∀ t ∈ ts, t ≠ []) ∧ ts.Nodup ∧ ts.length < 64 ∧
  ∀ D bs us, H D = none → TupsAt H bs us → us.Perm ts → us.Pairwise (fun x y => ltl x y = true) → Q (.ref D) (upd H D (.lst (bs.map V.ref)))
end
end L2
namespace L2
open PySem PySem.Spec PyProof.Rows
section
variable {P : Program} {w : World} {A : Around} {E : Value → Shared → Prop} {s : Shared} {vs : List Value}
end
section
variable {X : Cx}
def rSortI (K : PySem.W.Frag) : List V → Hp → VK → Prop := fun xs H Q => ∃ (p : Addr) (ns : List Int), xs = [.ref p] ∧ SqT K H p (ns.map V.int) ∧ ns.length < 64 ∧ ∀ (D : Addr) (js : List Int), H D = none → js.Perm ns → js.Pairwise (· ≤ ·) → Q (.ref D) (upd H D (.lst (js.map V.int)))
end
end L2
namespace L2
open PySem PySem.Spec PySem.W PyProof.Rows
def byKey (g : List Nat → Int) (t u : List Nat) : Bool := plt (g t) t (g u) u
def KeyAt (H : Hp) (g : List Nat → Int) (κ a : Addr) (t : List Nat) : Prop := H κ = some (.tup [.int (g t), .ref a]) ∧ H a = some (.tup (t.map nv))
structure KeysAt (H : Hp) (g : List Nat → Int) (κs as : List Addr) (ts : List (List Nat)) : Prop where
  l1 : κs.length = ts.length
  l2 : as.length = ts.length
  is : ∀ (i : Nat) κ a t, κs[i]? = some κ → as[i]? = some a → ts[i]? = some t → KeyAt H g κ a t
section
variable {X : Cx} {pins : List (Addr × Obj)} {σ : St} {H : Hp} {s : Shared} {g : List Nat → Int}
end
def spKey (g : List Nat → Int) : Sp := fun vs H Q _ => ∃ (a : Addr) (t : List Nat), vs = [.ref a] ∧ H a = some (.tup (t.map nv)) ∧ ∀ κ H', Same H H' → H' κ = some (.tup [.int (g t), .ref a]) → Q (.ref κ) H'
section
variable {X : Cx} {pins : List (Addr × Obj)} {σ : St} {kk : Nat} {f : Addr} {fd : FuncData} {ps : List Str} {g : List Nat → Int}
theorem FpOk.to {H H' : Hp} {b : Addr} (h : FpOk X pins H b) (e : H' b = none) : FpOk X pins H' b := ⟨e, h.2⟩
end
end L2
namespace L2
open PySem PySem.Spec PySem.W PyProof.Rows
section
variable {X : Cx} {pins : List (Addr × Obj)} {σ : St} {H : Hp} {s : Shared} {kk : Nat} {f D : Addr} {fd : FuncData} {ps : List Str} {g : List Nat → Int} {as : List Addr} {ts : List (List Nat)} {E : Value → Shared → Prop}
end
end L2
namespace L2
open PySem PySem.Spec PySem.W PyProof.Rows
section
variable {X : Cx} {pins : List (Addr × Obj)} {σ : St} {H : Hp} {s : Shared} {d : Addr} {kvs : List (List Key × V)} {ts : List (List Nat)}
end
section
variable {X : Cx}
def rListK : List V → Hp → VK → Prop := fun xs H Q => ∃ d kvs ts, xs = [V.ref d] ∧ H d = some (.dT kvs) ∧ kvs.map (·.1) = ts.map nk ∧ ∀ l as, H l = none → TupsAt H as ts → Q (.ref l) (upd H l (.lst (as.map V.ref)))
def rSortK (g : List Nat → Int) : List V → Hp → VK → Prop := fun xs H Q => ∃ d kvs ts, xs = [V.ref d] ∧ H d = some (.dT kvs) ∧ kvs.map (·.1) = ts.map nk ∧ ts.length < 64 ∧
  ∀ D bs us H', Same H H' → H D = none → H' D = some (.lst (bs.map V.ref)) → TupsAt H' bs us → us.Perm ts → us.Pairwise (fun x y => byKey g x y = true) → Q (.ref D) H'
def tSortK (g : List Nat → Int) (te : TE) : TE := fun σ H Q => te σ H fun x H1 => ∃ d, x = .ref d ∧ rSortK g [.ref d] H1 Q
end
end L2
namespace L2
open PySem PySem.Spec PyProof.Rows
section
variable {X : Cx} {pins : List (Addr × Obj)} {σ : St} {H : Hp} {s : Shared} {d : Addr} {kvs : List (List Key × V)} {ts : List (List Nat)} {o : Obj}
theorem Inv.freeze (I : Inv X pins σ H s) (h : H d = some (.dT kvs)) (e : s.heap.get? d = some o) : Inv X pins σ (upd H d (.frz o (.dT kvs))) s := by
  obtain ⟨z, nm, ys, rel, o', es, ep, e1, e2, e3, e4, nd⟩ := (show ObjOk X.prog X.w H s.heap d (.dT kvs) from I.hok d _ h)
  refine I.write (x := d) (e := d) (h' := s.heap) (t' := s.toks) (by rw [h]; exact True.intro) (.inl rfl) (fun _ _ _ q => q) ⟨o, e⟩ ⟨e, z, nm, ys, Paired.mapP rel fun p q r => ⟨r.1, ?_, r.2.2⟩, o', es, ep, e1, e2, e3, e4, nd⟩
  rw [upd_ne (ne_of r.2.1 h fun z => nomatch z)]
  exact r.2.1
end
def Itd (d : Addr) (o : Obj) : It :=
  ⟨fun i H => ∃ (kvs : List (List Key × V)) (ts : List (List Nat)) (t : List Nat), H d = some (.frz o (.dT kvs)) ∧ kvs.map (·.1) = ts.map nk ∧ ts[i]? = some t,
   fun i H x H' => H' = H ∧ ∃ a, x = .ref a ∧ ∀ (kvs : List (List Key × V)) (ts : List (List Nat)), H d = some (.frz o (.dT kvs)) → kvs.map (·.1) = ts.map nk → ∃ t : List Nat, ts[i]? = some t ∧ H a = some (.tup (t.map nv)),
   fun i H => ∃ kvs, ∃ ts : List (List Nat), H d = some (.frz o (.dT kvs)) ∧ kvs.map (·.1) = ts.map nk ∧ ts.length ≤ i⟩
section
variable {X : Cx} {tg : Expr}
def Frozen (H : Hp) (d : Addr) (o : Obj) (kvs : List (List Key × V)) (H2 : Hp) : Prop := (H d = some (.frz o (.dT kvs)) ∧ H2 = H) ∨ (H d = some (.dT kvs) ∧ H2 = upd H d (.frz o (.dT kvs)))
def iDict (td : TE) : TI := fun σ H R => td σ H fun x H1 => ∃ d kvs, ∃ ts : List (List Nat), x = .ref d ∧ kvs.map (·.1) = ts.map nk ∧ (H1 d = some (.dT kvs) ∨ ∃ o, H1 d = some (.frz o (.dT kvs))) ∧ ∀ o H2, Frozen H1 d o kvs H2 → R (Itd d o) H2
end
section
variable {d : Addr} {o : Obj} {kvs : List (List Key × V)} {ts : List (List Nat)} {vs : List Str} {g : TG} {tt : TT} {te : TE} {σ : St} {H : Hp} {Fin : List V → Hp → Prop}
end
section
variable {d : Addr} {o : Obj} {kvs : List (List Key × V)} {ts : List (List Nat)} {g : TG} {tb : TS} {D : Ends} {σ : St} {H : Hp}
end
def Itm (hi : Int) (n : Nat) : It := ⟨fun i _ => i < n, fun i H x H' => H' = H ∧ x = .int (hi - i), fun i _ => n ≤ i⟩
section
variable {X : Cx} {tg : Expr}
def iDown (ta : TA) : TI := fun σ H R => ta σ H fun vs H1 => ∃ n : Nat, vs = [.int n, .int 0, .int (-1)] ∧ n < 4000 ∧ R (Itm n n) H1
end
section
variable {hi : Int} {n : Nat} {g : TG} {tb : TS} {D : Ends} {σ : St} {H : Hp}
end
end L2
namespace L2
open PySem PySem.Spec PyProof.Rows
section
variable {X : Cx} {pins : List (Addr × Obj)} {σ : St} {H : Hp} {s : Shared} {h' : Heap} {t' : Nat}
theorem Inv.turnedN {ch : List Addr} (I : Inv X pins σ H s) (k : ∀ b o, b ∉ ch → s.heap.get? b = some o → h'.get? b = some o) (hf : ∀ b ∈ ch, FpOk X pins H b) : Inv X pins σ H { s with heap := h', toks := t' } := by
  have nt : ∀ b u, H b = some u → b ∉ ch := fun b u e hb => by rw [(hf b hb).1] at e; cases e
  refine I.step (h' := h') (H' := H) (g' := s.gens) (t' := t') (d' := s.drawn) (ch := ch) (fun b hb => ?_) (fun b o _ _ nc e _ => k b o nc e) (fun b o _ _ nc e _ => ⟨o.slots, k b o nc e⟩) (fun b o _ _ n => n) (fun b o nc e => ⟨o, k b o nc e⟩)
    (fun b xs q => q) (fun b o u q => q) (fun b ps q => ⟨#[], by rw [q]; simp⟩) (fun m hm => ?_) (fun b u q => ?_) I.bare
  · obtain ⟨_, f1, _, f3, f4, f5⟩ := hf b hb
    exact ⟨f3, f1, f4, f5⟩
  · exact hm.at' fun o e => k _ o (fun hb => (hf _ hb).2.1 rfl) e
  · refine (I.hok b u q).stay (fun c o hc e => k c o ?_ e) (fun _ z => z) fun _ _ z => z
    rcases hc with z | z
    · rw [z]; exact nt b u q
    · exact nt c _ z
end
end L2
namespace L2
open PySem PySem.Spec PyProof.Rows
section
variable {P : Program} {w : World} {A : Around} {E : Value → Shared → Prop} {s : Shared} {it d : Addr} {i n ep : Nat}
theorem goer_go {elts : List Expr} {x1 : Nat} {pos : Pos} {a : Addr} {out : Bool} {k v : Value} {Q : Unit → Shared → Prop} (e : s.heap.get? it = some (goerObj (rawInt a) out d i n ep k v)) (q : ∀ h', h'.get? it = some (goerObj .none out d i n ep k v) → Heap.SameBut it s.heap h' → Q () { s with heap := h' }) : wpAny (model P w) A (letOwnedTupleGo (.Tuple elts x1 pos) (.ref it) (.ref a)) Q E s := by
  unfold letOwnedTupleGo
  refine wpAny_bind (wpAny_load e ?_)
  dsimp only
  rw [if_pos (by simp)]
  refine wpAny_bind (wpAny_rule ?_)
  rw [← setField.eq_1]
  refine wpAny_setField_rec e (by simp) fun h' e' sb => q h' ?_ sb
  simpa using e'
set_option maxRecDepth 100000 in
theorem entry_itemiter_iter : entryFor table "dict_itemiterator.__iter__" = some Builtin.«dict_keyiterator.__iter__» := by kernel_rfl
theorem goer_self {out : Bool} {own k v : Value} {Q : Value → Shared → Prop} (e : s.heap.get? it = some (goerObj own out d i n ep k v)) (q : Q (.ref it) s) : wpAny (model P w) A (pyIter (.ref it)) Q E s := by
  have ty : s.TypeIs (.ref it) "dict_itemiterator" := ⟨_, e, rfl⟩
  refine wpAny_pyIter_slot ty F.slot_dict_itemiterator_iter (wpAny_call_entry F.slot_dict_itemiterator_iter ty entry_itemiter_iter ?_ (F.args_dict_itemiterator_iter_1 _))
  exact show wpAny _ _ (ret (.ref it)) _ _ s from wpAny_pure ⟨_, rfl, "dict_itemiterator", _, ty, F.slot_dict_itemiterator_next.lookup, q⟩
def Out (h : Heap) (it d : Addr) (i n ep : Nat) (a : Addr) : Prop := ∃ out k v, h.get? it = some (goerObj (rawInt a) out d i n ep k v)
theorem pair_made0 {out : Bool} {k0 v0 k v : Value} {Q : Value → Shared → Prop} (e : s.heap.get? it = some (goerObj .none out d i n ep k0 v0))
    (q : ∀ h', Out h' it d i n ep s.heap.objs.size → h'.get? s.heap.objs.size = some (pairObj k v) → (∀ b o, b ≠ it → s.heap.get? b = some o → h'.get? b = some o) → Q (.ref s.heap.objs.size) { s with heap := h' }) :
    wpAny (model P w) A (Builtin.Dict_items.pairFromOwner (.ref it) 6 k v) Q E s := by
  have lt : it < s.heap.objs.size := Heap.lt_size e
  unfold Builtin.Dict_items.pairFromOwner
  refine wpAny_bind (wpAny_newTuple ?_)
  have e1 := Heap.get?_push_of_some (pairObj k v) e
  have ep1 : (s.heap.push (pairObj k v)).get? s.heap.objs.size = some (pairObj k v) := Heap.get?_push_size _ rfl
  have kp : ∀ b o, s.heap.get? b = some o → (s.heap.push (pairObj k v)).get? b = some o := fun b o z => Heap.get?_push_of_some _ z
  have ne : s.heap.objs.size ≠ it := Nat.ne_of_gt lt
  have free : ∀ {R : Bool → Shared → Prop} {s1 : Shared}, s1.heap.get? it = some (goerObj .none out d i n ep k0 v0) → R true s1 → wpAny (model P w) A (Builtin.Dict_items.ownedTupleIsFree (.ref it)) R E s1 := fun e r => by
    unfold Builtin.Dict_items.ownedTupleIsFree
    exact wpAny_bind (wpAny_field e rfl (x := .none) rfl (wpAny_pure r))
  refine wpAny_bind (free e1 ?_)
  rw [if_pos rfl]
  refine wpAny_bind (wpAny_field e1 rfl (x := k0) rfl (wpAny_bind (wpAny_field e1 rfl (x := v0) rfl ?_)))
  refine wpAny_bind (wpAny_setField_rec e1 (by simp) fun h2 e2 s2 => wpAny_bind (wpAny_setField_rec e2 (by simp) fun h3 e3 s3 => ?_))
  refine wpAny_bind (wpAny_setField_rec e3 (by simp) fun h4 e4 s4 => wpAny_bind (wpAny_setField_rec e4 (by simp) fun h5 e5 s5 => wpAny_bind (wpAny_letGo (wpAny_pure ?_))))
  have sb := ((s2.trans s3).trans s4).trans s5
  have ep5 := sb.extBut _ _ ne ep1
  exact q h5 ⟨_, _, _, e5⟩ ep5 fun b o nb z => sb.extBut _ _ nb (kp b o z)
end
section
variable {P : Program} {w : World} {A : Around} {E : Value → Shared → Prop} {s : Shared} {it d : Addr} {i ep : Nat} {es : Array DictEntry}
theorem goer_item0 {en : DictEntry} {Q : Option Value → Shared → Prop} {out : Bool} {k0 v0 : Value} (e : s.heap.get? it = some (goerObj .none out d i es.size ep k0 v0)) (L : Lies s.heap d es ep) (hx : es[i]? = some en)
    (q : ∀ h', Out h' it d (i + 1) es.size ep s.heap.objs.size → h'.get? s.heap.objs.size = some (pairObj en.key en.val) → (∀ b o, b ≠ it → s.heap.get? b = some o → h'.get? b = some o) → Q (some (.ref s.heap.objs.size)) { s with heap := h' }) :
    wpAny (model P w) A (pyNext (.ref it)) Q E s := by
  obtain ⟨o, ho, _, hd⟩ := L
  have ty : s.TypeIs (.ref it) "dict_itemiterator" := ⟨_, e, rfl⟩
  have lt : i < es.size := (Array.getElem?_eq_some_iff.mp hx).1
  unfold pyNext
  refine wpAny_bind (wpAny_attempt (wpAny_callSpecial?_slot (name := Str.ofString "__next__") ty F.slot_dict_itemiterator_next (wpAny_call_entry F.slot_dict_itemiterator_next ty F.entry_dict_itemiterator_next ?_ (F.args_dict_itemiterator_next_1 _))))
  refine wpAny_bind (wpAny_pure (wpAny_bind (wpAny_bind ?_)))
  refine wpAny_bind (wpAny_typeNameOfWhole_itemiter ty (wpAny_pure (wpAny_bind (wpAny_fieldsOf e rfl ?_))))
  have own2 : Builtin.Dict_items.ownsTuple "dict_itemiterator" = true := by decide
  simp only [own2, if_true]
  refine show wpAny _ _ (if (Value.ref d == Value.none) = true then _ else _) _ _ s from (if_neg (show ¬ ((Value.ref d == Value.none) = true) from Bool.false_ne_true)) ▸ wpAny_bind (wpAny_pure (wpAny_bind (wpAny_dictEntries ho hd ?_)))
  rw [if_neg (by simp)]
  refine wpAny_bind (wpAny_pure (wpAny_bind (wpAny_dictEpoch ho hd ?_)))
  rw [if_neg (by simp)]
  refine wpAny_pure ?_
  have at0 : (if ((i : Nat) : Int) < 0 then none else es[((i : Nat) : Int).toNat]?) = some en := by
    rw [if_neg (by omega), Int.toNat_natCast]
    exact hx
  show wpAny _ _ (match (if ((i : Nat) : Int) < 0 then none else es[((i : Nat) : Int).toNat]?) with | some e => _ | none => _) _ _ s
  rw [at0]
  refine wpAny_bind (wpAny_bind (wpAny_typeNameOfWhole_itemiter ty (wpAny_pure (wpAny_bind (wpAny_isOneOf_itemiter ty ?_)))))
  refine show wpAny _ _ (setField (.ref it) 3 (rawInt ((i : Int) + 1)) >>= _) _ _ s from wpAny_bind (wpAny_setField_rec e (by simp) fun h1 e1 s1 => wpAny_bind (wpAny_holding ?_))
  have e1' : h1.get? it = some (goerObj .none out d (i + 1) es.size ep k0 v0) := by
    have z : ((i + 1 : Nat) : Int) = (i : Int) + 1 := by omega
    unfold goerObj
    rw [z]
    simpa [rawInt] using e1
  have ty1 : Shared.TypeIs { s with heap := h1 } (.ref it) "dict_itemiterator" := ⟨_, e1', rfl⟩
  refine wpAny_bind (wpAny_isOneOf_itemiter ty1 (wpAny_bind (wpAny_isOneOf_itemiter ty1 ?_)))
  have sz : h1.objs.size = s.heap.objs.size := s1.1
  refine show wpAny _ _ (Builtin.Dict_items.pairFromOwner (.ref it) 6 en.key en.val) _ _ { s with heap := h1 } from pair_made0 (s := { s with heap := h1 }) e1' fun h2 G2 p2 k2 => ?_
  · have G2' : Out h2 it d (i + 1) es.size ep s.heap.objs.size := by rw [← sz]; exact G2
    have p2' : h2.get? s.heap.objs.size = some (pairObj en.key en.val) := by rw [← sz]; exact p2
    show wpAny _ _ (ret (.ref h1.objs.size)) _ _ _
    rw [sz]
    exact wpAny_pure ⟨_, rfl, wpAny_pure (q h2 G2' p2' fun b o nb z => k2 b o nb (s1.extBut _ _ nb z))⟩
end
def Iti (d : Addr) (o : Obj) : It :=
  ⟨fun i H => ∃ (kvs : List (List Key × V)) (p : List Key × V), H d = some (.frz o (.dT kvs)) ∧ kvs[i]? = some p,
   fun i H x H' => ∃ T y u, x = .ref T ∧ H T = none ∧ H' = upd H T (.tup [.ref y, u]) ∧ ∀ kvs : List (List Key × V), H d = some (.frz o (.dT kvs)) → ∃ k, kvs[i]? = some (k, u) ∧ H y = some (.tup (k.map kV)),
   fun i H => ∃ kvs : List (List Key × V), H d = some (.frz o (.dT kvs)) ∧ kvs.length ≤ i⟩
section
variable {X : Cx} {pins : List (Addr × Obj)} {σ : St} {H : Hp} {s : Shared} {d : Addr} {kvs : List (List Key × V)} {o : Obj}
theorem frz_pairs (I : Inv X pins σ H s) (h : H d = some (.frz o (.dT kvs))) : ∃ es ep, s.heap.get? d = some o ∧ o.ExactDict ∧ o.data = .dict es ep ∧ (d == sysModules) = false ∧ es.size = kvs.length ∧ ∀ (i : Nat) (k : List Key) (x : V), kvs[i]? = some (k, x) → ∃ (y : Addr) (en : DictEntry), es[i]? = some en ∧ en.key = .ref y ∧ RelV x en.val ∧ H y = some (.tup (k.map kV)) := by
  obtain ⟨e0, z, nm, ys, rel, o', es, ep, e1, e2, e3, e4, nd⟩ := (show ObjOk X.prog X.w H s.heap d (.frz o (.dT kvs)) from I.hok d _ h)
  rw [e0] at e1
  cases e1
  have l1 : kvs.length = ys.length := Paired.length rel
  have le : es.size = ys.length := size_of_entries e4
  refine ⟨es, ep, e0, e2, e3, nm, by omega, fun i k x ek => ?_⟩
  obtain ⟨⟨k', y, u⟩, ey, p1, p2, p3⟩ := paired_at rel ek
  have p1' : k = k' := p1
  subst p1'
  refine ⟨y, _, by rw [entry_at e4, ey]; rfl, rfl, p3, p2⟩
end
theorem turn_items {P : Program} {w : World} {K : PySem.W.Frag} {elts : List Expr} {x1 : Nat} {pos : Pos} {d it : Addr} {o : Obj} {es : Array DictEntry} {ep : Nat} (od : o.data = .dict es ep) (ox : o.ExactDict) : Turn P w K (.Tuple elts x1 pos) (Iti d o) [it] it (fun i h => ∃ out k v, h.get? it = some (goerObj .none out d i es.size ep k v)) where
  mem := by simp
  obj := fun i h st b hb => by
    have e : b = it := by simpa using hb
    subst e
    obtain ⟨out, k, v, st⟩ := st
    exact ⟨_, st, fun v z => by
      have z' : Data.fields _ = Data.cell v := z
      cases z'⟩
  keep := fun i h h' st k => by
    obtain ⟨out, x, v, st⟩ := st
    exact ⟨out, x, v, k it (by simp) _ st⟩
  item := by
    intro X hP hw hK hc i pins s σ H E I hf st hg
    subst hP hw hK
    obtain ⟨kvs, ⟨k, x⟩, h1, h2⟩ := hg
    obtain ⟨out, k0, v0, st⟩ := st
    obtain ⟨es', ep', e1, e2, e3, nm, le, is⟩ := frz_pairs I h1
    rw [od] at e3
    cases e3
    obtain ⟨f0, f1, f2, f3, f4, f5⟩ := hf it (by simp)
    obtain ⟨y, en, ee, ek, rx, hy⟩ := is i k x h2
    refine goer_item0 st ⟨o, e1, ox, od⟩ ee fun h' G' eT kp => ?_
    have lt : it < s.heap.objs.size := Heap.lt_size st
    have I1 : Inv X pins σ H { s with heap := h' } := I.turned (t' := s.toks) (fun b o hb e => kp b o hb e) f0 f1 f3 f4 f5
    have nT : H s.heap.objs.size = none := I.hok.fresh (Nat.le_refl _)
    rw [ek] at eT
    have ok : ObjOk X.prog X.w (upd H s.heap.objs.size (.tup [.ref y, x])) h' s.heap.objs.size (.tup [.ref y, x]) := ⟨by show 2 ≤ sizeLine; decide, [.ref y, en.val], .cons rfl (.cons rx .nil), ⟨_, eT, rfl, _, rfl⟩⟩
    have I2 : Inv X pins σ (upd H s.heap.objs.size (.tup [.ref y, x])) { s with heap := h' } := Inv.trackNew I I1 ok
    have none2 : ∀ b ∈ [it], upd H s.heap.objs.size (.tup [.ref y, x]) b = none := fun b hb => by
      rw [List.mem_singleton.mp hb, upd_ne (Nat.ne_of_lt lt)]
      exact f0
    obtain ⟨out', k', v', eo⟩ := G'
    refine ⟨_, rfl, goer_go eo fun h3 e3 sb => ?_⟩
    have I3 : Inv X pins σ (upd H s.heap.objs.size (.tup [.ref y, x])) { s with heap := h3 } := I2.turned (t' := s.toks) (fun b o nb e => sb.extBut b o nb e) (none2 it (List.mem_cons_self ..)) f1 f3 f4 f5
    refine ⟨.ref s.heap.objs.size, _, I3, rfl, ⟨_, y, x, rfl, nT, rfl, fun kvs' g1 => ?_⟩, ⟨_, _, _, e3⟩, none2⟩
    rw [h1] at g1
    cases g1
    exact ⟨k, h2, hy⟩
  done := by
    intro X hP hw hK hc i pins s σ H E I hf st hg
    subst hP hw hK
    obtain ⟨kvs, h1, h3⟩ := hg
    obtain ⟨out, k0, v0, st⟩ := st
    obtain ⟨es', ep', e1, e2, e3, nm, le, is⟩ := frz_pairs I h1
    rw [od] at e3
    cases e3
    obtain ⟨f0, f1, f2, f3, f4, f5⟩ := hf it (by simp)
    exact goer_end (I.ok.hd hc) ⟨_, _, _, _, st, .inl rfl⟩ ⟨o, e1, ox, od⟩ (Array.getElem?_eq_none (by omega)) fun h' eb => ⟨rfl, I.turned (t' := s.toks) (fun b o hb e => eb b o hb e) f0 f1 f3 f4 f5⟩
  self := fun _ i s Q E st q => by
    obtain ⟨out, k, v, st⟩ := st
    exact goer_self st q
section
variable {X : Cx}
def iView (td : TE) : TI := fun σ H R => td σ H fun x H1 => ∃ v d kvs, x = .ref v ∧ H1 v = some (ViewO v d) ∧ H1 d = some (.dT kvs) ∧ ∀ o, R (Iti d o) (upd H1 d (.frz o (.dT kvs)))
theorem pi_view {elts : List Expr} {x1 : Nat} {tp : Pos} {l : Expr} {tl : TE} (hl : PE X l tl) : PI X (.Tuple elts x1 tp) l (iView tl) := by
  intro pins s σ H R I h
  refine thn (hl pins s σ H _ I h) fun v s1 ⟨x, H1, I1, r1, q1⟩ => ?_
  obtain ⟨v, d, kvs, e, hv, hd, q⟩ := q1
  subst e
  cases r1
  obtain ⟨ev, _, _⟩ := I1.hok v _ hv
  obtain ⟨_, _, _, _, o, es, ep, e1, e2, e3, _⟩ := (show ObjOk X.prog X.w H1 s1.heap d (.dT kvs) from I1.hok d _ hd)
  have I2 := I1.freeze hd e1
  refine view_iter ev ⟨o, e1, e2, e3⟩ ?_
  refine ⟨s1.heap.objs.size, [s1.heap.objs.size], _, _, _, rfl, I2.kept (t' := s1.toks) fun b o e => Heap.get?_push_of_some _ e, turn_items e3 e2, ⟨_, _, _, Heap.get?_push_size _ rfl⟩, fun b hb => ?_, q o⟩
  have e : b = s1.heap.objs.size := by simpa using hb
  subst e
  exact I2.fpOk (Nat.le_refl _) (I2.hok.fresh (Nat.le_refl _))
end
section
variable {d : Addr} {o : Obj} {kvs : List (List Key × V)} {g : TG} {tb : TS} {D : Ends} {σ : St} {H : Hp}
theorem for_items (Pv : Nat → St → Hp → Prop) (h0 : Pv 0 σ H) (hl : ∀ i σ H, i ≤ kvs.length → Pv i σ H → H d = some (.frz o (.dT kvs)))
    (hs : ∀ i T y k u σ H, kvs[i]? = some (k, u) → H y = some (.tup (k.map kV)) → H T = none → Pv i σ H → g (.ref T) σ (upd H T (.tup [.ref y, u])) fun σ2 H2 => tb { D with nx := Pv (i + 1), ct := Pv (i + 1), bk := D.nx } σ2 H2) (hd : ∀ σ H, Pv kvs.length σ H → D.nx σ H) :
    ∃ W : Nat → Nat → St → Hp → Prop, (∃ m, W 0 m σ H) ∧ ∀ i m σ H, W i m σ H →
      ((Iti d o).stop i H ∧ D.nx σ H) ∨ ((Iti d o).go i H ∧ ∃ N : St → Hp → Prop, (∀ σ' H', N σ' H' → ∃ m', m' < m ∧ W (i + 1) m' σ' H') ∧ ∀ x H', (Iti d o).yld i H x H' → g x σ H' fun σ2 H2 => tb { D with nx := N, ct := N, bk := D.nx } σ2 H2) := by
  refine ⟨fun i m σ H => m = kvs.length - i ∧ i ≤ kvs.length ∧ Pv i σ H, ⟨kvs.length, by simp, Nat.zero_le _, h0⟩, ?_⟩
  rintro i m σ H ⟨rfl, hi, p⟩
  have q := hl i σ H hi p
  by_cases hlt : i < kvs.length
  · refine .inr ⟨⟨kvs, kvs[i], q, by simp [hlt]⟩, Pv (i + 1), fun σ' H' p' => ⟨kvs.length - (i + 1), by omega, rfl, hlt, p'⟩, fun v H' y => ?_⟩
    obtain ⟨T, y, u, rfl, nT, rfl, z⟩ := y
    obtain ⟨k, ek, hy⟩ := z kvs q
    exact hs i T y k u σ _ ek hy nT p
  · have e : i = kvs.length := by omega
    subst e
    exact .inl ⟨⟨kvs, q, Nat.le_refl _⟩, hd σ H p⟩
end
end L2
namespace L2
open PySem PySem.Spec PyProof.Rows
section
variable {P : Program} {w : World} {A : Around} {E : Value → Shared → Prop} {s : Shared}
abbrev tupIt (t : Addr) (i : Nat) : Obj := { cls := .type "tuple_iterator", data := .fields #[.ref t, .int i 0] }
theorem drawT {it t : Addr} {i : Nat} {items : Array Value} {x : Value} {Q : Value → Shared → Prop} (e : s.heap.get? it = some (tupIt t i)) (ht : s.heap.IsTuple t items) (hx : items[i]? = some x)
    (q : ∀ h', h'.get? it = some (tupIt t (i + 1)) → Heap.SameBut it s.heap h' → Q x { s with heap := h' }) : wpAny (model P w) A (Builtin.SmallTypes.nextOf (.ref it)) Q E s := by
  have ty : s.TypeIs (.ref it) "tuple_iterator" := ⟨_, e, rfl⟩
  obtain ⟨ol, hol, _, nl, hdl⟩ := ht
  unfold Builtin.SmallTypes.nextOf
  refine wpAny_bind (wpAny_callSpecial?_slot (name := Str.ofString "__next__") ty F.slot_tuple_iterator_next (wpAny_call_entry F.slot_tuple_iterator_next ty F.entry_tuple_iterator_next ?_ (F.args_tuple_iterator_next_1 _)))
  refine show wpAny _ _ (field (.ref it) 0 >>= _) _ _ s from wpAny_bind (wpAny_field e rfl (x := .ref t) rfl ?_)
  refine show wpAny _ _ (if (Value.ref t == Value.none) = true then _ else field (.ref it) 1 >>= _) _ _ s from (if_neg (show ¬ ((Value.ref t == Value.none) = true) from Bool.false_ne_true)) ▸ wpAny_bind (wpAny_field e rfl (x := .int i 0) rfl ?_)
  refine show wpAny _ _ (seqItems? (.ref t) >>= _) _ _ s from wpAny_bind (wpAny_seqItems hol hdl ?_)
  simp only [Int.toNat_natCast, hx]
  exact wpAny_bind (wpAny_setField_rec e (by simp) fun h' e' sb => wpAny_pure ⟨x, rfl, wpAny_pure (q h' e' sb)⟩)
theorem drawT_end {it t : Addr} {i : Nat} {items : Array Value} {Q : Value → Shared → Prop} (hh : A.handled = none) (e : s.heap.get? it = some (tupIt t i)) (ht : s.heap.IsTuple t items) (hx : items[i]? = none)
    (q : ∀ h' x, Heap.ExtBut it s.heap h' → (∃ o, h'.get? x = some o ∧ o.cls = .type "StopIteration") → E (.ref x) { s with heap := h' }) : wpAny (model P w) A (Builtin.SmallTypes.nextOf (.ref it)) Q E s := by
  have ty : s.TypeIs (.ref it) "tuple_iterator" := ⟨_, e, rfl⟩
  obtain ⟨ol, hol, _, nl, hdl⟩ := ht
  unfold Builtin.SmallTypes.nextOf
  refine wpAny_bind (wpAny_callSpecial?_slot (name := Str.ofString "__next__") ty F.slot_tuple_iterator_next (wpAny_call_entry F.slot_tuple_iterator_next ty F.entry_tuple_iterator_next ?_ (F.args_tuple_iterator_next_1 _)))
  refine show wpAny _ _ (field (.ref it) 0 >>= _) _ _ s from wpAny_bind (wpAny_field e rfl (x := .ref t) rfl ?_)
  refine show wpAny _ _ (if (Value.ref t == Value.none) = true then _ else field (.ref it) 1 >>= _) _ _ s from (if_neg (show ¬ ((Value.ref t == Value.none) = true) from Bool.false_ne_true)) ▸ wpAny_bind (wpAny_field e rfl (x := .int i 0) rfl ?_)
  refine show wpAny _ _ (seqItems? (.ref t) >>= _) _ _ s from wpAny_bind (wpAny_seqItems hol hdl ?_)
  simp only [Int.toNat_natCast, hx]
  refine wpAny_bind (wpAny_rule (wpAny_bind (wpAny_setField_rec e (by simp) fun h1 e1 sb => ?_)))
  refine wpAny_bind (m := newExc _ _) ?_
  simp only [newExc, newTuple]
  refine wpAny_bind (wpAny_newObj_type ?_ (by size_fits))
  refine wpAny_bind (m := firstArgMember _ _) (wpAny_of_eq (a := Value.none) (by first | rfl | (unfold firstArgMember; rfl)) (wpAny_newObj_type ?_ (by size_fits)))
  exact wpAny_raiseNew_none (by simpa using hh) (q _ _ (fun b o nb z => Heap.get?_push_of_some _ (Heap.get?_push_of_some _ (sb.extBut b o nb z))) ⟨_, Heap.get?_push_size _ rfl, rfl⟩)
end
end L2
namespace L2
open PySem PySem.Spec PyProof.Rows
section
variable {P : Program} {w : World} {A : Around} {E : Value → Shared → Prop} {s : Shared} {z TI TO i1 i2 t1 t2 : Addr} {i : Nat} {xs ys : Array Value}
structure ZipT (h : Heap) (z TI TO i1 i2 t1 t2 : Addr) (f0 : Value) (i : Nat) : Prop where
  zip : IsZip h z TI TO f0
  ins : IsPair h TI (.ref i1) (.ref i2)
  out : ∃ a b, IsPair h TO a b
  one : h.get? i1 = some (tupIt t1 i)
  two : h.get? i2 = some (tupIt t2 i)
theorem zipT_item {x y : Value} {Q : Option Value → Shared → Prop} (D : ZipApart z TI TO i1 i2 t1 t2) (Z : ZipT s.heap z TI TO i1 i2 t1 t2 .none i) (h1 : s.heap.IsTuple t1 xs) (h2 : s.heap.IsTuple t2 ys) (hx : xs[i]? = some x) (hy : ys[i]? = some y)
    (q : ∀ h', ZipT h' z TI TO i1 i2 t1 t2 (rawInt s.heap.objs.size) (i + 1) → IsPair h' s.heap.objs.size x y → (∀ c o, c ∉ [z, TO, i1, i2] → s.heap.get? c = some o → h'.get? c = some o) → Q (some (.ref s.heap.objs.size)) { s with heap := h' }) :
    wpAny (model P w) A (pyNext (.ref z)) Q E s := by
  have ty : s.TypeIs (.ref z) "zip" := ⟨_, Z.zip, rfl⟩
  obtain ⟨a0, b0, out⟩ := Z.out
  unfold pyNext
  refine wpAny_bind (wpAny_attempt (wpAny_callSpecial?_slot (name := Str.ofString "__next__") ty F.slot_zip_next (wpAny_call_entry F.slot_zip_next ty F.entry_zip_next ?_ (F.args_zip_next_1 _))))
  refine show wpAny _ _ (field (.ref z) 2 >>= _) _ _ _ from wpAny_bind (wpAny_field Z.zip rfl (x := .bool false) rfl ?_)
  refine show wpAny _ _ (field (.ref z) 3 >>= _) _ _ _ from wpAny_bind (wpAny_field Z.zip rfl (x := .ref TI) rfl (wpAny_bind (wpAny_seqItems Z.ins rfl ?_)))
  refine show wpAny _ _ (Builtin.SmallTypes.ownedTupleIsFree (.ref z) >>= _) _ _ _ from wpAny_bind ?_
  unfold Builtin.SmallTypes.ownedTupleIsFree
  refine wpAny_bind (wpAny_field Z.zip rfl (x := .none) rfl (wpAny_pure (show wpAny _ _ (if true = true then _ else _) _ _ _ from (if_pos rfl) ▸ wpAny_bind (wpAny_rule (wpAny_bind (wpAny_field Z.zip rfl (x := .ref TO) rfl ?_))))))
  refine wpAny_bind (wpAny_setField_rec Z.zip (by simp) fun g1 z1 b1 => wpAny_bind ?_)
  simp only [List.zipIdx_cons, List.zipIdx_nil, List.forIn_cons, List.forIn_nil]
  have o1 : IsPair g1 TO a0 b0 := b1.extBut _ _ D.TOz out
  refine wpAny_bind (wpAny_bind (wpAny_onRaise (show wpAny _ _ (Builtin.SmallTypes.nextOf (.ref i1) >>= _) _ _ _ from wpAny_bind (drawT (b1.extBut _ _ D.i1z Z.one) (h1.extBut b1.extBut D.l1z) hx fun g2 e2 b2 => wpAny_pure ?_))))
  have o2 : IsPair g2 TO a0 b0 := b2.extBut _ _ D.TOi1 o1
  refine wpAny_bind (wpAny_seqItems o2 rfl (wpAny_bind (wpAny_updateSeq_pair o2 fun g3 o3 b3 => wpAny_bind (wpAny_letGo (wpAny_pure ?_)))))
  have two3 : g3.get? i2 = some (tupIt t2 i) := b3.extBut _ _ D.TOi2.symm (b2.extBut _ _ D.i12.symm (b1.extBut _ _ D.i2z Z.two))
  have tup3 : g3.IsTuple t2 ys := ((h2.extBut b1.extBut D.l2z).extBut b2.extBut D.l2i1).extBut b3.extBut D.l2TO
  refine wpAny_bind (wpAny_bind (wpAny_onRaise (show wpAny _ _ (Builtin.SmallTypes.nextOf (.ref i2) >>= _) _ _ _ from wpAny_bind (drawT two3 tup3 hy fun g4 e4 b4 => wpAny_pure ?_))))
  have o4 : IsPair g4 TO x b0 := b4.extBut _ _ D.TOi2 o3
  refine wpAny_bind (wpAny_seqItems o4 rfl (wpAny_bind (wpAny_updateSeq_pair o4 fun g5 o5 b5 => wpAny_bind (wpAny_letGo (wpAny_pure (wpAny_pure ?_))))))
  have o5' : IsPair g5 TO x y := o5
  have kept : ∀ c o, c ∉ [z, TO, i1, i2] → s.heap.get? c = some o → g5.get? c = some o := fun c o nc e => by
    simp only [List.mem_cons, List.not_mem_nil, or_false, not_or] at nc
    exact b5.extBut _ _ nc.2.1 (b4.extBut _ _ nc.2.2.2 (b3.extBut _ _ nc.2.1 (b2.extBut _ _ nc.2.2.1 (b1.extBut _ _ nc.1 e))))
  have z5 : IsZip g5 z TI TO .ellipsis := b5.extBut _ _ D.TOz.symm (b4.extBut _ _ D.i2z.symm (b3.extBut _ _ D.TOz.symm (b2.extBut _ _ D.i1z.symm z1)))
  have one5 : g5.get? i1 = some (tupIt t1 (i + 1)) := b5.extBut _ _ D.TOi1.symm (b4.extBut _ _ D.i12 (b3.extBut _ _ D.TOi1.symm e2))
  have two5 : g5.get? i2 = some (tupIt t2 (i + 1)) := b5.extBut _ _ D.TOi2.symm e4
  have sz : g5.objs.size = s.heap.objs.size := by rw [b5.1, b4.1, b3.1, b2.1, b1.1]
  have far : ∀ {c o}, g5.get? c = some o → g5.objs.size ≠ c := fun e => Nat.ne_of_gt (Heap.lt_size e)
  refine wpAny_bind (wpAny_seqItems o5' rfl (wpAny_bind (wpAny_newTuple ?_)))
  refine show wpAny _ _ (Builtin.SmallTypes.ownedTupleHandOut (.ref z) (.ref g5.objs.size) >>= _) _ _ _ from wpAny_bind ?_
  unfold Builtin.SmallTypes.ownedTupleHandOut
  refine wpAny_bind (wpAny_setField_rec (Heap.get?_push_of_some _ z5) (by simp) fun g7 z7 b7 => wpAny_setField_rec z7 (by simp) fun g8 z8 b8 => wpAny_pure ⟨_, rfl, wpAny_pure ?_⟩)
  have up : ∀ c o, c ≠ z → (g5.push { cls := .type "tuple", data := .seq #[x, y] }).get? c = some o → g8.get? c = some o := fun c o nc e => b8.extBut _ _ nc (b7.extBut _ _ nc e)
  have old : ∀ c o, c ≠ z → g5.get? c = some o → g8.get? c = some o := fun c o nc e => up c o nc (Heap.get?_push_of_some _ e)
  have z8' : IsZip g8 z TI TO (rawInt g5.objs.size) := z8
  have t8 : IsPair g8 g5.objs.size x y := up _ _ (far z5) (Heap.get?_push_size _ rfl)
  rw [sz] at z8' t8
  show Q (some (.ref g5.objs.size)) _
  rw [sz]
  have ti : s.heap.get? TI = some { cls := .type "tuple", data := .seq #[.ref i1, .ref i2] } := Z.ins
  refine q g8 ⟨z8', old _ _ D.TIz (kept _ _ (by simp [D.TIz, D.TITO, D.TIi1, D.TIi2]) ti), ⟨x, y, old _ _ D.TOz o5'⟩, old _ _ D.i1z one5, old _ _ D.i2z two5⟩ t8 fun c o nc e => old c o (fun h => nc (by simp [h])) (kept c o nc e)
theorem zipT_end {Q : Option Value → Shared → Prop} (hh : A.handled = none) (D : ZipApart z TI TO i1 i2 t1 t2) (Z : ZipT s.heap z TI TO i1 i2 t1 t2 .none i) (h1 : s.heap.IsTuple t1 xs) (h2 : s.heap.IsTuple t2 ys) (hx : xs[i]? = none ∨ ys[i]? = none)
    (q : ∀ h', (∀ c o, c ∉ [z, TO, i1, i2] → s.heap.get? c = some o → h'.get? c = some o) → Q none { s with heap := h' }) : wpAny (model P w) A (pyNext (.ref z)) Q E s := by
  have ty : s.TypeIs (.ref z) "zip" := ⟨_, Z.zip, rfl⟩
  obtain ⟨a0, b0, out⟩ := Z.out
  unfold pyNext
  refine wpAny_bind (wpAny_attempt (wpAny_callSpecial?_slot (name := Str.ofString "__next__") ty F.slot_zip_next (wpAny_call_entry F.slot_zip_next ty F.entry_zip_next ?_ (F.args_zip_next_1 _))))
  have fin : ∀ {h' : Heap} {x : Addr}, (∀ c o, c ∉ [z, TO, i1, i2] → s.heap.get? c = some o → h'.get? c = some o) → (∃ o, h'.get? x = some o ∧ o.cls = .type "StopIteration") → wpAny (model P w) A (isInstance (.ref x) (.type "StopIteration") >>= fun b => if b = true then pure none else throw (.ref x)) Q E { s with heap := h' } := fun k ⟨o, e1, e2⟩ =>
    wpAny_bind (wpAny_isInstance (T := "StopIteration") (b := true) ⟨o, e1, e2⟩ isSubtype_stop (wpAny_pure (q _ k)))
  refine show wpAny _ _ (field (.ref z) 2 >>= _) _ _ _ from wpAny_bind (wpAny_field Z.zip rfl (x := .bool false) rfl ?_)
  refine show wpAny _ _ (field (.ref z) 3 >>= _) _ _ _ from wpAny_bind (wpAny_field Z.zip rfl (x := .ref TI) rfl (wpAny_bind (wpAny_seqItems Z.ins rfl ?_)))
  refine show wpAny _ _ (Builtin.SmallTypes.ownedTupleIsFree (.ref z) >>= _) _ _ _ from wpAny_bind ?_
  unfold Builtin.SmallTypes.ownedTupleIsFree
  refine wpAny_bind (wpAny_field Z.zip rfl (x := .none) rfl (wpAny_pure (show wpAny _ _ (if true = true then _ else _) _ _ _ from (if_pos rfl) ▸ wpAny_bind (wpAny_rule (wpAny_bind (wpAny_field Z.zip rfl (x := .ref TO) rfl ?_))))))
  refine wpAny_bind (wpAny_setField_rec Z.zip (by simp) fun g1 z1 b1 => wpAny_bind ?_)
  simp only [List.zipIdx_cons, List.zipIdx_nil, List.forIn_cons, List.forIn_nil]
  have o1 : IsPair g1 TO a0 b0 := b1.extBut _ _ D.TOz out
  have hh1 : A.in1.handled = none := by simpa using hh
  refine wpAny_bind (wpAny_bind (wpAny_onRaise (show wpAny _ _ (Builtin.SmallTypes.nextOf (.ref i1) >>= _) _ _ _ from wpAny_bind ?_)))
  cases cx : xs[i]? with
  | none =>
    refine drawT_end hh1 (b1.extBut _ _ D.i1z Z.one) (h1.extBut b1.extBut D.l1z) cx fun g2 x b2 ⟨ox, e1, e2⟩ => ?_
    have z2 : IsZip g2 z TI TO .ellipsis := b2 _ _ D.i1z.symm z1
    have nx : x ≠ z := fun h => by subst h; rw [z2] at e1; cases e1; simp at e2
    refine wpAny_setField_rec z2 (by simp) fun g3 _ b3 => fin (fun c o nc e => ?_) ⟨ox, b3.extBut _ _ nx e1, e2⟩
    simp only [List.mem_cons, List.not_mem_nil, or_false, not_or] at nc
    exact b3.extBut _ _ nc.1 (b2 _ _ nc.2.2.1 (b1.extBut _ _ nc.1 e))
  | some x0 =>
    have cy : ys[i]? = none := hx.elim (fun h => by rw [cx] at h; cases h) id
    refine drawT (b1.extBut _ _ D.i1z Z.one) (h1.extBut b1.extBut D.l1z) cx fun g2 e2 b2 => wpAny_pure ?_
    have o2 : IsPair g2 TO a0 b0 := b2.extBut _ _ D.TOi1 o1
    refine wpAny_bind (wpAny_seqItems o2 rfl (wpAny_bind (wpAny_updateSeq_pair o2 fun g3 o3 b3 => wpAny_bind (wpAny_letGo (wpAny_pure ?_)))))
    have two3 : g3.get? i2 = some (tupIt t2 i) := b3.extBut _ _ D.TOi2.symm (b2.extBut _ _ D.i12.symm (b1.extBut _ _ D.i2z Z.two))
    have tup3 : g3.IsTuple t2 ys := ((h2.extBut b1.extBut D.l2z).extBut b2.extBut D.l2i1).extBut b3.extBut D.l2TO
    refine wpAny_bind (wpAny_bind (wpAny_onRaise (show wpAny _ _ (Builtin.SmallTypes.nextOf (.ref i2) >>= _) _ _ _ from wpAny_bind (drawT_end hh1 two3 tup3 cy fun g4 x b4 ⟨ox, e1, e2⟩ => ?_))))
    have z4 : IsZip g4 z TI TO .ellipsis := b4 _ _ D.i2z.symm (b3.extBut _ _ D.TOz.symm (b2.extBut _ _ D.i1z.symm z1))
    have nx : x ≠ z := fun h => by subst h; rw [z4] at e1; cases e1; simp at e2
    refine wpAny_setField_rec z4 (by simp) fun g5 _ b5 => fin (fun c o nc e => ?_) ⟨ox, b5.extBut _ _ nx e1, e2⟩
    simp only [List.mem_cons, List.not_mem_nil, or_false, not_or] at nc
    exact b5.extBut _ _ nc.1 (b4 _ _ nc.2.2.2 (b3.extBut _ _ nc.2.1 (b2.extBut _ _ nc.2.2.1 (b1.extBut _ _ nc.1 e))))
end
end L2
namespace L2
open PySem PySem.Spec PyProof.Rows
def Itz (K : PySem.W.Frag) (t1 t2 : Addr) : It :=
  ⟨fun i H => ∃ xs ys x y, SqT K H t1 xs ∧ SqT K H t2 ys ∧ xs[i]? = some x ∧ ys[i]? = some y,
   fun i H v H' => ∃ T x y, v = .ref T ∧ H T = none ∧ H' = upd H T (.tup [x, y]) ∧ (∀ xs, SqT K H t1 xs → xs[i]? = some x) ∧ ∀ ys, SqT K H t2 ys → ys[i]? = some y,
   fun i H => ∃ xs ys, SqT K H t1 xs ∧ SqT K H t2 ys ∧ (xs.length ≤ i ∨ ys.length ≤ i)⟩
theorem turn_zip {P : Program} {w : World} {K : PySem.W.Frag} {elts : List Expr} {x1 : Nat} {pos : Pos} {z TI TO i1 i2 t1 t2 : Addr} (D : ZipApart z TI TO i1 i2 t1 t2) :
    Turn P w K (.Tuple elts x1 pos) (Itz K t1 t2) [z, TI, TO, i1, i2] z (fun i h => ZipT h z TI TO i1 i2 t1 t2 .none i) where
  mem := List.mem_cons_self ..
  obj := fun i h Z b hb => by
    obtain ⟨a0, b0, out⟩ := Z.out
    simp only [List.mem_cons, List.not_mem_nil, or_false] at hb
    rcases hb with rfl | rfl | rfl | rfl | rfl
    · exact ⟨_, Z.zip, fun v q => by cases q⟩
    · exact ⟨_, Z.ins, fun v q => by cases q⟩
    · exact ⟨_, out, fun v q => by cases q⟩
    · exact ⟨_, Z.one, fun v q => by cases q⟩
    · exact ⟨_, Z.two, fun v q => by cases q⟩
  keep := fun i h h' Z k => ⟨k z (by simp) _ Z.zip, k TI (by simp) _ Z.ins, let ⟨a, b, o⟩ := Z.out; ⟨a, b, k TO (by simp) _ o⟩, k i1 (by simp) _ Z.one, k i2 (by simp) _ Z.two⟩
  item := by
    intro X hP hw hK hc i pins s σ H E I hf Z hg
    subst hP hw hK
    obtain ⟨xs, ys, x, y, q1, q2, hx, hy⟩ := hg
    obtain ⟨its, rv, p1, _⟩ := I.tuple q1
    obtain ⟨its2, rv2, p2, _⟩ := I.tuple q2
    obtain ⟨u, hu, ru⟩ := rv.get hx
    obtain ⟨v, hv, rv'⟩ := rv2.get hy
    refine zipT_item D Z (show s.heap.IsTuple t1 its.toArray from p1) (show s.heap.IsTuple t2 its2.toArray from p2) (x := u) (y := v) (by simpa using hu) (by simpa using hv) fun h1 Z1 pr k1 => ?_
    have sub : ∀ b ∈ [z, TO, i1, i2], b ∈ [z, TI, TO, i1, i2] := fun b hb => by simp only [List.mem_cons, List.not_mem_nil, or_false] at hb ⊢; rcases hb with e | e | e | e <;> simp [e]
    have I1 : Inv X pins σ H { s with heap := h1 } := I.turnedN (t' := s.toks) k1 fun b hb => hf b (sub b hb)
    have nT : H s.heap.objs.size = none := I.hok.fresh (Nat.le_refl _)
    have ok : ObjOk X.prog X.w (upd H s.heap.objs.size (.tup [x, y])) h1 s.heap.objs.size (.tup [x, y]) := ⟨by show 2 ≤ sizeLine; decide, [u, v], .cons ru (.cons rv' .nil), ⟨_, pr, rfl, _, rfl⟩⟩
    have I2 : Inv X pins σ (upd H s.heap.objs.size (.tup [x, y])) { s with heap := h1 } := Inv.trackNew I I1 ok
    refine ⟨_, rfl, wpAny_letOwnedTupleGo_zip Z1.zip fun h2 z2 sb => ?_⟩
    obtain ⟨a0, b0, out⟩ := Z1.out
    have old : ∀ b ∈ [z, TI, TO, i1, i2], b ≠ s.heap.objs.size := fun b hb => by
      obtain ⟨a1, b1, out1⟩ := Z.out
      simp only [List.mem_cons, List.not_mem_nil, or_false] at hb
      rcases hb with rfl | rfl | rfl | rfl | rfl
      · exact Nat.ne_of_lt (Heap.lt_size Z.zip)
      · exact Nat.ne_of_lt (Heap.lt_size Z.ins)
      · exact Nat.ne_of_lt (Heap.lt_size out1)
      · exact Nat.ne_of_lt (Heap.lt_size Z.one)
      · exact Nat.ne_of_lt (Heap.lt_size Z.two)
    have none2 : ∀ b ∈ [z, TI, TO, i1, i2], upd H s.heap.objs.size (.tup [x, y]) b = none := fun b hb => by rw [upd_ne (old b hb)]; exact (hf b hb).1
    obtain ⟨f0, f1, f2, f3, f4, f5⟩ := hf z (List.mem_cons_self ..)
    have I3 : Inv X pins σ (upd H s.heap.objs.size (.tup [x, y])) { s with heap := h2 } := I2.turned (t' := s.toks) (fun b o nb e => sb.extBut b o nb e) (none2 z (List.mem_cons_self ..)) f1 f3 f4 f5
    refine ⟨.ref s.heap.objs.size, _, I3, rfl, ⟨_, x, y, rfl, nT, rfl, fun xs' h => ?_, fun ys' h => ?_⟩, ⟨z2, sb.extBut _ _ D.TIz Z1.ins, ⟨a0, b0, sb.extBut _ _ D.TOz out⟩, sb.extBut _ _ D.i1z Z1.one, sb.extBut _ _ D.i2z Z1.two⟩, none2⟩
    · rw [I.tuple_inj h q1]; exact hx
    · rw [I.tuple_inj h q2]; exact hy
  done := by
    intro X hP hw hK hc i pins s σ H E I hf Z hg
    subst hP hw hK
    obtain ⟨xs, ys, q1, q2, he⟩ := hg
    obtain ⟨its, rv, p1, _⟩ := I.tuple q1
    obtain ⟨its2, rv2, p2, _⟩ := I.tuple q2
    have l1 := rv.length
    have l2 := rv2.length
    have sub : ∀ b ∈ [z, TO, i1, i2], b ∈ [z, TI, TO, i1, i2] := fun b hb => by simp only [List.mem_cons, List.not_mem_nil, or_false] at hb ⊢; rcases hb with e | e | e | e <;> simp [e]
    refine zipT_end (I.ok.hd hc) D Z (show s.heap.IsTuple t1 its.toArray from p1) (show s.heap.IsTuple t2 its2.toArray from p2) ?_ fun h1 k1 => ⟨rfl, I.turnedN (t' := s.toks) k1 fun b hb => hf b (sub b hb)⟩
    rcases he with h | h
    · exact .inl (by simp; omega)
    · exact .inr (by simp; omega)
  self := fun _ _ _ _ _ Z q => wpAny_pyIter_zip Z.zip q
end L2
namespace L2
open PySem PySem.Spec PyProof.Rows
def zipUp (h : Heap) (a b : Addr) : Heap := ((((h.push (tupIt a 0)).push (tupIt b 0)).push { cls := .type "tuple", data := .seq #[.ref h.objs.size, .ref (h.objs.size + 1)] }).push { cls := .type "tuple", data := .seq #[.none, .none] }).push
  { cls := .type "zip", data := .fields #[.none, .bool false, .bool false, .ref (h.objs.size + 2), .ref (h.objs.size + 3)] }
theorem zip_newT (a b : Addr) (xs ys : Array Value) : Meets (Builtin.«zip.__new__» ⟨[.type "zip", .ref a, .ref b], []⟩) (fun _ R s => s.heap.IsTuple a xs ∧ s.heap.IsTuple b ys ∧ R (.ok (.ret (.ref (s.heap.objs.size + 4)))) { s with heap := zipUp s.heap a b }) := by
  refine .of_wp fun P w A R ⟨h, gn, dr, k, os⟩ ⟨h1, h2, q⟩ => ?_
  have sub := sub_zip
  have e1 : Heap.IsTuple (Shared.heap ⟨h, gn, dr, k, os⟩) a xs := h1
  have e2 : Heap.IsTuple (Shared.heap ⟨h.push { cls := .type "tuple_iterator", data := .fields #[.ref a, .int 0 0] }, gn, dr, k, os⟩) b ys := Heap.IsTuple.push h2 _
  wp_walk using wpAny_pyIter_tuple e1, wpAny_pyIter_tuple e2
  refine ⟨_, rfl, ?_⟩
  have q' := q
  unfold zipUp at q'
  simp only [Heap.size_push] 
  exact q'
theorem zip_apart {n t1 t2 : Nat} (h1 : t1 < n) (h2 : t2 < n) : ZipApart (n + 4) (n + 2) (n + 3) n (n + 1) t1 t2 := by
  constructor <;> (intro h; have h' : (_ : Nat) = _ := h; omega)
theorem zipUp_is (h : Heap) (a b : Addr) : ZipT (zipUp h a b) (h.objs.size + 4) (h.objs.size + 2) (h.objs.size + 3) h.objs.size (h.objs.size + 1) a b .none 0 ∧ (∀ c o, h.get? c = some o → (zipUp h a b).get? c = some o) ∧ (zipUp h a b).objs.size = h.objs.size + 5 := by
  unfold zipUp
  generalize e1 : h.push (tupIt a 0) = h1
  have g1 : h1.get? h.objs.size = some (tupIt a 0) := by rw [← e1]; exact Heap.get?_push_size _ rfl
  have s1 : h1.objs.size = h.objs.size + 1 := by rw [← e1]; exact Heap.size_push ..
  have k1 : ∀ c o, h.get? c = some o → h1.get? c = some o := fun c o e => by rw [← e1]; exact Heap.get?_push_of_some _ e
  generalize e2 : h1.push (tupIt b 0) = h2
  have g2 : h2.get? (h.objs.size + 1) = some (tupIt b 0) := by rw [← e2, ← s1]; exact Heap.get?_push_size _ rfl
  have s2 : h2.objs.size = h.objs.size + 2 := by rw [← e2, Heap.size_push, s1]
  have k2 : ∀ c o, h1.get? c = some o → h2.get? c = some o := fun c o e => by rw [← e2]; exact Heap.get?_push_of_some _ e
  generalize e3 : h2.push { cls := .type "tuple", data := .seq #[.ref h.objs.size, .ref (h.objs.size + 1)] } = h3
  have g3 : h3.get? (h.objs.size + 2) = some { cls := .type "tuple", data := .seq #[.ref h.objs.size, .ref (h.objs.size + 1)] } := by rw [← e3, ← s2]; exact Heap.get?_push_size _ rfl
  have s3 : h3.objs.size = h.objs.size + 3 := by rw [← e3, Heap.size_push, s2]
  have k3 : ∀ c o, h2.get? c = some o → h3.get? c = some o := fun c o e => by rw [← e3]; exact Heap.get?_push_of_some _ e
  generalize e4 : h3.push { cls := .type "tuple", data := .seq #[.none, .none] } = h4
  have g4 : h4.get? (h.objs.size + 3) = some { cls := .type "tuple", data := .seq #[.none, .none] } := by rw [← e4, ← s3]; exact Heap.get?_push_size _ rfl
  have s4 : h4.objs.size = h.objs.size + 4 := by rw [← e4, Heap.size_push, s3]
  have k4 : ∀ c o, h3.get? c = some o → h4.get? c = some o := fun c o e => by rw [← e4]; exact Heap.get?_push_of_some _ e
  have k5 : ∀ (o5 : Obj) c o, h4.get? c = some o → (h4.push o5).get? c = some o := fun o5 c o e => Heap.get?_push_of_some _ e
  refine ⟨⟨?_, k5 _ _ _ (k4 _ _ g3), ⟨_, _, k5 _ _ _ g4⟩, k5 _ _ _ (k4 _ _ (k3 _ _ (k2 _ _ g1))), k5 _ _ _ (k4 _ _ (k3 _ _ g2))⟩, fun c o e => k5 _ _ _ (k4 _ _ (k3 _ _ (k2 _ _ (k1 _ _ e)))), by rw [Heap.size_push, s4]⟩
  have z := Heap.get?_push_size (h := h4) (o := { cls := .type "zip", data := .fields #[.none, .bool false, .bool false, .ref (h.objs.size + 2), .ref (h.objs.size + 3)] }) rfl
  rw [s4] at z
  exact z
section
variable {X : Cx}
def iZip (K : PySem.W.Frag) (ta : TA) : TI := fun σ H R => ta σ H fun vs H1 => ∃ t1 t2 xs ys, vs = [.ref t1, .ref t2] ∧ SqT K H1 t1 xs ∧ SqT K H1 t2 ys ∧ R (Itz K t1 t2) H1
theorem pi_zip {elts : List Expr} {x1 : Nat} {tp : Pos} {a b : Expr} {ta : TA} {p pos : Pos} (hg : Gl X "zip") (hm : X.mg "zip" = none) (ha : PA X [a, b] ta) (hs : starEach [a, b] X.env = [(false, eval a X.env), (false, eval b X.env)] := by rfl)
    (hs2 : starEach [b] X.env = [(false, eval b X.env)] := by rfl) : PI X (.Tuple elts x1 tp) (.Call (.Name "zip" p) [a, b] [] pos) (iZip X.K ta) := by
  intro pins s σ H R I h
  refine Call_ (ld_blt I hg hm PyProof.Rows.boot_zip (PyProof.Rows.callWith_type1 (thn (ha pos pins s σ H _ I h) fun us s1 ⟨vs, H1, I1, r1, q1⟩ => ?_) (by rw [hs, hs2]) (by rw [hs2]; rfl)))
  obtain ⟨t1, t2, xs, ys, e, q1, q2, q⟩ := q1
  subst e
  obtain ⟨u1, us, rfl, ru1, r2⟩ : ∃ u1 us', us = u1 :: us' ∧ RelV (.ref t1) u1 ∧ Vals [.ref t2] us' := by cases r1 with | cons a b => exact ⟨_, _, rfl, a, b⟩
  obtain ⟨u2, rfl, ru2⟩ := vals1 r2
  cases ru1
  cases ru2
  obtain ⟨its, rv, p1, _⟩ := I1.tuple q1
  obtain ⟨its2, rv2, p2, _⟩ := I1.tuple q2
  have p1' : s1.heap.IsTuple t1 its.toArray := p1
  have p2' : s1.heap.IsTuple t2 its2.toArray := p2
  have lt1 : t1 < s1.heap.objs.size := let ⟨_, e, _⟩ := p1'; Heap.lt_size e
  have lt2 : t2 < s1.heap.objs.size := let ⟨_, e, _⟩ := p2'; Heap.lt_size e
  refine callType_new F.called_zip (by decide) (F.typeCall_zip_2 _ _) (F.newCall_zip_2 _ _) (fun o => F.args_object_init_3 o _ _) F.entry_zip_new (zip_newT t1 t2 its.toArray its2.toArray) ⟨p1', p2', ?_⟩
  obtain ⟨Z, all, sz⟩ := zipUp_is s1.heap t1 t2
  refine show _ ∧ _ from ⟨⟨_, Z.zip, rfl⟩, wpAny_pyIter_zip Z.zip ?_⟩
  have I2 : Inv X pins σ H1 { s1 with heap := zipUp s1.heap t1 t2 } := I1.kept (t' := s1.toks) all
  have D : ZipApart (s1.heap.objs.size + 4) (s1.heap.objs.size + 2) (s1.heap.objs.size + 3) s1.heap.objs.size (s1.heap.objs.size + 1) t1 t2 := zip_apart lt1 lt2
  refine ⟨_, _, _, _, H1, rfl, I2, turn_zip D, Z, fun b hb => ?_, q⟩
  have le : s1.heap.objs.size ≤ b := by
    simp only [List.mem_cons, List.not_mem_nil, or_false] at hb
    rcases hb with e | e | e | e | e <;> (rw [e]; first | exact Nat.le_refl _ | exact Nat.le_add_right _ _)
  exact I1.fpOk le (I1.hok.fresh le)
end
theorem for_zip {K : PySem.W.Frag} {t1 t2 : Addr} {xs ys : List V} {g : TG} {tb : TS} {D : Ends} {σ : St} {H : Hp} (Pv : Nat → St → Hp → Prop) (h0 : Pv 0 σ H) (hl : ∀ i σ H, Pv i σ H → SqT K H t1 xs ∧ SqT K H t2 ys)
    (hs : ∀ i x y T σ H, xs[i]? = some x → ys[i]? = some y → H T = none → Pv i σ H → g (.ref T) σ (upd H T (.tup [x, y])) fun σ2 H2 => tb { D with nx := Pv (i + 1), ct := Pv (i + 1), bk := D.nx } σ2 H2) (hd : ∀ σ H, Pv (min xs.length ys.length) σ H → D.nx σ H) :
    ∃ W : Nat → Nat → St → Hp → Prop, (∃ m, W 0 m σ H) ∧ ∀ i m σ H, W i m σ H →
      ((Itz K t1 t2).stop i H ∧ D.nx σ H) ∨ ((Itz K t1 t2).go i H ∧ ∃ N : St → Hp → Prop, (∀ σ' H', N σ' H' → ∃ m', m' < m ∧ W (i + 1) m' σ' H') ∧ ∀ x H', (Itz K t1 t2).yld i H x H' → g x σ H' fun σ2 H2 => tb { D with nx := N, ct := N, bk := D.nx } σ2 H2) := by
  refine ⟨fun i m σ H => m = min xs.length ys.length - i ∧ i ≤ min xs.length ys.length ∧ Pv i σ H, ⟨min xs.length ys.length, by simp, Nat.zero_le _, h0⟩, ?_⟩
  rintro i m σ H ⟨rfl, hi, p⟩
  obtain ⟨q1, q2⟩ := hl i σ H p
  by_cases lt : i < min xs.length ys.length
  · have l1 : i < xs.length := by omega
    have l2 : i < ys.length := by omega
    refine .inr ⟨⟨xs, ys, xs[i], ys[i], q1, q2, List.getElem?_eq_getElem l1, List.getElem?_eq_getElem l2⟩, Pv (i + 1), fun σ' H' p' => ⟨min xs.length ys.length - (i + 1), by omega, rfl, lt, p'⟩, fun v H' z => ?_⟩
    obtain ⟨T, x, y, rfl, hT, rfl, hx, hy⟩ := z
    exact hs i x y T σ H (hx xs q1) (hy ys q2) hT p
  · have e : i = min xs.length ys.length := by omega
    exact .inl ⟨⟨xs, ys, q1, q2, by omega⟩, hd σ H (e ▸ p)⟩
end L2
namespace L2
open PySem PySem.Spec PyProof.Rows
structure ZipL (h : Heap) (z TI TO i1 i2 t1 t2 : Addr) (f0 : Value) (i : Nat) : Prop where
  zip : IsZip h z TI TO f0
  ins : IsPair h TI (.ref i1) (.ref i2)
  out : ∃ a b, IsPair h TO a b
  one : h.IsListIter i1 t1 i
  two : h.IsListIter i2 t2 i
theorem zipl_apart {n t1 t2 : Nat} (h1 : t1 < n) (h2 : t2 < n) : ZipApart (n + 4) (n + 2) (n + 3) n (n + 1) t1 t2 := by
  constructor <;> (intro h; have h' : (_ : Nat) = _ := h; omega)
theorem zipl_not {z TO i1 i2 c : Addr} (h : c ∉ [z, TO, i1, i2]) : c ≠ z ∧ c ≠ TO ∧ c ≠ i1 ∧ c ≠ i2 := by
  simp only [List.mem_cons, List.not_mem_nil, or_false, not_or] at h
  exact h
def Itzl (K : PySem.W.Frag) (t1 t2 : Addr) : It :=
  ⟨fun i H => ∃ xs ys x y, SqL K H t1 xs ∧ SqL K H t2 ys ∧ xs[i]? = some x ∧ ys[i]? = some y,
   fun i H v H' => ∃ T x y, v = .ref T ∧ H T = none ∧ H' = upd H T (.tup [x, y]) ∧ (∀ xs, SqL K H t1 xs → xs[i]? = some x) ∧ ∀ ys, SqL K H t2 ys → ys[i]? = some y,
   fun i H => ∃ xs ys, SqL K H t1 xs ∧ SqL K H t2 ys ∧ (xs.length ≤ i ∨ ys.length ≤ i)⟩
theorem turn_zipL {P : Program} {w : World} {K : PySem.W.Frag} {elts : List Expr} {x1 : Nat} {pos : Pos} {z TI TO i1 i2 t1 t2 : Addr} (D : ZipApart z TI TO i1 i2 t1 t2) :
    Turn P w K (.Tuple elts x1 pos) (Itzl K t1 t2) [z, TI, TO, i1, i2] z (fun i h => ZipL h z TI TO i1 i2 t1 t2 .none i) where
  mem := List.mem_cons_self ..
  obj := fun i h Z b hb => by
    obtain ⟨a0, b0, out⟩ := Z.out
    simp only [List.mem_cons, List.not_mem_nil, or_false] at hb
    rcases hb with rfl | rfl | rfl | rfl | rfl
    · exact ⟨_, Z.zip, fun v q => by cases q⟩
    · exact ⟨_, Z.ins, fun v q => by cases q⟩
    · exact ⟨_, out, fun v q => by cases q⟩
    · obtain ⟨o, e, c, d⟩ := Z.one
      exact ⟨o, e, fun v z => by rw [d] at z; cases z⟩
    · obtain ⟨o, e, c, d⟩ := Z.two
      exact ⟨o, e, fun v z => by rw [d] at z; cases z⟩
  keep := fun i h h' Z k => ⟨k z (by simp) _ Z.zip, k TI (by simp) _ Z.ins, let ⟨a, b, o⟩ := Z.out; ⟨a, b, k TO (by simp) _ o⟩, Z.one.at fun o e => k i1 (by simp) o e, Z.two.at fun o e => k i2 (by simp) o e⟩
  item := by
    intro X hP hw hK hc i pins s σ H E I hf Z hg
    subst hP hw hK
    obtain ⟨xs, ys, x, y, q1, q2, hx, hy⟩ := hg
    obtain ⟨its, rv, p1, _⟩ := I.list q1
    obtain ⟨its2, rv2, p2, _⟩ := I.list q2
    obtain ⟨u, hu, ru⟩ := rv.get hx
    obtain ⟨v, hv, rv'⟩ := rv2.get hy
    obtain ⟨a00, b00, out0⟩ := Z.out
    refine wpAny_pyNext_zip_item D Z.zip Z.ins out0 Z.one Z.two p1.isList p2.isList (x := u) (y := v) (by simpa using hu) (by simpa using hv) fun h1 c1 c2 c3 c4 pr _ k0 => ?_
    have k1 : ∀ c o, c ∉ [z, TO, i1, i2] → s.heap.get? c = some o → h1.get? c = some o := fun c o nc e => let ⟨n1, n2, n3, n4⟩ := zipl_not nc; k0 c o n1 n2 n3 n4 e
    have Z1 : ZipL h1 z TI TO i1 i2 t1 t2 (rawInt s.heap.objs.size) (i + 1) := ⟨c1, k0 _ _ D.TIz D.TITO D.TIi1 D.TIi2 Z.ins, ⟨_, _, c2⟩, c3, c4⟩
    have sub : ∀ b ∈ [z, TO, i1, i2], b ∈ [z, TI, TO, i1, i2] := fun b hb => by simp only [List.mem_cons, List.not_mem_nil, or_false] at hb ⊢; rcases hb with e | e | e | e <;> simp [e]
    have I1 : Inv X pins σ H { s with heap := h1 } := I.turnedN (t' := s.toks) k1 fun b hb => hf b (sub b hb)
    have nT : H s.heap.objs.size = none := I.hok.fresh (Nat.le_refl _)
    have ok : ObjOk X.prog X.w (upd H s.heap.objs.size (.tup [x, y])) h1 s.heap.objs.size (.tup [x, y]) := ⟨by show 2 ≤ sizeLine; decide, [u, v], .cons ru (.cons rv' .nil), ⟨_, pr, rfl, _, rfl⟩⟩
    have I2 : Inv X pins σ (upd H s.heap.objs.size (.tup [x, y])) { s with heap := h1 } := Inv.trackNew I I1 ok
    refine ⟨_, rfl, wpAny_letOwnedTupleGo_zip Z1.zip fun h2 z2 sb => ?_⟩
    obtain ⟨a0, b0, out⟩ := Z1.out
    have old : ∀ b ∈ [z, TI, TO, i1, i2], b ≠ s.heap.objs.size := fun b hb => by
      obtain ⟨a1, b1, out1⟩ := Z.out
      simp only [List.mem_cons, List.not_mem_nil, or_false] at hb
      rcases hb with rfl | rfl | rfl | rfl | rfl
      · exact Nat.ne_of_lt (Heap.lt_size Z.zip)
      · exact Nat.ne_of_lt (Heap.lt_size Z.ins)
      · exact Nat.ne_of_lt (Heap.lt_size out1)
      · obtain ⟨o, e, _⟩ := Z.one
        exact Nat.ne_of_lt (Heap.lt_size e)
      · obtain ⟨o, e, _⟩ := Z.two
        exact Nat.ne_of_lt (Heap.lt_size e)
    have none2 : ∀ b ∈ [z, TI, TO, i1, i2], upd H s.heap.objs.size (.tup [x, y]) b = none := fun b hb => by rw [upd_ne (old b hb)]; exact (hf b hb).1
    obtain ⟨f0, f1, f2, f3, f4, f5⟩ := hf z (List.mem_cons_self ..)
    have I3 : Inv X pins σ (upd H s.heap.objs.size (.tup [x, y])) { s with heap := h2 } := I2.turned (t' := s.toks) (fun b o nb e => sb.extBut b o nb e) (none2 z (List.mem_cons_self ..)) f1 f3 f4 f5
    refine ⟨.ref s.heap.objs.size, _, I3, rfl, ⟨_, x, y, rfl, nT, rfl, fun xs' h => ?_, fun ys' h => ?_⟩, ⟨z2, sb.extBut _ _ D.TIz Z1.ins, ⟨a0, b0, sb.extBut _ _ D.TOz out⟩, Z1.one.at fun o e => sb.extBut _ _ D.i1z e, Z1.two.at fun o e => sb.extBut _ _ D.i2z e⟩, none2⟩
    · rw [I.list_inj h q1]; exact hx
    · rw [I.list_inj h q2]; exact hy
  done := by
    intro X hP hw hK hc i pins s σ H E I hf Z hg
    subst hP hw hK
    obtain ⟨xs, ys, q1, q2, he⟩ := hg
    obtain ⟨its, rv, p1, _⟩ := I.list q1
    obtain ⟨its2, rv2, p2, _⟩ := I.list q2
    have l1 := rv.length
    have l2 := rv2.length
    have sub : ∀ b ∈ [z, TO, i1, i2], b ∈ [z, TI, TO, i1, i2] := fun b hb => by simp only [List.mem_cons, List.not_mem_nil, or_false] at hb ⊢; rcases hb with e | e | e | e <;> simp [e]
    obtain ⟨a00, b00, out0⟩ := Z.out
    refine wpAny_pyNext_zip_end (I.ok.hd hc) D Z.zip Z.ins out0 Z.one Z.two p1.isList p2.isList ?_ fun h1 k0 => ⟨rfl, I.turnedN (t' := s.toks) (fun c o nc e => let ⟨n1, n2, n3, n4⟩ := zipl_not nc; k0 c o n1 n2 n3 n4 e) fun b hb => hf b (sub b hb)⟩
    rcases he with h | h
    · exact .inl (by simp; omega)
    · exact .inr (by simp; omega)
  self := fun _ _ _ _ _ Z q => wpAny_pyIter_zip Z.zip q
section
variable {X : Cx}
def iZipL (K : PySem.W.Frag) (ta : TA) : TI := fun σ H R => ta σ H fun vs H1 => ∃ t1 t2 xs ys, vs = [.ref t1, .ref t2] ∧ SqL K H1 t1 xs ∧ SqL K H1 t2 ys ∧ R (Itzl K t1 t2) H1
theorem pi_zipL {elts : List Expr} {x1 : Nat} {tp : Pos} {a b : Expr} {ta : TA} {p pos : Pos} (hg : Gl X "zip") (hm : X.mg "zip" = none) (ha : PA X [a, b] ta) (hs : starEach [a, b] X.env = [(false, eval a X.env), (false, eval b X.env)] := by rfl)
    (hs2 : starEach [b] X.env = [(false, eval b X.env)] := by rfl) : PI X (.Tuple elts x1 tp) (.Call (.Name "zip" p) [a, b] [] pos) (iZipL X.K ta) := by
  intro pins s σ H R I h
  refine Call_ (ld_blt I hg hm PyProof.Rows.boot_zip (PyProof.Rows.callWith_type1 (thn (ha pos pins s σ H _ I h) fun us s1 ⟨vs, H1, I1, r1, q1⟩ => ?_) (by rw [hs, hs2]) (by rw [hs2]; rfl)))
  obtain ⟨t1, t2, xs, ys, e, q1, q2, q⟩ := q1
  subst e
  obtain ⟨u1, us, rfl, ru1, r2⟩ : ∃ u1 us', us = u1 :: us' ∧ RelV (.ref t1) u1 ∧ Vals [.ref t2] us' := by cases r1 with | cons a b => exact ⟨_, _, rfl, a, b⟩
  obtain ⟨u2, rfl, ru2⟩ := vals1 r2
  cases ru1
  cases ru2
  obtain ⟨its, rv, p1, _⟩ := I1.list q1
  obtain ⟨its2, rv2, p2, _⟩ := I1.list q2
  have lt1 : t1 < s1.heap.objs.size := let ⟨_, e, _⟩ := p1.isList; Heap.lt_size e
  have lt2 : t2 < s1.heap.objs.size := let ⟨_, e, _⟩ := p2.isList; Heap.lt_size e
  refine call_zip_2 p1.isList p2.isList fun h2 c1 c2 c3 c4 c5 _ all => ?_
  have Z : ZipL h2 (s1.heap.objs.size + 4) (s1.heap.objs.size + 2) (s1.heap.objs.size + 3) s1.heap.objs.size (s1.heap.objs.size + 1) t1 t2 .none 0 := ⟨c1, c2, ⟨_, _, c3⟩, c4, c5⟩
  refine wpAny_pyIter_zip Z.zip ?_
  have I2 : Inv X pins σ H1 { s1 with heap := h2 } := I1.kept (t' := s1.toks) all
  have D : ZipApart (s1.heap.objs.size + 4) (s1.heap.objs.size + 2) (s1.heap.objs.size + 3) s1.heap.objs.size (s1.heap.objs.size + 1) t1 t2 := zipl_apart lt1 lt2
  refine ⟨_, _, _, _, H1, rfl, I2, turn_zipL D, Z, fun b hb => ?_, q⟩
  have le : s1.heap.objs.size ≤ b := by
    simp only [List.mem_cons, List.not_mem_nil, or_false] at hb
    rcases hb with e | e | e | e | e <;> (rw [e]; first | exact Nat.le_refl _ | exact Nat.le_add_right _ _)
  exact I1.fpOk le (I1.hok.fresh le)
end
theorem for_zipL {K : PySem.W.Frag} {t1 t2 : Addr} {xs ys : List V} {g : TG} {tb : TS} {D : Ends} {σ : St} {H : Hp} (Pv : Nat → St → Hp → Prop) (h0 : Pv 0 σ H) (hl : ∀ i σ H, Pv i σ H → SqL K H t1 xs ∧ SqL K H t2 ys)
    (hs : ∀ i x y T σ H, xs[i]? = some x → ys[i]? = some y → H T = none → Pv i σ H → g (.ref T) σ (upd H T (.tup [x, y])) fun σ2 H2 => tb { D with nx := Pv (i + 1), ct := Pv (i + 1), bk := D.nx } σ2 H2) (hd : ∀ σ H, Pv (min xs.length ys.length) σ H → D.nx σ H) :
    ∃ W : Nat → Nat → St → Hp → Prop, (∃ m, W 0 m σ H) ∧ ∀ i m σ H, W i m σ H →
      ((Itzl K t1 t2).stop i H ∧ D.nx σ H) ∨ ((Itzl K t1 t2).go i H ∧ ∃ N : St → Hp → Prop, (∀ σ' H', N σ' H' → ∃ m', m' < m ∧ W (i + 1) m' σ' H') ∧ ∀ x H', (Itzl K t1 t2).yld i H x H' → g x σ H' fun σ2 H2 => tb { D with nx := N, ct := N, bk := D.nx } σ2 H2) := by
  refine ⟨fun i m σ H => m = min xs.length ys.length - i ∧ i ≤ min xs.length ys.length ∧ Pv i σ H, ⟨min xs.length ys.length, by simp, Nat.zero_le _, h0⟩, ?_⟩
  rintro i m σ H ⟨rfl, hi, p⟩
  obtain ⟨q1, q2⟩ := hl i σ H p
  by_cases lt : i < min xs.length ys.length
  · have l1 : i < xs.length := by omega
    have l2 : i < ys.length := by omega
    refine .inr ⟨⟨xs, ys, xs[i], ys[i], q1, q2, List.getElem?_eq_getElem l1, List.getElem?_eq_getElem l2⟩, Pv (i + 1), fun σ' H' p' => ⟨min xs.length ys.length - (i + 1), by omega, rfl, lt, p'⟩, fun v H' z => ?_⟩
    obtain ⟨T, x, y, rfl, hT, rfl, hx, hy⟩ := z
    exact hs i x y T σ H (hx xs q1) (hy ys q2) hT p
  · have e : i = min xs.length ys.length := by omega
    exact .inl ⟨⟨xs, ys, q1, q2, by omega⟩, hd σ H (e ▸ p)⟩
end L2
namespace L2
open PySem PySem.Spec PyProof.Rows
section
variable {P : Program} {w : World} {A : Around} {E : Value → Shared → Prop} {s : Shared} {it d : Addr} {i ep : Nat} {es : Array DictEntry}
abbrev vstepObj (d : Addr) (i n ep : Nat) : Obj := { cls := .type "dict_valueiterator", data := .fields #[.ref d, .int i 0, .int n 0, .int ep 0] }
theorem vals_item {en : DictEntry} {Q : Option Value → Shared → Prop} (G : s.heap.get? it = some (vstepObj d i es.size ep)) (L : Lies s.heap d es ep) (hx : es[i]? = some en)
    (q : ∀ h', h'.get? it = some (vstepObj d (i + 1) es.size ep) → Heap.SameBut it s.heap h' → Q (some en.val) { s with heap := h' }) : wpAny (model P w) A (pyNext (.ref it)) Q E s := by
  obtain ⟨o, ho, _, hd⟩ := L
  have ty : s.TypeIs (.ref it) "dict_valueiterator" := ⟨_, G, rfl⟩
  unfold pyNext
  refine wpAny_bind (wpAny_attempt (wpAny_callSpecial?_slot (name := Str.ofString "__next__") ty F.slot_dict_valueiterator_next (wpAny_call_entry F.slot_dict_valueiterator_next ty F.entry_dict_valueiterator_next ?_ (F.args_dict_valueiterator_next_1 _))))
  refine wpAny_bind (wpAny_pure (wpAny_bind (wpAny_bind ?_)))
  refine wpAny_bind (wpAny_typeNameOfWhole_valiter ty (wpAny_pure (wpAny_bind (wpAny_fieldsOf G rfl ?_))))
  have own2 : Builtin.Dict_items.ownsTuple "dict_valueiterator" = false := by decide
  simp only [own2, Bool.false_eq_true, if_false]
  refine show wpAny _ _ (if (Value.ref d == Value.none) = true then _ else _) _ _ s from (if_neg (show ¬ ((Value.ref d == Value.none) = true) from Bool.false_ne_true)) ▸ wpAny_bind (wpAny_pure (wpAny_bind (wpAny_dictEntries ho hd ?_)))
  rw [if_neg (by simp)]
  refine wpAny_bind (wpAny_pure (wpAny_bind (wpAny_dictEpoch ho hd ?_)))
  rw [if_neg (by simp)]
  refine wpAny_pure ?_
  have at0 : (if ((i : Nat) : Int) < 0 then none else es[((i : Nat) : Int).toNat]?) = some en := by
    rw [if_neg (by omega), Int.toNat_natCast]
    exact hx
  show wpAny _ _ (match (if ((i : Nat) : Int) < 0 then none else es[((i : Nat) : Int).toNat]?) with | some e => _ | none => _) _ _ s
  rw [at0]
  refine wpAny_bind (wpAny_bind (wpAny_typeNameOfWhole_valiter ty (wpAny_pure (wpAny_bind (wpAny_isOneOf_valiter ty ?_)))))
  refine show wpAny _ _ (setField (.ref it) 1 (rawInt ((i : Int) + 1)) >>= _) _ _ s from wpAny_bind (wpAny_setField_rec G (by simp) fun h1 e1 s1 => wpAny_bind (wpAny_holding ?_))
  have e1' : h1.get? it = some (vstepObj d (i + 1) es.size ep) := by
    have z : ((i + 1 : Nat) : Int) = (i : Int) + 1 := by omega
    unfold vstepObj
    rw [z]
    simpa [rawInt] using e1
  have ty1 : Shared.TypeIs { s with heap := h1 } (.ref it) "dict_valueiterator" := ⟨_, e1', rfl⟩
  refine wpAny_bind (wpAny_isOneOf_valiter ty1 (wpAny_bind (wpAny_isOneOf_valiter ty1 ?_)))
  exact show wpAny _ _ (pure en.val) _ _ { s with heap := h1 } from wpAny_pure (wpAny_pure ⟨_, rfl, wpAny_pure (q h1 e1' s1)⟩)
theorem vals_end {Q : Option Value → Shared → Prop} (hh : A.handled = none) (G : s.heap.get? it = some (vstepObj d i es.size ep)) (L : Lies s.heap d es ep) (hx : es[i]? = none)
    (q : ∀ h', Heap.ExtBut it s.heap h' → Q none { s with heap := h' }) : wpAny (model P w) A (pyNext (.ref it)) Q E s := by
  obtain ⟨o, ho, _, hd⟩ := L
  have ty : s.TypeIs (.ref it) "dict_valueiterator" := ⟨_, G, rfl⟩
  unfold pyNext
  refine wpAny_bind (wpAny_attempt (wpAny_callSpecial?_slot (name := Str.ofString "__next__") ty F.slot_dict_valueiterator_next (wpAny_call_entry F.slot_dict_valueiterator_next ty F.entry_dict_valueiterator_next ?_ (F.args_dict_valueiterator_next_1 _))))
  refine wpAny_bind (wpAny_pure (wpAny_bind (wpAny_bind ?_)))
  refine wpAny_bind (wpAny_typeNameOfWhole_valiter ty (wpAny_pure (wpAny_bind (wpAny_fieldsOf G rfl ?_))))
  have own2 : Builtin.Dict_items.ownsTuple "dict_valueiterator" = false := by decide
  simp only [own2, Bool.false_eq_true, if_false]
  refine show wpAny _ _ (if (Value.ref d == Value.none) = true then _ else _) _ _ s from (if_neg (show ¬ ((Value.ref d == Value.none) = true) from Bool.false_ne_true)) ▸ wpAny_bind (wpAny_pure (wpAny_bind (wpAny_dictEntries ho hd ?_)))
  rw [if_neg (by simp)]
  refine wpAny_bind (wpAny_pure (wpAny_bind (wpAny_dictEpoch ho hd ?_)))
  rw [if_neg (by simp)]
  refine wpAny_pure ?_
  have at0 : (if ((i : Nat) : Int) < 0 then none else es[((i : Nat) : Int).toNat]?) = none := by
    rw [if_neg (by omega), Int.toNat_natCast]
    exact hx
  show wpAny _ _ (match (if ((i : Nat) : Int) < 0 then none else es[((i : Nat) : Int).toNat]?) with | some e => _ | none => _) _ _ s
  rw [at0]
  refine wpAny_bind (wpAny_bind (wpAny_typeNameOfWhole_valiter ty (wpAny_pure ?_)))
  refine show wpAny _ _ (setField (.ref it) 0 .none >>= _) _ _ s from wpAny_bind (wpAny_setField_rec G (by simp) fun h1 e1 sb => ?_)
  refine wpAny_bind (m := newExc _ _) ?_
  simp only [newExc, newTuple]
  refine wpAny_bind (wpAny_newObj_type ?_ (by size_fits))
  refine wpAny_bind (m := firstArgMember _ _) (wpAny_of_eq (a := Value.none) (by first | rfl | (unfold firstArgMember; rfl)) (wpAny_newObj_type ?_ (by size_fits)))
  refine wpAny_raiseNew_none (by simpa using hh) (wpAny_bind (wpAny_isInstance (T := "StopIteration") (b := true) ⟨_, Heap.get?_push_size _ rfl, rfl⟩ isSubtype_stop (wpAny_pure ?_)))
  exact q _ fun b o nb z => Heap.get?_push_of_some _ (Heap.get?_push_of_some _ (sb.extBut b o nb z))
abbrev vviewObj (d : Addr) : Obj := { cls := .type "dict_values", data := .fields #[.ref d] }
theorem vals_view {Q : Value → Shared → Prop} (nd : (d == sysModules) = false) (L : Lies s.heap d es ep) (q : Q (.ref s.heap.objs.size) { s with heap := s.heap.push (vviewObj d) }) : wpAny (model P w) A (call (.builtin "dict.values") [.ref d]) Q E s := by
  refine call_meetsIn (S := fun _ R s => Lies s.heap d es ep ∧ R (.ok (.ret (.ref s.heap.objs.size))) { s with heap := s.heap.push (vviewObj d) }) F.slot_dict_values L.typeIs F.entry_dict_values (F.args_dict_values_1 _) (.of_wp fun A R s ⟨L, r⟩ => ?_) ⟨L, q⟩
  refine wpAny_bind ?_
  unfold Builtin.Dict.noArgs
  refine wpAny_bind (wpAny_notOrdered_dict L.typeIs ?_)
  refine show wpAny _ _ (pure d) _ _ s from wpAny_pure (show wpAny _ _ (Builtin.Dict.showsAll d >>= _) _ _ s from ?_)
  have all : Builtin.Dict.showsAll d = pure () := by
    unfold Builtin.Dict.showsAll
    rw [nd]
    rfl
  rw [all]
  exact wpAny_bind (wpAny_pure (wpAny_bind (wpAny_newObj_type (wpAny_pure ⟨_, rfl, r⟩))))
theorem vals_iter {v : Addr} {Q : Value → Shared → Prop} (ev : s.heap.get? v = some (vviewObj d)) (L : Lies s.heap d es ep) (q : Q (.ref s.heap.objs.size) { s with heap := s.heap.push (vstepObj d 0 es.size ep) }) : wpAny (model P w) A (pyIter (.ref v)) Q E s := by
  have ty : s.TypeIs (.ref v) "dict_values" := ⟨_, ev, rfl⟩
  obtain ⟨o, ho, _, hd⟩ := L
  refine wpAny_pyIter_slot ty F.slot_dict_values_iter (wpAny_call_entry F.slot_dict_values_iter ty F.entry_dict_values_iter ?_ (F.args_dict_values_iter_1 _))
  unfold Builtin.«dict_values.__iter__» Builtin.Dict_items.dictOf Builtin.Dict_items.newIterator
  refine wpAny_bind (wpAny_pure (wpAny_bind (wpAny_bind (wpAny_field ev rfl (x := .ref d) rfl (wpAny_pure (wpAny_bind (wpAny_bind (wpAny_dictEntries ho hd (wpAny_bind (wpAny_dictEpoch ho hd ?_))))))))))
  have hown : Builtin.Dict_items.ownsTuple "dict_valueiterator" = false := by decide
  simp only [hown, Bool.false_eq_true, if_false]
  refine wpAny_newObj_type (wpAny_pure ⟨_, rfl, "dict_valueiterator", _, ⟨_, Heap.get?_push_size _ rfl, rfl⟩, F.slot_dict_valueiterator_next.lookup, ?_⟩) (by size_fits)
  exact q
theorem walksV (hh : A.handled = none) (hne : d ≠ it) : Walks P w A it [it, d] [it] es.size (fun i v => ∃ en, es[i]? = some en ∧ v = en.val) (fun i h => h.get? it = some (vstepObj d i es.size ep) ∧ Lies h d es ep) where
  sub := fun b hb => List.mem_cons.mpr (.inl (List.mem_singleton.mp hb))
  frame := fun i h h' st k => ⟨k it (List.mem_cons_self ..) _ st.1, let ⟨o, e, x⟩ := st.2; ⟨o, k d (List.mem_cons_of_mem _ (List.mem_singleton.mpr rfl)) _ e, x⟩⟩
  item := fun i s Q E hi st q => by
    obtain ⟨en, he⟩ : ∃ en, es[i]? = some en := ⟨_, Array.getElem?_eq_getElem hi⟩
    refine vals_item st.1 st.2 he fun h' e1 sb => q en.val h' s.toks ⟨en, he, rfl⟩ ⟨e1, let ⟨o, e, x⟩ := st.2; ⟨o, sb.extBut _ _ hne e, x⟩⟩ fun b o nb e => sb.extBut _ _ (fun z => nb (List.mem_singleton.mpr z)) e
  done := fun s Q E st q => vals_end hh st.1 st.2 (Array.getElem?_eq_none (Nat.le_refl _)) fun h' x => q h' s.toks fun b o nb e => x b o (fun z => nb (List.mem_singleton.mpr z)) e
  self := fun i s Q E st q => by
    have ty : s.TypeIs (.ref it) "dict_valueiterator" := ⟨_, st.1, rfl⟩
    refine wpAny_pyIter_slot ty F.slot_dict_valueiterator_iter (wpAny_call_entry F.slot_dict_valueiterator_iter ty entry_dict_valueiterator_iter ?_ (F.args_dict_valueiterator_iter_1 _))
    exact show wpAny _ _ (ret (.ref it)) _ _ s from wpAny_pure ⟨_, rfl, "dict_valueiterator", _, ty, F.slot_dict_valueiterator_next.lookup, q⟩
theorem srcV {v : Addr} : PySem.W.KdlSrc P w "dict_values" v d es.size (fun i u => ∃ en, es[i]? = some en ∧ u = en.val) (fun h => h.get? v = some (vviewObj d) ∧ Lies h d es ep) where
  type := fun _ e => ⟨_, e.1, rfl⟩
  there := fun _ ⟨e1, _, e, _⟩ => ⟨Heap.lt_size e1, Heap.lt_size e⟩
  keep := fun _ _ ⟨e1, o, e, x⟩ k => ⟨k v (.inl rfl) _ e1, o, k d (.inr rfl) _ e, x⟩
  notList := by decide
  notTuple := by decide
  hint := fun _ _ _ _ e q => PySem.W.kdl_hint_values ⟨_, e.1, rfl⟩ q
  iter := fun _ _ hh e => ⟨_, _, fun _ _ q => vals_iter e.1 e.2 q, walksV hh (Nat.ne_of_lt (let ⟨_, z, _⟩ := e.2; Heap.lt_size z)), Heap.get?_push_size _ rfl, let ⟨o, z, x⟩ := e.2; ⟨o, Heap.get?_push_of_some _ z, x⟩⟩
end
def VViewO (v d : Addr) : HO := .ext fun h => h.get? v = some (vviewObj d)
section
variable {X : Cx}
def rValues : V → List V → Hp → VK → Prop := fun x xs H Q => xs = [] ∧ ∃ a kvs, x = .ref a ∧ H a = some (.dT kvs) ∧ ∀ v, H v = none → Q (.ref v) (upd H v (VViewO v a))
def rListV : List V → Hp → VK → Prop := fun xs H Q => ∃ v a kvs, xs = [.ref v] ∧ H v = some (VViewO v a) ∧ H a = some (.dT kvs) ∧ ∀ l, H l = none → Q (.ref l) (upd H l (.lst (kvs.map (·.2))))
end
end L2
namespace L2
open PySem PySem.Spec PyProof.Rows
structure CompScope1 (X : Cx) (x : Str) (sc : Scope) : Prop where
  kind : sc.kind = .function
  spl : ∃ l1 l2, sc.names = l1 ++ (x, .cell) :: l2 ∧ (∀ y ∈ l1, y.2 ≠ .cell) ∧ ∀ y ∈ l2, y.2 ≠ .cell
  look : sc.names.lookup x = some .cell
  locs : ∀ y ∈ sc.names, y.2 = .local → sc.names.lookup y.1 = some .local
  own : ∀ y ∈ X.N.map (hide [x]), sc.names.lookup y ≠ some .local ∧ y ≠ x
  hid : sc.names.lookup (hideStr x) = none
  nd : ([x] ++ X.N.map (hide [x])).Nodup
  free : ∀ y ∈ sc.names, y.2 = .free → X.env.kindOf y.1 = some .cell ∨ X.env.kindOf y.1 = some .free
def cxC1 (X : Cx) (x : Str) (sc : Scope) (C : Addr) (s : Shared) (H : Hp) (fp : List Addr) : Cx where
  prog := X.prog
  w := X.w
  K := X.K
  mg := X.mg
  base := X.base
  A := X.A
  N := [x] ++ X.N.map (hide [x])
  s₀ := s
  H₀ := H
  env := compEnvC sc ((x, C + 1) :: clOf X.env sc) C X.env
  outer := X.stack
  stack := X.stack
  ex := fp
  fn := fun y => y == x
  calm := X.calm
  pn := X.pn
  xe := fun _ _ => False
section
variable {M : Model} {A : Around} {E : Value → Shared → Prop} {s : Shared} {sc : Scope} {x : Str} {cl : List (Str × Addr)} {globals : Addr} {qual : Str} {env : Env}
theorem newEnv1 {Q : Env → Shared → Prop} (hs : ∃ l1 l2, sc.names = l1 ++ (x, .cell) :: l2 ∧ (∀ y ∈ l1, y.2 ≠ .cell) ∧ ∀ y ∈ l2, y.2 ≠ .cell)
    (q : Q { scope := sc, locals := s.heap.objs.size, globals := globals, cells := (x, s.heap.objs.size + 1) :: cl, qual := qual, func := none, code := env.code, frame := env.frame, builtins := env.builtins }
      { s with heap := (s.heap.push { cls := .type "dict", data := .dict #[] }).push { cls := .type "cell", data := .cell none } }) : wpAny M A (newFunctionEnv sc globals cl [] qual none .none (some env)) Q E s := by
  obtain ⟨l1, l2, e, n1, n2⟩ := hs
  unfold newFunctionEnv
  refine wpAny_bind (wpAny_alloc ?_)
  rw [e]
  have sz : (s.heap.push { cls := .type "dict", data := .dict #[] }).objs.size = s.heap.objs.size + 1 := Heap.size_push ..
  refine wpAny_bind (wpAny_forIn_list _ (fun rest cells s' => (∃ l1', rest = l1' ++ (x, .cell) :: l2 ∧ (∀ y ∈ l1', y.2 ≠ .cell) ∧ cells = cl ∧ s' = { s with heap := s.heap.push { cls := .type "dict", data := .dict #[] } }) ∨ ((∀ y ∈ rest, y.2 ≠ .cell) ∧ cells = (x, s.heap.objs.size + 1) :: cl ∧ s' = { s with heap := (s.heap.push { cls := .type "dict", data := .dict #[] }).push { cls := .type "cell", data := .cell none } })) _ (fun z rest b s' hI => ?_) (fun b s' hI => ?_) _ _ (.inl ⟨l1, rfl, n1, rfl, rfl⟩))
  · rcases hI with ⟨l1', er, n1', rfl, rfl⟩ | ⟨n2', rfl, rfl⟩
    · cases l1' with
      | nil =>
        injection er with e1 e2
        subst e1 e2
        dsimp only
        rw [if_pos (by rfl)]
        refine wpAny_bind (wpAny_alloc (wpAny_pure (.inr ⟨n2, ?_, rfl⟩)))
        rw [sz]
      | cons y l1' =>
        injection er with e1 e2
        subst e1 e2
        have ny := n1' z (List.mem_cons_self ..)
        dsimp only
        rw [if_neg (by simpa using ny)]
        exact wpAny_pure (.inl ⟨l1', rfl, fun w hw => n1' w (List.mem_cons_of_mem _ hw), rfl, rfl⟩)
    · have ny := n2' z (List.mem_cons_self ..)
      dsimp only
      rw [if_neg (by simpa using ny)]
      exact wpAny_pure (.inr ⟨fun w hw => n2' w (List.mem_cons_of_mem _ hw), rfl, rfl⟩)
  · rcases hI with ⟨l1', er, _⟩ | ⟨_, rfl, rfl⟩
    · cases l1' <;> cases er
    · refine wpAny_bind (m := forIn [] _ _) ?_
      rw [List.forIn_nil]
      exact wpAny_pure (wpAny_pure q)
end
section
variable {X : Cx} {pins : List (Addr × Obj)} {σ : St} {H : Hp} {s : Shared} {x : Str} {sc : Scope}
theorem comp_inv1 {C : Addr} {fp : List Addr} {h' : Heap} {tk : Nat} {m0 : Str → Option Value} (S : CompScope1 X x sc) (I : Inv X pins σ H s) (hf : ∀ b ∈ fp, FpOk X pins H b) (ho : ∀ b ∈ fp, ∃ o, s.heap.get? b = some o)
    (k : ∀ b o, s.heap.get? b = some o → h'.get? b = some o) (hns : h'.Ns C m0) (hC : s.heap.objs.size ≤ C) (hc1 : h'.IsCell (C + 1) none) : Inv (cxC1 X x sc C s H fp) pins (compSt [x] σ) H { s with heap := h', toks := tk } := by
  have sound : ∀ y c, (clOf X.env sc).lookup y = some c → X.env.cells.lookup y = some c := cl_sound sc.names [] fun y c e => by simp at e
  have at1 : ∀ y c, List.lookup y ((x, C + 1) :: clOf X.env sc) = some c → (y = x ∧ c = C + 1) ∨ (y ≠ x ∧ (clOf X.env sc).lookup y = some c) := fun y c e => by
    rw [List.lookup_cons] at e
    cases hy : y == x with
    | true =>
      rw [hy] at e
      cases e
      exact .inl ⟨eq_of_beq hy, rfl⟩
    | false =>
      rw [hy] at e
      exact .inr ⟨fun z => by rw [z] at hy; simp at hy, e⟩
  have atx : List.lookup x ((x, C + 1) :: clOf X.env sc) = some (C + 1) := by rw [List.lookup_cons]; simp
  have aty : ∀ y, y ≠ x → List.lookup y ((x, C + 1) :: clOf X.env sc) = (clOf X.env sc).lookup y := fun y ny => by
    rw [List.lookup_cons]
    have : (y == x) = false := by simpa using ny
    rw [this]
  have fr : ∀ y, sc.names.lookup y = some .free → X.env.kindOf y = some .cell ∨ X.env.kindOf y = some .free := fun y e => S.free (y, .free) (PySem.mem_of_lookup e) rfl
  have frc : ∀ y, (X.env.kindOf y = some .cell ∨ X.env.kindOf y = some .free) → ∃ c, X.env.cells.lookup y = some c := fun y e => I.ok.has y e
  have onlyx : ∀ y, sc.names.lookup y = some .cell → y = x := fun y e => by
    obtain ⟨l1, l2, en, n1, n2⟩ := S.spl
    have m := PySem.mem_of_lookup e
    rw [en] at m
    rcases List.mem_append.mp m with z | z
    · exact absurd rfl (n1 _ z)
    · rcases List.mem_cons.mp z with z | z
      · injection z
      · exact absurd rfl (n2 _ z)
  have kinds : ∀ {y : Str} {kd : NameKind}, (relabel sc X.env).names.lookup y = some kd → kd = .cell ∨ kd = .free → y = x ∨ sc.names.lookup y = some .free := fun {y kd} e hk => by
    rcases relabel_kind (names := sc.names) e with z | ⟨z, _⟩
    · rcases hk with q | q
      · subst q; exact .inl (onlyx y z)
      · subst q; exact .inr z
    · exact .inr z
  have has : ∀ y, sc.names.lookup y = some .free → ∃ c, (clOf X.env sc).lookup y = some c := fun y e => cl_has sc.names [] y e (frc y (fr y e))
  have hlt : ∀ y c, X.env.cells.lookup y = some c → c < s.heap.objs.size := fun y c e => let ⟨_, z⟩ := I.cell y c e; z.lt
  have kc : ∀ {c v}, s.heap.IsCell c v → h'.IsCell c v := fun {c v} ⟨o, e, d⟩ => ⟨o, k _ _ e, d⟩
  have hasAll : ∀ y, y = x ∨ sc.names.lookup y = some .free → ∃ c, List.lookup y ((x, C + 1) :: clOf X.env sc) = some c := fun y h => by
    by_cases e : y = x
    · rw [e]
      exact ⟨_, atx⟩
    · rcases h with h | h
      · exact absurd h e
      · rw [aty y e]
        exact has y h
  refine ⟨⟨I.ok.mod, S.kind, I.ok.glob, I.ok.blt, hC, fun y z c h1 h2 => ?_, fun y hy => ?_, fun y c z h2 => ?_, I.ok.hd, I.ok.frames, .inl rfl, fun b hb => ⟨?_, fun y c e => ?_⟩, I.bs, Nat.le_trans I.ok.bsz I.sz, fun b o e hb => ?_, fun b hb hs => ?_, I.stack, I.stkFree⟩,
    rfl, I.bare, Un.kept k, ⟨m0, hns, fun i y v e1 e2 e3 => ?_⟩, fun y c e => ?_, I.hok.fresh hC, fun y c e => ?_, fun p hp => ?_, I.hok.kept k, ?_⟩
  · rcases at1 y c h1 with ⟨rfl, rfl⟩ | ⟨_, q1⟩
    · rcases at1 z _ h2 with ⟨rfl, _⟩ | ⟨_, q2⟩
      · rfl
      · exact absurd (Nat.lt_of_lt_of_le (hlt _ _ (sound _ _ q2)) (Nat.le_succ_of_le hC)) (Nat.lt_irrefl _)
    · rcases at1 z c h2 with ⟨rfl, rfl⟩ | ⟨_, q2⟩
      · exact absurd (Nat.lt_of_lt_of_le (hlt _ _ (sound _ _ q1)) (Nat.le_succ_of_le hC)) (Nat.lt_irrefl _)
      · exact I.ok.inj y z c (sound y c q1) (sound z c q2)
  · have hy' : (relabel sc X.env).names.lookup y = some .cell ∨ (relabel sc X.env).names.lookup y = some .free := hy
    rcases hy' with z | z
    · exact hasAll y (kinds z (.inl rfl))
    · exact hasAll y (kinds z (.inr rfl))
  · have ey : y = x := eq_of_beq z
    subst ey
    have h2' : List.lookup y ((y, C + 1) :: clOf X.env sc) = some c := h2
    rw [atx] at h2'
    cases h2'
    exact Nat.le_succ_of_le hC
  · obtain ⟨o, e⟩ := ho b hb
    exact Nat.ne_of_lt (Nat.lt_of_lt_of_le (Heap.lt_size e) hC)
  · rcases at1 y c e with ⟨_, rfl⟩ | ⟨_, q1⟩
    · obtain ⟨o, e⟩ := ho b hb
      exact Nat.ne_of_gt (Nat.lt_succ_of_lt (Nat.lt_of_lt_of_le (Heap.lt_size e) hC))
    · exact (hf b hb).2.2.2.2.1 y c (sound y c q1)
  · obtain ⟨_, _, _, z, _⟩ := hf b hb
    rcases z with z | z
    · exact I.ok.noex b o e z
    · exact absurd (Nat.lt_of_lt_of_le (Heap.lt_size (I.ok.bs b o e).1) z) (Nat.lt_irrefl _)
  · obtain ⟨_, h1, h2, _⟩ := hf b hb
    rcases List.mem_cons.mp (I.stkSub b hs) with z | z
    · exact h1 z
    · exact h2 z
  · have e1' : ([x] ++ X.N.map (hide [x]))[i]? = some y := e1
    have e2' : (List.replicate [x].length none ++ σ)[i]? = some (some v) := e2
    have hi : 1 ≤ i := by
      by_cases z : i < 1
      · have : i = 0 := by omega
        subst this
        cases e2'
      · omega
    rw [List.getElem?_append_right hi] at e1'
    rw [List.getElem?_append_right (by simpa using hi), List.length_replicate] at e2'
    have yN : y ∈ X.N.map (hide [x]) := List.mem_of_getElem? e1'
    obtain ⟨nl, nx⟩ := S.own y yN
    have e3' : (relabel sc X.env).names.lookup y = some .local ∨ (relabel sc X.env).names.lookup y = some .cell ∨ (relabel sc X.env).names.lookup y = some .free := e3
    have isf : sc.names.lookup y = some .free := by
      rcases e3' with z | z | z
      · rcases relabel_kind (names := sc.names) z with q | ⟨_, q⟩
        · exact absurd q nl
        · cases q
      · exact (kinds z (.inl rfl)).resolve_left nx
      · exact (kinds z (.inr rfl)).resolve_left nx
    have e1' : X.N[i - 1]? = some y := by
      have e1'' : (X.N.map (hide [x]))[i - 1]? = some y := e1'
      rw [List.getElem?_map] at e1''
      cases e : X.N[i - 1]? with
      | none => rw [e] at e1''; cases e1''
      | some y0 =>
        rw [e] at e1''
        have e2 : hide [x] y0 = y := Option.some.inj e1''
        unfold hide at e2
        split at e2
        · rename_i hc
          have ey : y0 = x := by simpa using hc
          rw [← e2, ey, S.hid] at isf
          cases isf
        · rw [e2]
    have ok := fr y isf
    obtain ⟨m, _, hl⟩ := I.loc
    obtain ⟨u, r, lk⟩ := hl (i - 1) y v e1' e2' (.inr ok)
    refine ⟨u, r, ?_⟩
    rcases lk with ⟨q, _⟩ | ⟨_, c, ec, hc⟩
    · rcases ok with z | z <;> rw [z] at q <;> cases q
    · obtain ⟨c', e'⟩ := has y isf
      have : c' = c := Option.some.inj ((sound y c' e').symm.trans ec)
      subst this
      refine .inr ⟨?_, c', (aty y nx).trans e', kc hc⟩
      rcases e3' with z | z | z
      · rcases relabel_kind (names := sc.names) z with q | ⟨_, q⟩
        · exact absurd q nl
        · cases q
      · exact .inl z
      · exact .inr z
  · rcases at1 y c e with ⟨_, rfl⟩ | ⟨_, q1⟩
    · exact ⟨none, hc1⟩
    · obtain ⟨v, z⟩ := I.cell y c (sound y c q1)
      exact ⟨v, kc z⟩
  · rcases at1 y c e with ⟨_, rfl⟩ | ⟨_, q1⟩
    · exact I.hok.fresh (Nat.le_succ_of_le hC)
    · exact I.freeC y c (sound y c q1)
  · obtain ⟨e, n, ne, nf, d⟩ := I.pin p hp
    refine ⟨k _ _ e, n, Nat.ne_of_lt (Nat.lt_of_lt_of_le (Heap.lt_size e) hC), fun z => ?_, d⟩
    rcases List.mem_cons.mp (I.stkSub p.1 z) with q | q
    · exact ne q
    · exact nf q
  · show (List.replicate [x].length none ++ σ).length = ([x] ++ X.N.map (hide [x])).length
    rw [List.length_append, List.length_append, List.length_replicate, List.length_map, I.len]
end
section
variable {X : Cx} {pins : List (Addr × Obj)} {σ : St} {H : Hp} {s : Shared} {nm : Str} {sc : Scope} {tg elt iter : Expr} {ifs : List Expr} {pos : Pos} {g : TG} {tt : TT} {te : TE}
theorem comp_block1 {J : It} {fp : List Addr} {it : Addr} {tn : Nat → Heap → Prop} {E : Value → Shared → Prop} {RR : Value → Addr → Result → Shared → Prop} {Fin : List V → Hp → Prop}
    (S : CompScope1 X nm sc) (hc : X.calm = true) (hg : ∀ C s H fp, PG (cxC1 X nm sc C s H fp) tg g) (ht : ∀ C s H fp, PTs (cxC1 X nm sc C s H fp) ifs tt) (he : ∀ C s H fp, PE (cxC1 X nm sc C s H fp) elt te)
    (I : Inv X pins σ H s) (T : Turn X.prog X.w X.K tg J fp it tn) (st : tn 0 s.heap) (hf : ∀ b ∈ fp, FpOk X pins H b) (hW : CompW [nm] g tt te σ J H Fin)
    (hRR : ∀ D C s' H' ys m', Inv X pins σ (upd H' D (.lst ys)) s' → H' D = none → FpOk X pins (upd H' D (.lst ys)) C → s'.heap.Ns C m' → Fin ys H' → RR (.ref D) C (.ok .next) s') :
    wpAny (model X.prog X.w) X.A (newList []) (fun acc s3 => wpAny (model X.prog X.w) X.A (newFunctionEnv sc X.env.globals (clOf X.env sc) [] X.env.qual none .none (some X.env)) (fun cenv s4 =>
      codeAny (model X.prog X.w) X.A (.compStart (.ListComp elt [⟨tg, iter, ifs, 0⟩] sc pos) 0 (.ref it) acc { cenv with scope := relabel sc X.env }) (RR acc cenv.locals) s4) E s3) E s := by
  obtain ⟨W, ⟨m0, w0⟩, turn⟩ := hW
  refine wpAny_newObj_type (newEnv1 S.spl ?_)
  dsimp only
  generalize hH2 : s.heap.push { cls := .type "list", dict := none, data := .seq ([] : List Value).toArray } = H2
  have hC : H2.objs.size = s.heap.objs.size + 1 := by rw [← hH2, Heap.size_push]
  have hns0 := (Heap.Ns.new H2 (.type "dict")).push { cls := .type "cell", data := .cell none }
  have hcell0 : ((H2.push { cls := .type "dict", data := .dict #[] }).push { cls := .type "cell", data := .cell none }).get? (H2.objs.size + 1) = some { cls := .type "cell", data := .cell none } := by
    rw [← Heap.size_push (h := H2) (o := { cls := .type "dict", data := .dict #[] })]
    exact Heap.get?_push_size _ rfl
  have old0 : ∀ b o, H2.get? b = some o → ((H2.push { cls := .type "dict", data := .dict #[] }).push { cls := .type "cell", data := .cell none }).get? b = some o := fun b o e => Heap.get?_push_of_some _ (Heap.get?_push_of_some _ e)
  generalize (H2.push { cls := .type "dict", data := .dict #[] }).push { cls := .type "cell", data := .cell none } = h1 at hns0 hcell0 old0 ⊢
  have hns := hns0
  have hcell : h1.IsCell (H2.objs.size + 1) none := ⟨_, hcell0, rfl⟩
  generalize hCe : H2.objs.size = C at hns hC hcell ⊢
  generalize hDe : s.heap.objs.size = D at hC ⊢
  have hDC : D ≠ C := by omega
  have below : ∀ b o, s.heap.get? b = some o → b ≠ D ∧ b ≠ C := fun b o e => by
    have z : b < s.heap.objs.size := Heap.lt_size e
    rw [hDe] at z
    exact ⟨Nat.ne_of_lt z, Nat.ne_of_lt (by rw [hC]; exact Nat.lt_succ_of_lt z)⟩
  have old : ∀ b o, s.heap.get? b = some o → h1.get? b = some o := fun b o e => old0 b o (hH2 ▸ Heap.get?_push_of_some _ e)
  have hD1 : h1.get? D = some { cls := .type "list", data := .seq ([] : List Value).toArray } := old0 _ _ (by rw [← hH2, ← hDe]; exact Heap.get?_push_size _ rfl)
  have hobj : ∀ b ∈ fp, ∃ o, s.heap.get? b = some o := fun b hb => let ⟨o, e, _⟩ := T.obj 0 _ st b hb; ⟨o, e⟩
  have fne : ∀ b ∈ fp, b ≠ D ∧ b ≠ C := fun b hb => let ⟨o, e⟩ := hobj b hb; below b o e
  -- the frame facts of D and C, from the state ahead
  have fD : ∀ H', H' D = none → FpOk X pins H' D := fun H' n => I.fpOk (by omega) n
  have fC : ∀ H', H' C = none → FpOk X pins H' C := fun H' n => I.fpOk (by omega) n
  have Dpn : ∀ p ∈ X.pn ++ pins, p.1 ≠ D := fun p hp => (below _ _ (I.pin p hp).1).1
  have at1 : ∀ y c, List.lookup y ((nm, C + 1) :: clOf X.env sc) = some c → c = C + 1 ∨ (clOf X.env sc).lookup y = some c := fun y c e => by
    rw [List.lookup_cons] at e
    cases hy : y == nm with
    | true =>
      rw [hy] at e
      cases e
      exact .inl rfl
    | false =>
      rw [hy] at e
      exact .inr e
  have cells : ∀ y c, List.lookup y ((nm, C + 1) :: clOf X.env sc) = some c → c ≠ D := fun y c e => by
    rcases at1 y c e with rfl | e
    · omega
    · have e' := cl_sound sc.names [] (fun y c e => by simp at e) y c e
      obtain ⟨v, z⟩ := I.cell y c e'
      have z' : c < s.heap.objs.size := z.lt
      rw [hDe] at z'
      exact Nat.ne_of_lt z'
  have nfs : ∀ b, b ∈ frs X.stack → ∃ o, s.heap.get? b = some o := fun b hb => let ⟨_, o, ho, _⟩ := I.stack.mem hb; ⟨o, ho⟩
  have Dfs : D ∉ frs X.stack := fun z => let ⟨o, e⟩ := nfs D z; (below _ _ e).1 rfl
  -- an iterator's objects, in the block
  have fpC : ∀ {pl : List (Addr × Obj)} {H' : Hp}, (∀ p ∈ pl, p.1 = D) → (∀ b ∈ fp, H' b = none) → ∀ b ∈ fp, FpOk (cxC1 X nm sc C s H fp) (pins ++ pl) H' b := fun {pl H'} hpl hn b hb => by
    obtain ⟨_, q1, q2, q3, q4, q5⟩ := hf b hb
    refine ⟨hn b hb, (fne b hb).2, fun z => ?_, .inl hb, fun y c e => ?_, fun p hp => ?_⟩
    · rcases List.mem_cons.mp (I.stkSub b z) with y | y
      · exact q1 y
      · exact q2 y
    · rcases at1 y c e with rfl | e
      · obtain ⟨o, eo⟩ := hobj b hb
        have z : b < s.heap.objs.size := Heap.lt_size eo
        rw [hDe] at z
        intro ez
        have z2 : C + 1 < D := by rw [ez]; exact z
        omega
      · exact q4 y c (cl_sound sc.names [] (fun y c e => by simp at e) y c e)
    · rcases List.mem_append.mp hp with z | z
      · exact q5 p (List.mem_append_left _ z)
      · rcases List.mem_append.mp z with y | y
        · exact q5 p (List.mem_append_right _ y)
        · rw [hpl p y]; exact Ne.symm (fne b hb).1
  have loop : ∀ s3 : Shared, s3 = { s with heap := h1 } →
      codeAny (model X.prog X.w) X.A (.compLoop (.ListComp elt [⟨tg, iter, ifs, 0⟩] sc pos) 0 (.ref it) (.ref D) (compEnvC sc ((nm, C + 1) :: clOf X.env sc) C X.env)) (RR (.ref D) C) s3 := by
    rintro s3 rfl
    have I0 : Inv (cxC1 X nm sc C s H fp) pins (compSt [nm] σ) H { s with heap := h1 } := comp_inv1 (tk := s.toks) S I hf hobj old hns (by omega) hcell
    refine comp_loop (fun n s' => ∃ i ys its no H', Inv (cxC1 X nm sc C s H fp) pins (compSt [nm] σ) H' s' ∧ tn i s'.heap ∧ (∀ b ∈ fp, H' b = none) ∧ H' D = none ∧
      s'.heap.get? D = some { cls := .type "list", data := .seq its.toArray no } ∧ Vals ys its ∧ W i n ys H') ?_ m0
      ⟨0, [], [], 0, H, I0, T.keep 0 _ _ st fun b hb o e => old b o e, fun b hb => (hf b hb).1, I.hok.fresh (by omega), hD1, .nil, w0⟩
    rintro n s' ⟨i, ys, its, no, H', I1, st1, fr1, dn1, dl1, va1, w1⟩
    -- the list is pinned through the turn
    have pinD : Inv (cxC1 X nm sc C s H fp) (pins ++ [(D, { cls := .type "list", data := .seq its.toArray no })]) (compSt [nm] σ) H' s' := I1.pins_of fun p hp => by
      rcases List.mem_append.mp hp with z | z
      · exact I1.pin p (List.mem_append_right _ z)
      · have e : p = (D, { cls := .type "list", data := .seq its.toArray no }) := by simpa using z
        subst e
        exact ⟨dl1, dn1, hDC, Dfs, fun v z => by have z' : Data.seq _ _ = Data.cell v := z; cases z'⟩
    have onlyD : ∀ p ∈ [((D, { cls := .type "list", data := .seq its.toArray no }) : Addr × Obj)], p.1 = D := fun p hp => by
      have e : p = (D, { cls := .type "list", data := .seq its.toArray no }) := by simpa using hp
      rw [e]
    rcases turn i n ys H' w1 with ⟨stop, hz, fin⟩ | ⟨go, hz, N, hN, step⟩
    · refine thn (T.done (cxC1 X nm sc C s H fp) rfl rfl rfl hc i _ s' _ H' (fun _ _ => False) pinD (fpC onlyD fr1) st1 stop) fun r s4 ⟨hr, I4⟩ => ?_
      subst hr
      have d4 : s4.heap.get? D = some { cls := .type "list", data := .seq its.toArray no } := (I4.pin (D, _) (List.mem_append_right _ (List.mem_append_right _ (List.mem_cons_self ..)))).1
      have Io : Inv X pins σ H' s4 := I.call' (H' := H') (ch := fp) I4.os I4.base I4.hok I4.bare fun b hb => by
        obtain ⟨_, q1, _, q3, q4, q5⟩ := hf b hb
        exact ⟨q3, q1, q4, q5⟩
      obtain ⟨_, a1, _, a3, a4, a5⟩ := fD H' dn1
      have Ia := Io.adopt hz va1 dn1 d4 (Nat.le_trans I.sz (by omega)) a1 a4 a5
      obtain ⟨m4, ns4, _⟩ := I4.loc
      refine hRR D C s4 H' ys m4 Ia dn1 (fC _ ?_) ns4 fin
      rw [upd_ne (Ne.symm hDC)]
      exact I4.free
    · refine thn (T.item (cxC1 X nm sc C s H fp) rfl rfl rfl hc i _ s' _ H' (fun _ _ => False) pinD (fpC onlyD fr1) st1 go) fun r s4 ⟨u, hr, h4⟩ => ?_
      subst hr
      refine thn h4 fun _ s5 ⟨x, H5, I5, r5, y5, st5, fr5⟩ => ?_
      have I5' := I5.pinned (fpC onlyD fr5) (T.obj _ _ st5)
      refine thn (hg C s H fp _ s5 _ H5 x u _ I5' r5 (step x H5 y5)) fun _ s6 ⟨σ6, H6, I6, k6, q6⟩ => ?_
      refine thn (ht C s H fp _ s6 σ6 H6 _ I6 q6) fun ok s7 ⟨H7, I7, q7⟩ => ?_
      -- back at the head of the loop
      have len6 : (compSt [nm] σ).length = σ6.length := by rw [I1.len, I6.len]
      have pinned : ∀ {H8 : Hp} {s8 : Shared}, Inv (cxC1 X nm sc C s H fp) (pins ++ [(D, { cls := .type "list", data := .seq its.toArray no })] ++ pinsAt fp s5.heap) σ6 H8 s8 →
          tn (i + 1) s8.heap ∧ (∀ b ∈ fp, H8 b = none) ∧ H8 D = none ∧ s8.heap.get? D = some { cls := .type "list", data := .seq its.toArray no } := fun {H8 s8} I8 => by
        refine ⟨T.keep _ _ _ st5 fun b hb o e => (I8.pin (b, o) (List.mem_append_right _ (List.mem_append_right _ (mem_pinsAt hb e)))).1, fun b hb => ?_, ?_, ?_⟩
        · obtain ⟨o, e, d⟩ := T.obj _ _ st5 b hb
          exact (I8.pin (b, o) (List.mem_append_right _ (List.mem_append_right _ (mem_pinsAt hb e)))).2.1
        · exact (I8.pin (D, _) (List.mem_append_right _ (List.mem_append_left _ (List.mem_append_right _ (List.mem_cons_self ..))))).2.1
        · exact (I8.pin (D, _) (List.mem_append_right _ (List.mem_append_left _ (List.mem_append_right _ (List.mem_cons_self ..))))).1
      cases ok with
      | false =>
        rw [if_neg (by decide)] at q7 ⊢
        obtain ⟨m', hm, w7⟩ := hN _ _ q7
        obtain ⟨a1, a2, a3, a4⟩ := pinned I7
        exact ⟨m', hm, i + 1, ys, its, no, H7, (I7.unpinned.unpinned).weak len6 k6, a1, a2, a3, a4, va1, w7⟩
      | true =>
        rw [if_pos rfl] at q7 ⊢
        refine thn (he C s H fp _ s7 σ6 H7 _ I7 q7) fun yv s8 ⟨y, H8, I8, r8, n8⟩ => ?_
        obtain ⟨m', hm, w8⟩ := hN _ _ n8
        obtain ⟨a1, a2, a3, a4⟩ := pinned I8
        have szI : its.toArray.size ≤ sizeLine := by
          have := va1.length
          rw [List.size_toArray]
          omega
        refine wpAny_list_append_plain ⟨no, a4⟩ (fun h' pl sb => ?_) szI
        obtain ⟨no', pl'⟩ := pl
        have I9 : Inv (cxC1 X nm sc C s H fp) pins σ6 H8 { s8 with heap := h' } := (I8.unpinned.unpinned).turned (t' := s8.toks) (it := D) (fun b o hb e => (sb.2 b hb).trans e) a3 hDC (.inr (Nat.le_of_eq hDe)) cells Dpn
        refine ⟨m', hm, i + 1, ys ++ [y], its ++ [yv], no', H8, I9.weak len6 k6, T.keep _ _ _ a1 fun b hb o e => (sb.2 b (fne b hb).1).trans e, a2, a3, ?_, va1.append (.cons r8 .nil), w8⟩
        rw [pl']
        simp
  exact codeAny_compStart_list (loop _ rfl) (T.self _ 0 _ _ _ (T.keep 0 _ _ st fun b hb o e => old b o e) (loop _ rfl))
end
section
variable {X : Cx} {pins : List (Addr × Obj)} {σ : St} {H : Hp} {s : Shared} {sc : Scope} {tg elt iter : Expr} {ifs : List Expr} {pos : Pos} {g : TG} {tt : TT} {te : TE}
theorem lookup_relabel_cell {env : Env} {x : Str} : ∀ {names : List (Str × NameKind)}, names.lookup x = some .cell → (names.map fun (n, k) => if (k == NameKind.free && env.scope.kind == .function && env.kindOf n == some .cell) then (n, NameKind.cell) else (n, k)).lookup x = some .cell
  | [], h => by simp at h
  | (n, k) :: r, h => by
    have ih := @lookup_relabel_cell env x r
    rw [List.lookup_cons] at h
    rw [List.map_cons]
    cases hy : x == n with
    | true =>
      rw [hy] at h
      cases h
      dsimp only
      rw [if_neg (by simp), List.lookup_cons, hy]
    | false =>
      rw [hy] at h
      dsimp only
      split
      · rw [List.lookup_cons, hy]
        exact ih h
      · rw [List.lookup_cons, hy]
        exact ih h
theorem CompScope1.clos {x : Str} (S : CompScope1 X x sc) (I : Inv X pins σ H s) : closureFor sc X.env = pure (clOf X.env sc) :=
  closure_is fun y hy hk => I.ok.has y.1 (S.free y hy hk)
theorem pg_ownN {x : Str} {p : Pos} (S : CompScope1 X x sc) : ∀ C s H fp, PG (cxC1 X x sc C s H fp) (.Name x p) (gName 0) := fun C s H fp =>
  pg_name S.nd rfl (.inr (lookup_relabel_cell S.look)) (.inl (show (x == x) = true by simp))
theorem ps_setCN {wi : TI} {x : Str} {j : Nat} {y : Str} {py spos : Pos} (S : CompScope1 X x sc) (hc : X.calm = true) (hN : X.N.Nodup) (hj : X.N[j]? = some y) (hy : X.env.scope.names.lookup y = some .local) (hi : PI X tg iter wi) (hg : ∀ C s H fp, PG (cxC1 X x sc C s H fp) tg g) (ht : ∀ C s H fp, PTs (cxC1 X x sc C s H fp) ifs tt)
    (he : ∀ C s H fp, PE (cxC1 X x sc C s H fp) elt te) (hsw : swapsWith (.ListComp elt [⟨tg, iter, ifs, 0⟩] sc pos) (some (.Name y py)) spos.line X.env = pure true := by rfl) (hs : ∀ x, foldedSetIterable iter X.env x = pure x := by intro _; rfl) :
    PS X (.Assign [.Name y py] (.ListComp elt [⟨tg, iter, ifs, 0⟩] sc pos) spos) (tAsg (tComp [x] wi g tt te) (gName j)) := by
  intro pins s σ H D I h
  rw [exec_Assign_Name_used _ _ _ _ hsw]
  refine wpAny_bind (wpAny_standAt (wpAny_bind ?_))
  show wpAny _ X.A (do let _ ← comprehension (.ListComp elt [⟨tg, iter, ifs, 0⟩] sc pos) sc X.env _ (newList []) false (eval iter X.env) (some (assign (.Name y py) X.env))) _ _ s
  refine wpAny_bind (wpAny_mono (wpAny_comprehension_free (use := some (assign (.Name y py) X.env)) (Q := fun _ s' => SP X pins D .next s') rfl hs (S.clos I) S.kind S.locs ?_) (fun _ s' hq => wpAny_pure (wpAny_pure hq)) fun _ _ e => e)
  refine thn (hi pins s σ H _ I h) fun v s1 h1 => thn h1 fun itv s2 h2 => ?_
  obtain ⟨it, fp, tn, J, H2, e, I2, T, st2, f2, hW⟩ := h2
  subst e
  refine comp_block1 (RR := fun acc C => compPost (model X.prog X.w) X.A X.xe (some (assign (.Name y py) X.env)) (fun _ s' => SP X pins D .next s') acc C) S hc hg ht he I2 T st2 f2 hW fun D' C s' H' ys m' I' hD fC ns fin => ?_
  obtain ⟨c0, c1, c2, c3, c4, c5⟩ := fC
  show wpAny _ X.A (assign (.Name y py) X.env (.ref D')) _ _ _
  refine wpAny_assign_Name (store_ok2 (v := .ref D') I' hN hj (.inl hy) (show RelV (.ref D') (.ref D') from rfl) (fun s3 I3 ⟨a, sb, ha⟩ => ?_) (.inr hy))
  have hac : a ≠ C := by
    rcases ha with z | z
    · rw [z]; exact Ne.symm c1
    · exact c4 y a z
  refine ⟨m', ns.sameBut sb (Ne.symm hac), fun h' sb' => ⟨_, _, I3.turned (t' := s3.toks) (it := C) (fun b o hb e => (sb'.2 b hb).trans e) c0 c1 c3 c4 c5, fin D' hD⟩⟩
theorem ps_setCN1 {wi : TI} {j : Nat} {x y : Str} {p py spos : Pos} (S : CompScope1 X x sc) (hc : X.calm = true) (hN : X.N.Nodup) (hj : X.N[j]? = some y) (hy : X.env.scope.names.lookup y = some .local) (hi : PI X (.Name x p) iter wi)
    (ht : ∀ C s H fp, PTs (cxC1 X x sc C s H fp) ifs tt) (he : ∀ C s H fp, PE (cxC1 X x sc C s H fp) elt te)
    (hsw : swapsWith (.ListComp elt [⟨.Name x p, iter, ifs, 0⟩] sc pos) (some (.Name y py)) spos.line X.env = pure true := by rfl) (hs : ∀ x, foldedSetIterable iter X.env x = pure x := by intro _; rfl) :
    PS X (.Assign [.Name y py] (.ListComp elt [⟨.Name x p, iter, ifs, 0⟩] sc pos) spos) (tAsg (tComp [x] wi (gName 0) tt te) (gName j)) := ps_setCN S hc hN hj hy hi (pg_ownN S) ht he hsw hs
end
structure CompSc1 (N : List Str) (osc : Scope) (x : Str) (sc : Scope) : Prop where
  kind : sc.kind = .function
  one : (sc.names.filter fun y => y.2 == .cell) = [(x, .cell)]
  look : sc.names.lookup x = some .cell
  locs : ∀ y ∈ sc.names, y.2 = .local → sc.names.lookup y.1 = some .local
  own : ∀ y ∈ N.map (hide [x]), sc.names.lookup y ≠ some .local ∧ y ≠ x
  hid : sc.names.lookup (hideStr x) = none
  nd : ([x] ++ N.map (hide [x])).Nodup
  free : ∀ y ∈ sc.names, y.2 = .free → osc.names.lookup y.1 = some .cell ∨ osc.names.lookup y.1 = some .free
theorem split_one {x : Str} : ∀ {l : List (Str × NameKind)}, (l.filter fun y => y.2 == .cell) = [(x, .cell)] → ∃ l1 l2, l = l1 ++ (x, .cell) :: l2 ∧ (∀ y ∈ l1, y.2 ≠ .cell) ∧ ∀ y ∈ l2, y.2 ≠ .cell
  | [], h => by cases h
  | y :: l, h => by
    rw [List.filter_cons] at h
    by_cases c : (y.2 == NameKind.cell) = true
    · rw [if_pos c] at h
      injection h with h1 h2
      refine ⟨[], l, by rw [h1]; rfl, fun _ z => (nomatch z), fun z hz e => ?_⟩
      have := List.filter_eq_nil_iff.mp h2 z hz
      exact this (by rw [e]; rfl)
    · rw [if_neg c] at h
      obtain ⟨l1, l2, e, n1, n2⟩ := split_one h
      refine ⟨y :: l1, l2, by rw [e]; rfl, fun z hz => ?_, n2⟩
      rcases List.mem_cons.mp hz with rfl | hz
      · exact fun e => c (by rw [e]; rfl)
      · exact n1 z hz
theorem CompSc1.to {X : Cx} {N : List Str} {osc : Scope} {x : Str} {sc : Scope} (h : CompSc1 N osc x sc) (hN : X.N = N := by rfl) (hs : X.env.scope = osc := by rfl) : CompScope1 X x sc := by
  subst hN hs
  exact ⟨h.kind, split_one h.one, h.look, h.locs, h.own, h.hid, h.nd, h.free⟩
def freeOk (sc osc : Scope) : Bool := sc.names.all fun y => !(y.2 == .free) || (osc.names.lookup y.1 == some .cell || osc.names.lookup y.1 == some .free)
theorem CompSc.toN {X : Cx} {N : List Str} {vs : List Str} {sc : Scope} (hN : X.N = N) (k : sc.kind = .function) (c : ∀ y ∈ sc.names, y.2 ≠ .cell) (l : ∀ y ∈ sc.names, y.2 = .local → sc.names.lookup y.1 = some .local) (o : ∀ y ∈ N.map (hide vs), sc.names.lookup y ≠ some .local)
    (h : ∀ y ∈ vs, sc.names.lookup (hideStr y) = none) (nd : (vs ++ N.map (hide vs)).Nodup) (fr : freeOk sc X.env.scope = true) : CompScope X vs sc := by
  subst hN
  refine ⟨k, c, l, o, h, nd, fun y hy e => ?_⟩
  have z := List.all_eq_true.mp fr y hy
  rw [e] at z
  have z' : (X.env.scope.names.lookup y.1 == some .cell || X.env.scope.names.lookup y.1 == some .free) = true := by simpa using z
  rw [Bool.or_eq_true] at z'
  exact z'.imp (fun q => eq_of_beq q) (fun q => eq_of_beq q)
theorem pi_listK {K : W.Frag} {X : Cx} {tg l : Expr} {tl : TE} (hl : PE X l tl) (hK : X.K = K) : PI X tg l (iList K tl) := by
  subst hK
  exact pi_list hl
theorem pi_tupK {K : W.Frag} {X : Cx} {tg l : Expr} {tl : TE} (hl : PE X l tl) (hK : X.K = K) : PI X tg l (iTup K tl) := by
  subst hK
  exact pi_tup hl
end L2
namespace L2
open PySem PySem.Spec PySem.W PyProof.Rows
theorem pairs_at {P : Program} {w : World} : ∀ {es : List DictEntry} {vs : List (Key × Value)}, Pairs (mixKind P w) es vs → ∀ {i : Nat} {en : DictEntry}, es[i]? = some en → ∃ kv, vs[i]? = some kv ∧ keyIs kv.1 en.key = true ∧ en.val = kv.2
  | _, _, .nil, _, _, h => by simp at h
  | _, _, .cons h1 h2 _, 0, _, h => by
    cases h
    exact ⟨_, rfl, h1, h2⟩
  | _, _, .cons _ _ t, i + 1, _, h => by
    obtain ⟨kv, e, x⟩ := pairs_at t (i := i) (by simpa using h)
    exact ⟨kv, by simpa using e, x⟩
theorem key_rel {k : Key} {v : Value} (h : keyIs k v = true) : RelV (kV k) v := by
  rcases keyIs_shape h with ⟨i, t, rfl, rfl⟩ | ⟨x, t, rfl, rfl⟩
  · exact ⟨t, rfl⟩
  · exact ⟨t, rfl⟩
theorem vals_mk : ∀ (l : List V) (m : List Value), m.length = l.length → (∀ (j : Nat) (x : V) (y : Value), l[j]? = some x → m[j]? = some y → RelV x y) → Vals l m
  | [], m, hm, _ => by
    cases List.length_eq_zero_iff.mp hm
    exact .nil
  | x :: l, [], hm, _ => by cases hm
  | x :: l, y :: m, hm, hr => .cons (hr 0 x y rfl rfl) (vals_mk l m (by simpa using hm) fun j x' y' h1 h2 => hr (j + 1) x' y' (by simpa using h1) (by simpa using h2))
section
variable {X : Cx}
theorem dk_lies {pins : List (Addr × Obj)} {σ : St} {H : Hp} {s : Shared} {d : Addr} {kvs : List (Key × V)} (I : Inv X pins σ H s) (h : H d = some (.dK kvs)) : ∃ es ep, Lies s.heap d es ep ∧ (d == sysModules) = false ∧ es.size = kvs.length ∧ kvs.length ≤ sizeLine ∧ (kvs.map (·.1)).Nodup ∧ ∀ (i : Nat) (en : DictEntry), es[i]? = some en → ∃ kv, kvs[i]? = some kv ∧ RelV (kV kv.1) en.key ∧ RelV kv.2 en.val := by
  obtain ⟨z, nm, vs, rel, o, es, ep, e1, e2, e3, e4, e5, nd⟩ := dk_of I.hok h
  have l1 : kvs.length = vs.length := Paired.length rel
  have l2 := e5.length
  rw [Array.length_toList] at l2
  refine ⟨es, ep, ⟨o, e1, e2, e3⟩, nm, by omega, z, ?_, fun i en he => ?_⟩
  · have : kvs.map (·.1) = vs.map (·.1) := by
      refine List.ext_getElem? fun i => ?_
      rw [List.getElem?_map, List.getElem?_map]
      cases ek : kvs[i]? with
      | none => rw [List.getElem?_eq_none (by rw [← l1]; exact List.getElem?_eq_none_iff.mp ek)]; rfl
      | some p =>
        obtain ⟨q, ey, p1, _⟩ := paired_at rel ek
        rw [ey]
        exact congrArg some p1
    rw [this]
    exact nd
  · obtain ⟨kv, ev, k1, k2⟩ := pairs_at e5 (i := i) (en := en) (by rw [Array.getElem?_toList]; exact he)
    have li : i < kvs.length := by rw [l1]; exact (List.getElem?_eq_some_iff.mp ev).1
    obtain ⟨p, ep'⟩ : ∃ p, kvs[i]? = some p := ⟨_, List.getElem?_eq_getElem li⟩
    obtain ⟨q, ey, p1, p2⟩ := paired_at rel ep'
    rw [ev] at ey
    cases ey
    refine ⟨p, ep', ?_, by rw [k2]; exact p2⟩
    have p1' : p.1 = kv.1 := p1
    rw [p1']
    exact key_rel k1
def rListKI : List V → Hp → VK → Prop := fun xs H Q => ∃ d kvs, xs = [V.ref d] ∧ H d = some (.dK kvs) ∧ ∀ l, H l = none → Q (.ref l) (upd H l (.lst (kvs.map fun kv => kV kv.1)))
theorem call_list_keysI (hc : X.calm = true) : CallR X (.type "list") rListKI := by
  intro pins s σ H xs us Q I r h
  obtain ⟨d, kvs, rfl, hd, q⟩ := h
  obtain ⟨u, rfl, ru⟩ := vals1 r
  cases ru
  obtain ⟨es, ep, L, nm, le, fit, _, at'⟩ := dk_lies I hd
  refine kdl_call (srcK nm) (I.ok.hd hc) L (by omega) fun h' tk acc c keep eD it => ?_
  have I1 : Inv X pins σ H { s with heap := h', toks := tk } := I.kept keep
  refine ⟨.ref s.heap.objs.size, _, Inv.trackNew I I1 (o := .lst (kvs.map fun kv => kV kv.1)) ⟨by rw [List.length_map]; exact fit, acc.toList, c, vals_mk _ _ (by rw [List.length_map, ← le, Array.length_toList, it.1]) fun j x y ex ey => ?_, by simpa using eD⟩, rfl, q _ I.fresh⟩
  rw [List.getElem?_map] at ex
  obtain ⟨kv, ek, rfl⟩ := Option.map_eq_some_iff.mp ex
  rw [Array.getElem?_toList] at ey
  obtain ⟨en, ee, rfl⟩ := it.2 j y ey
  obtain ⟨kv', ek', r1, _⟩ := at' j en ee
  rw [ek] at ek'
  cases ek'
  exact r1
def rValuesI : V → List V → Hp → VK → Prop := fun x xs H Q => xs = [] ∧ ∃ a kvs, x = .ref a ∧ H a = some (.dK kvs) ∧ ∀ v, H v = none → Q (.ref v) (upd H v (VViewO v a))
theorem mt_valuesI : MtR X "dict.values" rValuesI := by
  intro pins s σ H x xs u us Q I r1 r2 h
  obtain ⟨rfl, a, kvs, rfl, ha, q⟩ := h
  cases r1
  cases r2
  obtain ⟨es, ep, L, na, _⟩ := dk_lies I ha
  refine vals_view na L ⟨.ref s.heap.objs.size, _, I.laid (a := s.heap.objs.size) (o := VViewO s.heap.objs.size a) (t' := s.toks) (fun _ _ q => Heap.get?_push_of_some _ q) (Nat.le_refl _) ?_, rfl, q _ I.fresh⟩
  have e : (s.heap.push (vviewObj a)).get? s.heap.objs.size = some (vviewObj a) := Heap.get?_push_size _ rfl
  exact ⟨e, ⟨_, e⟩, fun h1 h2 y k => k _ y⟩
def rListVI : List V → Hp → VK → Prop := fun xs H Q => ∃ v a kvs, xs = [.ref v] ∧ H v = some (VViewO v a) ∧ H a = some (.dK kvs) ∧ ∀ l, H l = none → Q (.ref l) (upd H l (.lst (kvs.map (·.2))))
theorem call_list_valsI (hc : X.calm = true) : CallR X (.type "list") rListVI := by
  intro pins s σ H xs us Q I r h
  obtain ⟨v, a, kvs, rfl, hv, ha, q⟩ := h
  obtain ⟨u, rfl, ru⟩ := vals1 r
  cases ru
  obtain ⟨ev, _, _⟩ := I.hok v _ hv
  obtain ⟨es, ep, L, na, le, fit, _, at'⟩ := dk_lies I ha
  refine kdl_call (srcV (v := v)) (I.ok.hd hc) ⟨ev, L⟩ (by omega) fun h' tk acc c keep eD it => ?_
  have I1 : Inv X pins σ H { s with heap := h', toks := tk } := I.kept keep
  refine ⟨.ref s.heap.objs.size, _, Inv.trackNew I I1 (o := .lst (kvs.map (·.2))) ⟨by rw [List.length_map]; exact fit, acc.toList, c, vals_mk _ _ (by rw [List.length_map, ← le, Array.length_toList, it.1]) fun j x y ex ey => ?_, by simpa using eD⟩, rfl, q _ I.fresh⟩
  rw [List.getElem?_map] at ex
  obtain ⟨kv, ek, rfl⟩ := Option.map_eq_some_iff.mp ex
  rw [Array.getElem?_toList] at ey
  obtain ⟨en, ee, rfl⟩ := it.2 j y ey
  obtain ⟨kv', ek', _, r1⟩ := at' j en ee
  rw [ek] at ek'
  cases ek'
  exact r1
end
theorem idx_key {P : Program} {w : World} : ∀ {es : List DictEntry} {vs : List (Key × Value)}, Pairs (mixKind P w) es vs → (vs.map (·.1)).Nodup → ∀ {i : Nat} {kv : Key × Value}, vs[i]? = some kv → (es.findIdx? fun e => keyIs kv.1 e.key) = some i := by
  intro es vs h nd i kv hi
  have z : (es.findIdx? fun e => (mixKind P w).is kv.1 e.key) = vs.findIdx? fun p => decide (p.1 = kv.1) := h.findIdx kv.1
  refine z.trans ?_
  obtain ⟨li, ei⟩ := List.getElem?_eq_some_iff.mp hi
  rw [List.findIdx?_eq_some_iff_getElem]
  refine ⟨li, by rw [ei]; exact decide_eq_true rfl, fun j hj hd => ?_⟩
  have e : vs[j].1 = kv.1 := of_decide_eq_true hd
  have lj : j < vs.length := Nat.lt_trans hj li
  have ij : j = i := (List.getElem?_inj (by rw [List.length_map]; exact lj) nd).mp (by rw [List.getElem?_map, List.getElem?_map, hi, List.getElem?_eq_getElem lj]; exact congrArg some e)
  omega
section
variable {prog : Program} {w : World} {K : Type} [DecidableEq K] {knd : KeyKind prog w K} {A : Around} {E : Value → Shared → Prop} {s : Shared}
theorem samePairs_of {id : String} {a b : Addr} {o1 o2 : Obj} {es1 es2 : Array DictEntry} {ep1 ep2} {p : Nat → Bool} {Q : Bool → Shared → Prop} (na : (a == sysModules) = false) (nb : (b == sysModules) = false) (g1 : s.heap.get? a = some o1) (d1 : o1.data = .dict es1 ep1) (g2 : s.heap.get? b = some o2) (d2 : o2.data = .dict es2 ep2)
    (hk : KeysOf knd es2) (sz : es1.size = es2.size)
    (each : ∀ (i : Nat) e1, es1[i]? = some e1 → ∃ k e2, knd.is k e1.key = true ∧ e1.hash = knd.hash k ∧ (es2.findIdx? fun e => knd.is k e.key) = some i ∧ es2[i]? = some e2 ∧ ∃ x t y u, e1.val = .int x t ∧ e2.val = .int y u ∧ (x == y) = p i)
    (q : ∀ r, (r = true ↔ ∀ i, i < es1.size → p i = true) → Q r s) : wpAny (model prog w) A (Builtin.Dict.samePairs id a b) Q E s := by
  have sh : ∀ d : Addr, (d == sysModules) = false → Builtin.Dict.showsAll d = pure () := fun d h => by
    unfold Builtin.Dict.showsAll
    rw [h]
    rfl
  unfold Builtin.Dict.samePairs
  rw [sh a na, sh b nb]
  refine wpAny_bind (wpAny_pure (wpAny_bind (wpAny_pure (wpAny_bind (wpAny_dictEntries g1 d1 (wpAny_bind (wpAny_dictEntries g2 d2 ?_)))))))
  rw [if_neg (by rw [sz]; simp)]
  refine wpAny_bind (wpAny_dictEpoch g1 d1 (wpAny_bind ?_))
  rw [Std.Legacy.Range.forIn_eq_forIn_range']
  simp only [Std.Legacy.Range.size, Nat.sub_zero, Nat.add_sub_cancel, Nat.div_one]
  refine wpAny_forIn_list _ (fun rest r s' => r.1 = none ∧ s' = s ∧ ∃ i, rest = List.range' i (es1.size - i) ∧ i ≤ es1.size ∧ ∀ j, j < i → p j = true) _ ?_ ?_ _ _ ⟨rfl, rfl, 0, by simp, Nat.zero_le _, fun j h => absurd h (Nat.not_lt_zero j)⟩
  · rintro x rest r s' ⟨hr0, hs', i, hr, hi, done⟩
    subst hs'
    have hlt : i < es1.size := by
      rcases Nat.lt_or_ge i es1.size with h | h
      · exact h
      · rw [Nat.sub_eq_zero_of_le h] at hr; simp at hr
    obtain ⟨rfl, hrest⟩ : x = i ∧ rest = List.range' (i + 1) (es1.size - (i + 1)) := by
      have e : es1.size - i = (es1.size - (i + 1)) + 1 := by omega
      rw [e, List.range'_succ] at hr
      injection hr with h1 h2
      exact ⟨h1, h2⟩
    refine wpAny_bind (wpAny_dictEntries g1 d1 ?_)
    obtain ⟨k, e2, k1, k2, k3, k4, xv, t, yv, u, v1, v2, v3⟩ := each x es1[x] (Array.getElem?_eq_getElem hlt)
    rw [Array.getElem?_eq_getElem hlt]
    refine wpAny_bind (wpAny_holding (wpAny_bind ?_))
    rw [k2]
    refine wpAny_dictFind_of k1 g2 d2 hk ?_
    rw [k3]
    refine wpAny_bind (wpAny_dictEntries g2 d2 ?_)
    rw [k4]
    refine wpAny_holding ?_
    rw [v1, v2]
    refine wpAny_eqBool_int ?_
    rw [v3]
    cases hp : p x with
    | false =>
      refine wpAny_pure ?_
      exact wpAny_pure (q false ⟨fun z => (by cases z), fun z => (by rw [z x hlt] at hp; cases hp)⟩)
    | true =>
      refine wpAny_bind (wpAny_dictEpoch g1 d1 ?_)
      rw [if_neg (by simp)]
      refine wpAny_pure ⟨rfl, rfl, x + 1, hrest, hlt, fun j hj => ?_⟩
      by_cases e : j = x
      · rw [e]; exact hp
      · exact done j (by omega)
  · rintro ⟨r1, r2⟩ s' ⟨hr0, hs', i, hr, hi, done⟩
    subst hs'
    simp only at hr0
    subst hr0
    have hin : i = es1.size := by
      have z := congrArg List.length hr
      rw [List.length_range'] at z
      simp at z
      omega
    subst hin
    exact wpAny_pure (q true ⟨fun _ => done, fun _ => rfl⟩)
theorem eqDict_of {a b : Addr} {o1 o2 : Obj} {es1 es2 : Array DictEntry} {ep1 ep2} {p : Nat → Bool} {Q : Value → Shared → Prop} (hu : A.units < cLine) (na : (a == sysModules) = false) (nb : (b == sysModules) = false) (g1 : s.heap.get? a = some o1) (x1 : o1.ExactDict) (d1 : o1.data = .dict es1 ep1) (g2 : s.heap.get? b = some o2) (x2 : o2.ExactDict) (d2 : o2.data = .dict es2 ep2)
    (hk : KeysOf knd es2) (sz : es1.size = es2.size)
    (each : ∀ (i : Nat) e1, es1[i]? = some e1 → ∃ k e2, knd.is k e1.key = true ∧ e1.hash = knd.hash k ∧ (es2.findIdx? fun e => knd.is k e.key) = some i ∧ es2[i]? = some e2 ∧ ∃ x t y u, e1.val = .int x t ∧ e2.val = .int y u ∧ (x == y) = p i)
    (q : ∀ r, (r = true ↔ ∀ i, i < es1.size → p i = true) → Q (.bool r) s) : wpAny (model prog w) A (compareOp .Eq (.ref a) (.ref b)) Q E s := by
  have ta : s.TypeIs (.ref a) "dict" := ⟨o1, g1, x1.1⟩
  have tb : s.TypeIs (.ref b) "dict" := ⟨o2, g2, x2.1⟩
  show wpAny _ _ (richCompare .Eq (.ref a) (.ref b)) _ _ _
  refine wpAny_richCompare_same_room (op := .Eq) ta tb F.slot_dict_eq (wpAny_call_entry F.slot_dict_eq ta F.entry_dict_eq ?_ (F.args_dict_eq_2 _ _)) hu
  show wpAny _ _ (Builtin.Dict.dictSlotArgs "__eq__" ⟨[.ref a, .ref b], []⟩ >>= _) _ _ s
  refine wpAny_bind ?_
  unfold Builtin.Dict.dictSlotArgs
  refine wpAny_bind (wpAny_notOrdered_dict ta ?_)
  show wpAny _ _ (pure (Value.ref a, Value.ref b)) _ _ s
  refine wpAny_pure ?_
  refine wpAny_bind (wpAny_isInstance tb isSubtype_dict_dict ?_)
  simp only [Bool.not_true, Bool.false_eq_true, if_false]
  show wpAny _ _ (Builtin.Dict.samePairs _ a b >>= _) _ _ s
  refine wpAny_bind (samePairs_of na nb g1 d1 g2 d2 hk sz each fun r hr => wpAny_pure ⟨_, rfl, (fun e => nomatch e), ?_⟩)
  have e : (r == true) = r := by cases r <;> rfl
  rw [e]
  exact q r hr
end
section
variable {X : Cx}
def kvZ (f : Key × Int × Int → Int) (zs : List (Key × Int × Int)) : List (Key × V) := zs.map fun p => (p.1, V.int (f p))
def rEqDI : R2 := fun x y H Q => ∃ (a b : Addr) (zs : List (Key × Int × Int)), x = .ref a ∧ y = .ref b ∧ H a = some (.dK (kvZ (·.2.1) zs)) ∧ H b = some (.dK (kvZ (·.2.2) zs)) ∧ ∀ r, (r = true ↔ ∀ p ∈ zs, p.2.1 = p.2.2) → Q (.bl r) H
def eqAt (zs : List (Key × Int × Int)) (i : Nat) : Bool := (zs[i]?.map fun p => p.2.1 == p.2.2).getD true
theorem op_eqDI (hu : X.A.units + 64 < cLine) : OpR X (compareOp .Eq) rEqDI := by
  intro pins s σ H x y v u Q I rx ry h
  obtain ⟨a, b, zs, rfl, rfl, ha, hb, q⟩ := h
  cases rx
  cases ry
  obtain ⟨z, na, vs, rel, o, es, ep, e1, e2, e3, e4, e5, nd⟩ := dk_of I.hok ha
  obtain ⟨z', nb, vs', rel', o', es', ep', f1, f2, f3, f4, f5, nd'⟩ := dk_of I.hok hb
  have l1 : zs.length = vs.length := by rw [← Paired.length rel]; unfold kvZ; rw [List.length_map]
  have l2 : zs.length = vs'.length := by rw [← Paired.length rel']; unfold kvZ; rw [List.length_map]
  have m1 := e5.length
  have m2 := f5.length
  rw [Array.length_toList] at m1 m2
  refine eqDict_of (knd := mixKind X.prog X.w) (p := eqAt zs) (by omega) na nb e1 e2 e3 f1 f2 f3 f4 (by omega) (fun i en he => ?_) fun r hr => ⟨.bl r, H, I, rfl, q r ?_⟩
  · have li : i < zs.length := by
      have := (Array.getElem?_eq_some_iff.mp he).1
      omega
    obtain ⟨p, hp⟩ : ∃ p, zs[i]? = some p := ⟨_, List.getElem?_eq_getElem li⟩
    obtain ⟨kv, ev, k1, k2⟩ := pairs_at e5 (i := i) (en := en) (by rw [Array.getElem?_toList]; exact he)
    obtain ⟨q1, eq1, p1, p2⟩ := paired_at rel (j := i) (a := (p.1, V.int p.2.1)) (by unfold kvZ; rw [List.getElem?_map, hp]; rfl)
    rw [ev] at eq1
    cases eq1
    obtain ⟨kv', ev', p1', p2'⟩ := paired_at rel' (j := i) (a := (p.1, V.int p.2.2)) (by unfold kvZ; rw [List.getElem?_map, hp]; rfl)
    obtain ⟨en', he'⟩ : ∃ e, es'[i]? = some e := ⟨_, Array.getElem?_eq_getElem (by omega)⟩
    obtain ⟨kv2, ev2, k1', k2'⟩ := pairs_at f5 (i := i) (en := en') (by rw [Array.getElem?_toList]; exact he')
    rw [ev'] at ev2
    cases ev2
    have pa : p.1 = kv.1 := p1
    have pb : p.1 = kv'.1 := p1'
    have kk : kv'.1 = kv.1 := pb.symm.trans pa
    obtain ⟨k0, h1, h2⟩ := e4 en (Array.mem_of_getElem? he)
    have ek : k0 = kv.1 := (mixKind X.prog X.w).inj _ _ _ h1 k1
    have fi : (es'.findIdx? fun e => (mixKind X.prog X.w).is kv.1 e.key) = some i := by
      have z1 := idx_key f5 nd' ev'
      rw [kk] at z1
      have z2 : (es'.findIdx? fun e => (mixKind X.prog X.w).is kv.1 e.key) = es'.toList.findIdx? fun e => (mixKind X.prog X.w).is kv.1 e.key := by obtain ⟨l⟩ := es'; simp
      rw [z2]
      exact z1
    obtain ⟨t1, et1⟩ := (show RelV (V.int p.2.1) kv.2 from p2)
    obtain ⟨t2, et2⟩ := (show RelV (V.int p.2.2) kv'.2 from p2')
    refine ⟨kv.1, en', k1, by rw [h2, ek], fi, he', p.2.1, t1, p.2.2, t2, by rw [k2, et1], by rw [k2', et2], ?_⟩
    unfold eqAt
    rw [hp]
    rfl
  · rw [hr]
    constructor
    · intro h p hp
      obtain ⟨i, ei⟩ := List.mem_iff_getElem?.mp hp
      have li := (List.getElem?_eq_some_iff.mp ei).1
      have y := h i (by omega)
      unfold eqAt at y
      rw [ei] at y
      exact eq_of_beq y
    · intro h i _
      unfold eqAt
      cases ei : zs[i]? with
      | none => rfl
      | some p => exact beq_iff_eq.mpr (h p (List.mem_of_getElem? ei))
end
end L2
namespace L2
open PySem
section
variable {prog : Program} {w : World} {K : Type} [DecidableEq K] (knd : KeyKind prog w K)
def IsPairKey (h : Heap) (p : K × List K) (a : Addr) : Prop := ∃ o v b n, h.get? a = some o ∧ o.cls = .type "tuple" ∧ o.data = .seq #[v, .ref b] n ∧ knd.is p.1 v = true ∧ IsTupleKey knd h p.2 b
def pairHash (p : K × List K) : Int := reduceHash (Builtin.Tuple.tupleHashOf [knd.hash p.1, tupleKeyHash knd p.2])
variable {knd}
theorem IsPairKey.typeIs {s : Shared} {p : K × List K} {a : Addr} (x : IsPairKey knd s.heap p a) : s.TypeIs (.ref a) "tuple" := let ⟨o, _, _, _, ho, hc, _⟩ := x; ⟨o, ho, hc⟩
theorem IsPairKey.inj {h : Heap} {a : Addr} {x y : K × List K} (hx : IsPairKey knd h x a) (hy : IsPairKey knd h y a) : x = y := by
  obtain ⟨o, v, b, n, ho, _, hd, i1, i2⟩ := hx
  obtain ⟨o', v', b', n', ho', _, hd', j1, j2⟩ := hy
  obtain rfl : o = o' := Option.some.inj (ho.symm.trans ho')
  rw [hd] at hd'
  injection hd' with h1 _
  have e : v = v' ∧ b = b' := by simpa using h1
  obtain ⟨rfl, rfl⟩ := e
  exact Prod.ext (knd.inj _ _ _ i1 j1) (i2.inj j2)
theorem IsPairKey.keeps {h h' : Heap} {p : K × List K} {a d : Addr} {o : Obj} {es ep} (x : IsPairKey knd h p a) (ho : h.get? d = some o) (hd : o.data = .dict es ep) (hs : Heap.SameBut d h h') : IsPairKey knd h' p a := by
  obtain ⟨o', v, b, n, ho', hc, hd', i1, i2⟩ := x
  have hne : a ≠ d := by
    rintro rfl
    obtain rfl : o' = o := Option.some.inj (ho'.symm.trans ho)
    rw [hd] at hd'; exact nomatch hd'
  exact ⟨o', v, b, n, (hs.2 a hne).trans ho', hc, hd', i1, i2.keeps ho hd hs⟩
variable {A : Around} {E : Value → Shared → Prop} {s : Shared}
theorem pyHash_pair {p : K × List K} {a : Addr} {Q : Int → Shared → Prop} (hu : A.units + 2 < cLine) (hk : IsPairKey knd s.heap p a) (h : Q (pairHash knd p) { s with toks := s.toks + (p.2.length + 3) }) : wpAny (model prog w) A (pyHash (.ref a)) Q E s := by
  have hT := hk.typeIs
  obtain ⟨o, v, b, n, ho, _, hd, i1, i2⟩ := hk
  have hu0 : A.units < cLine := by omega
  unfold pyHash
  first | unfold pyHashByItsType | skip
  first | refine wpAny_bind (wpAny_cRoomFor_or (.inr hu0) ?_) | skip
  refine wpAny_bind (wpAny_specialOf hT F.slot_tuple_hash.lookup ?_)
  show wpAny _ _ (if (some (Value.builtin "tuple.__hash__") == some Value.none) = true then _ else _) Q E s
  rw [if_neg (by rw [beq_builtin_none]; exact Bool.false_ne_true)]
  refine wpAny_bind (wpAny_specialOf hT F.slot_tuple_hash.lookup ?_)
  show wpAny _ _ (callSpecialIfBoundUnlessNone? (.ref a) "__hash__" _ >>= _) Q E s
  refine wpAny_bind (wpAny_callSpecialIfBoundUnlessNone?_slot hT F.slot_tuple_hash (wpAny_call_entry F.slot_tuple_hash hT F.entry_tuple_hash ?_ (F.args_tuple_hash_1 _)))
  show wpAny _ _ (Builtin.Tuple.tupleItemsOf (.ref a) >>= _) _ _ s
  refine wpAny_bind (wpAny_tupleItemsOf ho hd ?_)
  refine wpAny_bind ?_
  rw [← Array.forIn_toList]
  simp only [List.forIn_cons, List.forIn_nil]
  refine wpAny_bind (wpAny_bind (knd.pyHash i1 ?_))
  refine wpAny_pure (wpAny_bind (wpAny_bind (wpAny_pyHash_tuple (knd := knd) (A := A.in1) (show A.units + 1 < cLine by omega) i2 ?_)))
  refine wpAny_pure (wpAny_pure ?_)
  show wpAny _ _ (retInt (Builtin.Tuple.tupleHashOf [knd.hash p.1, tupleKeyHash knd p.2])) _ _ _
  refine wpAny_ret_mkInt ?_
  show wpAny _ _ (if (decide (-(2 : Int) ^ 63 ≤ Builtin.Tuple.tupleHashOf [knd.hash p.1, tupleKeyHash knd p.2]) && decide (Builtin.Tuple.tupleHashOf [knd.hash p.1, tupleKeyHash knd p.2] < 2 ^ 63)) = true then _ else _) Q E _
  unfold pairHash reduceHash at h
  have et : s.toks + 1 + (p.2.length + 1) + 1 = s.toks + (p.2.length + 3) := by omega
  by_cases hr : (decide (-(2 : Int) ^ 63 ≤ Builtin.Tuple.tupleHashOf [knd.hash p.1, tupleKeyHash knd p.2]) && decide (Builtin.Tuple.tupleHashOf [knd.hash p.1, tupleKeyHash knd p.2] < 2 ^ 63)) = true
  · rw [if_pos hr]
    rw [if_pos hr] at h
    exact wpAny_pure (by simpa [et] using h)
  · rw [if_neg hr]
    rw [if_neg hr] at h
    exact wpAny_bind (wpAny_rule (wpAny_pure (by simpa [et] using h)))
theorem pair_eq_tree {x y : K × List K} {a b : Addr} {P : Fin → Shared → Prop} (hu : A.units + 1 < cLine) (hx : IsPairKey knd s.heap x a) (hy : IsPairKey knd s.heap y b) (h : P (.done (.ret (.bool (decide (x = y))))) s) :
    wpAny (model prog w) A (Builtin.«tuple.__eq__» ⟨[.ref a, .ref b], []⟩) P E s := by
  have hTb := hy.typeIs
  obtain ⟨oa, va, ba, na, hoa, _, hda, i1, i2⟩ := hx
  obtain ⟨ob, vb, bb, nb, hob, _, hdb, j1, j2⟩ := hy
  show wpAny _ _ (isInstance (.ref b) (.type "tuple") >>= _) _ _ s
  refine wpAny_bind (wpAny_isInstance hTb isSubtype_tuple_tuple ?_)
  simp only [Bool.not_true, Bool.false_eq_true, if_false]
  refine wpAny_bind (wpAny_tupleItemsOf hoa hda ?_)
  refine wpAny_bind (wpAny_tupleItemsOf hob hdb ?_)
  refine wpAny_bind ?_
  show wpAny _ _ (forIn [(va, vb), (Value.ref ba, Value.ref bb)] _ _) _ _ s
  simp only [List.forIn_cons, List.forIn_nil]
  refine wpAny_bind (wpAny_bind (knd.eqBool (a := x.1) (b := y.1) i1 j1 ?_))
  by_cases h1 : x.1 = y.1
  · rw [decide_eq_true h1]
    simp only [Bool.not_true, Bool.false_eq_true, if_false]
    refine wpAny_pure (wpAny_bind (wpAny_bind (wpAny_eqBool_tuple (knd := knd) (show A.units < cLine by omega) i2 j2 ?_)))
    by_cases h2 : x.2 = y.2
    · rw [decide_eq_true h2]
      have e : decide (x = y) = true := decide_eq_true (Prod.ext h1 h2)
      rw [e] at h
      simp only [Bool.not_true, Bool.false_eq_true, if_false]
      exact wpAny_pure (wpAny_pure (wpAny_pure h))
    · rw [decide_eq_false h2]
      have e : decide (x = y) = false := decide_eq_false fun z => h2 (by rw [z])
      rw [e] at h
      simp only [Bool.not_false, if_true]
      exact wpAny_bind (wpAny_pure (wpAny_pure (wpAny_pure (wpAny_pure h))))
  · rw [decide_eq_false h1]
    have e : decide (x = y) = false := decide_eq_false fun z => h1 (by rw [z])
    rw [e] at h
    simp only [Bool.not_false, if_true]
    exact wpAny_bind (wpAny_pure (wpAny_pure (wpAny_pure (wpAny_pure h))))
theorem eqBool_pair {x y : K × List K} {a b : Addr} {Q : Bool → Shared → Prop} (hu : A.units + 2 < cLine) (hx : IsPairKey knd s.heap x a) (hy : IsPairKey knd s.heap y b) (h : Q (decide (x = y)) s) :
    wpAny (model prog w) A (eqBool (.ref a) (.ref b)) Q E s := by
  have hu0 : A.units < cLine := by omega
  unfold eqBool
  try with_reducible refine wpAny_holding ?_
  show wpAny _ _ (if (Value.ref a == Value.ref b) = true then _ else _) Q E s
  by_cases hab : (Value.ref a == Value.ref b) = true
  · rw [if_pos hab]
    have e : a = b := by have := eq_of_beq hab; injection this
    subst e
    obtain rfl := hx.inj hy
    exact wpAny_bind (wpAny_rule (wpAny_pure (by simpa using h)))
  · rw [if_neg hab]
    exact wpAny_bind (wpAny_richCompare_same_room (op := .Eq) hx.typeIs hy.typeIs F.slot_tuple_eq
      (wpAny_call_entry F.slot_tuple_eq hx.typeIs F.entry_tuple_eq (pair_eq_tree (show A.units + 1 + 1 < cLine by omega) hx hy ⟨_, rfl, (fun e => nomatch e), wpAny_truthy_bool h⟩) (F.args_tuple_eq_2 _ _)) hu0)
theorem quiet_in {ks : List K} {a : Addr} {Q : Bool → Shared → Prop} (n : Nat) (hk : IsTupleKey knd s.heap ks a) (h : Q true s) : wpAny (model prog w) A (eqIsQuiet (n + 1) (.ref a)) Q E s := by
  have hT := hk.typeIs
  obtain ⟨o, items, n, ho, _, hd, hi⟩ := hk
  unfold eqIsQuiet
  refine wpAny_bind (wpAny_specialOf hT F.slot_tuple_eq.lookup ?_)
  show wpAny _ _ (isInstance (.ref a) (.type "tuple") >>= _) _ _ s
  refine wpAny_bind (wpAny_isInstance hT isSubtype_tuple_tuple ?_)
  simp only [Bool.not_true, Bool.false_eq_true, if_false]
  refine wpAny_bind (wpAny_seqItems ho hd ?_)
  refine wpAny_bind ?_
  show wpAny _ _ (forIn items _ _) _ _ s
  rw [← Array.forIn_toList]
  refine wpAny_forIn_list _ (fun rest r s' => r.1 = none ∧ s' = s ∧ ∀ v ∈ rest, carriedByValue v = true) _ ?_ ?_ _ _ ⟨rfl, rfl, hi.byValue⟩
  · rintro v rest r s' ⟨hr, rfl, hall⟩
    rw [eqIsQuiet_byValue _ (hall v List.mem_cons_self)]
    refine wpAny_bind (wpAny_pure ?_)
    simp only [Bool.not_true, Bool.false_eq_true, if_false]
    exact wpAny_pure ⟨rfl, rfl, fun u hu' => hall u (List.mem_cons_of_mem _ hu')⟩
  · rintro ⟨r1, r2⟩ s' ⟨hr, rfl, _⟩
    simp only at hr
    subst hr
    exact wpAny_pure h
theorem quiet_pair {p : K × List K} {a : Addr} {Q : Bool → Shared → Prop} (hk : IsPairKey knd s.heap p a) (h : Q true s) : wpAny (model prog w) A (eqIsQuiet 8 (.ref a)) Q E s := by
  have hT := hk.typeIs
  obtain ⟨o, v, b, n, ho, _, hd, i1, i2⟩ := hk
  unfold eqIsQuiet
  refine wpAny_bind (wpAny_specialOf hT F.slot_tuple_eq.lookup ?_)
  show wpAny _ _ (isInstance (.ref a) (.type "tuple") >>= _) _ _ s
  refine wpAny_bind (wpAny_isInstance hT isSubtype_tuple_tuple ?_)
  simp only [Bool.not_true, Bool.false_eq_true, if_false]
  refine wpAny_bind (wpAny_seqItems ho hd ?_)
  refine wpAny_bind ?_
  show wpAny _ _ (forIn #[v, Value.ref b] _ _) _ _ s
  rw [← Array.forIn_toList]
  simp only [List.forIn_cons, List.forIn_nil]
  rw [eqIsQuiet_byValue _ (knd.byValue _ _ i1)]
  refine wpAny_bind (wpAny_bind (wpAny_pure ?_))
  simp only [Bool.not_true, Bool.false_eq_true, if_false]
  refine wpAny_pure (wpAny_bind (wpAny_bind (quiet_in 6 i2 ?_)))
  simp only [Bool.not_true, Bool.false_eq_true, if_false]
  exact wpAny_pure (wpAny_pure (wpAny_pure h))
def pairKind (knd : KeyKind prog w K) : HeapKind prog w (K × List K) where
  is := IsPairKey knd
  hash := pairHash knd
  draws := fun p => p.2.length + 3
  room := fun A => A.units + 2 < cLine
  inj := fun hx hy => hx.inj hy
  keeps := fun x ho hd hs => x.keeps ho hd hs
  pyHash := fun hu hk h => pyHash_pair hu hk h
  eqBool := fun hu hx hy h => eqBool_pair hu hx hy h
  quiet := fun hk h => quiet_pair hk h
end
section
variable {prog : Program} {w : World} {K : Type} [DecidableEq K] {knd : HeapKind prog w K} {A : Around} {E : Value → Shared → Prop} {s : Shared}
theorem setDefault_heap {d a : Addr} {xs : List (K × Addr × Value)} {k : K} {dflt : Value} {Q : Value → Shared → Prop} (hu : knd.room A) (hkey : knd.is s.heap k a) (hm : s.heap.DictOfH knd d xs)
    (h1 : ∀ p, atKey xs k = some p → Q p.2 { s with toks := s.toks + knd.draws k })
    (h2 : atKey xs k = none → ∀ h', h'.DictOfH knd d (xs ++ [(k, a, dflt)]) → Heap.SameBut d s.heap h' → Q dflt { s with heap := h', toks := s.toks + knd.draws k })
    (hsz : xs.length ≤ sizeLine) : wpAny (model prog w) A (dictSetDefault d (.ref a) dflt) Q E s := by
  obtain ⟨o, es, ep, ho, hc, hd, he, his, hn⟩ := hm
  unfold dictSetDefault
  try with_reducible refine wpAny_holding ?_
  refine wpAny_bind (knd.pyHash hu hkey ?_)
  refine wpAny_bind (wpAny_dictFind_heap (s := { s with toks := s.toks + knd.draws k }) hu hkey ho hd he his hn ?_ ?_)
  · intro hno
    have hnot : k ∉ xs.map (·.1) := not_mem_keys_of_get hno
    refine wpAny_bind (wpAny_rule (wpAny_bind (wpAny_updateDictKeys (hz := by have e := size_of_entries he; omega) (s := { s with toks := s.toks + knd.draws k }) ho hd (wpAny_pure (h2 (atKey_none_of_get hno) _ ⟨_, _, ep + 1, Heap.get?_update_self _ ho (Obj.isFreed_of_dict (Obj.data_mapDictKeys hd _)),
      hc.mapDictKeys _, Obj.data_mapDictKeys hd _, ?_, ?_, ?_⟩ (Heap.SameBut.update ..))))))
    · simp [he, entryOfKey]
    · intro x hx
      rcases List.mem_append.mp hx with hx | hx
      · exact knd.keeps (his x hx) ho hd (Heap.SameBut.update ..)
      · simp only [List.mem_singleton] at hx
        subst hx
        exact knd.keeps hkey ho hd (Heap.SameBut.update ..)
    · rw [List.map_append, List.nodup_append]
      refine ⟨hn, by simp, ?_⟩
      intro x hx y hy
      simp only [List.map_cons, List.map_nil, List.mem_singleton] at hy
      subst hy
      exact fun e => hnot (e ▸ hx)
  · intro j p hj
    refine wpAny_bind (wpAny_dictEntries (s := { s with toks := s.toks + knd.draws k }) ho hd ?_)
    rw [entry_at he j, hj]
    exact wpAny_bind (wpAny_rule (wpAny_pure (h1 p (atKey_of_get hn hj))))
theorem meetsH_setdefault (knd : HeapKind prog w K) (d a : Addr) (hd : (d == sysModules) = false) (dflt : Value) :
    MeetsIn prog w (Builtin.«dict.setdefault» ⟨[.ref d, .ref a, dflt], []⟩) (fun A R s => knd.room A.in1 ∧ ∃ k xs, knd.is s.heap k a ∧ s.heap.DictOfH knd d xs ∧ xs.length ≤ sizeLine ∧
      (∀ p, atKey xs k = some p → R (.ok (.ret p.2)) { s with toks := s.toks + knd.draws k }) ∧
      (atKey xs k = none → ∀ h', h'.DictOfH knd d (xs ++ [(k, a, dflt)]) → Heap.SameBut d s.heap h' → R (.ok (.ret dflt)) { s with heap := h', toks := s.toks + knd.draws k })) :=
  .of_wp fun A R s ⟨hu, k, xs, hkey, hm, hz, h1, h2⟩ => by
    unfold Builtin.«dict.setdefault»
    refine wpAny_bind ?_
    unfold Builtin.Dict.keyAndDefault
    refine wpAny_bind (wpAny_notOrdered_dict hm.typeIs ?_)
    show wpAny _ _ (pure (d, Value.ref a, some dflt)) _ _ s
    refine wpAny_pure ?_
    show wpAny _ _ (if (d == sysModules) = true then _ else (dictSetDefault d (.ref a) dflt >>= _)) _ _ s
    rw [if_neg (by rw [hd]; exact Bool.false_ne_true)]
    exact wpAny_bind (setDefault_heap (hsz := hz) hu hkey hm (fun p hp => wpAny_pure ⟨p.2, rfl, h1 p hp⟩) fun hn h' hm' hs' => wpAny_pure ⟨dflt, rfl, h2 hn h' hm' hs'⟩)
end
end L2
namespace L2
open PySem PySem.Spec PyProof.Rows
abbrev MK := Key × List Key
abbrev ML := List (MK × Addr × V)
def NstO (P : Program) (w : World) (a : Addr) (xs : ML) : HO := .ext fun h => xs.length ≤ sizeLine ∧ (a == sysModules) = false ∧ ∃ ys : List (MK × Addr × Value), Paired (fun (p : MK × Addr × V) (q : MK × Addr × Value) => p.1 = q.1 ∧ p.2.1 = q.2.1 ∧ RelV p.2.2 q.2.2) xs ys ∧
  ∃ o es ep, h.get? a = some o ∧ o.ExactDict ∧ o.data = .dict es ep ∧ es.toList = ys.map (entryOfKey (pairKind (mixKind P w))) ∧ (ys.map (·.1)).Nodup
def PairAt (H : Hp) (b : Addr) (k : MK) : Prop := ∃ c, H b = some (.tup [kV k.1, .ref c]) ∧ H c = some (.tup (k.2.map kV))
theorem PairAt.same {H H' : Hp} {b : Addr} {k : MK} (p : PairAt H b k) (g : Same H H') : PairAt H' b k := let ⟨c, h1, h2⟩ := p; ⟨c, g _ _ h1, g _ _ h2⟩
theorem PairAt.is {P : Program} {w : World} {H : Hp} {h : Heap} {b : Addr} {k : MK} (p : PairAt H b k) (ok : HOk P w H h) : IsPairKey (mixKind P w) h k b := by
  obtain ⟨c, h1, h2⟩ := p
  obtain ⟨_, its, r, o, e1, e2, n, e3⟩ := (show ObjOk P w H h b (.tup [kV k.1, .ref c]) from ok b _ h1)
  cases r with
  | cons r1 r =>
    cases r with
    | cons r2 r =>
      cases r
      cases r2
      exact ⟨o, _, c, n, e1, e2, e3, kV_is r1, key_of ok h2⟩
section
variable {X : Cx}
theorem nst_dict {pins : List (Addr × Obj)} {σ : St} {H : Hp} {s : Shared} {a : Addr} {xs : ML} (I : Inv X pins σ H s) (h : H a = some (NstO X.prog X.w a xs)) (hk : ∀ x ∈ xs, PairAt H x.2.1 x.1) : xs.length ≤ sizeLine ∧ (a == sysModules) = false ∧
    ∃ ys : List (MK × Addr × Value), Paired (fun (p : MK × Addr × V) (q : MK × Addr × Value) => p.1 = q.1 ∧ p.2.1 = q.2.1 ∧ RelV p.2.2 q.2.2) xs ys ∧ s.heap.DictOfH (pairKind (mixKind X.prog X.w)) a ys := by
  obtain ⟨⟨z, na, ys, rel, o, es, ep, e1, e2, e3, e4, e5⟩, _⟩ := I.hok a _ h
  refine ⟨z, na, ys, rel, o, es, ep, e1, e2, e3, e4, fun y hy => ?_, e5⟩
  obtain ⟨i, ei⟩ := List.mem_iff_getElem?.mp hy
  have li : i < xs.length := by rw [Paired.length rel]; exact (List.getElem?_eq_some_iff.mp ei).1
  obtain ⟨x, ex⟩ : ∃ x, xs[i]? = some x := ⟨_, List.getElem?_eq_getElem li⟩
  obtain ⟨q, eq, p1, p2, _⟩ := paired_at rel ex
  rw [ei] at eq
  cases eq
  have z := (hk x (List.mem_of_getElem? ex)).is I.hok
  have p1' : x.1 = y.1 := p1
  have p2' : x.2.1 = y.2.1 := p2
  rw [p1', p2'] at z
  exact z
def tDNewN (P : Program) (w : World) : TE := fun _ H Q => (∀ p, H p = none → Q (.ref p) (upd H p (.dK []))) ∨ ∀ p, H p = none → Q (.ref p) (upd H p (NstO P w p []))
theorem pe_dnewN {pos : Pos} : PE X (.Dict [] [] pos) (tDNewN X.prog X.w) := fun pins s σ H Q I h => by
  rcases h with h | h
  · exact pe_dnewK pins s σ H Q I h
  · refine wpAny_Dict_empty ⟨.ref s.heap.objs.size, _, I.laid (a := s.heap.objs.size) (o := NstO X.prog X.w s.heap.objs.size []) (t' := s.toks) (fun _ _ q => Heap.get?_push_of_some _ q) (Nat.le_refl _) ?_, rfl, h _ (I.hok.fresh (Nat.le_refl _))⟩
    have e : (s.heap.push { cls := .type "dict", data := .dict #[] }).get? s.heap.objs.size = some { cls := .type "dict", data := .dict #[] } := Heap.get?_push_size _ rfl
    refine ⟨⟨Nat.zero_le _, beq_eq_false_iff_ne.mpr (Ne.symm (Nat.ne_of_lt I.big)), [], .nil, _, #[], 0, e, ⟨rfl, rfl, rfl⟩, rfl, rfl, List.nodup_nil⟩, ⟨_, e⟩, fun h1 h2 ⟨z, na, ys, rel, o, es, ep, e1, r⟩ k => ⟨z, na, ys, rel, o, es, ep, k o e1, r⟩⟩
def tyD (P : Program) (w : World) (x : V) (H : Hp) : Prop := ∃ a, x = .ref a ∧ ((∃ kvs, H a = some (.dK kvs)) ∨ ∃ xs, H a = some (NstO P w a xs))
theorem tyD_is {pins : List (Addr × Obj)} {σ : St} {H : Hp} {s : Shared} {x : V} {v : Value} (I : Inv X pins σ H s) (r : RelV x v) (ty : tyD X.prog X.w x H) : s.TypeIs v "dict" ∧ ∀ a, v = .ref a → ∃ ob, s.heap.get? a = some ob ∧ ob.dict = none := by
  obtain ⟨a, rfl, hk⟩ := ty
  cases r
  have z : ∃ o, s.heap.get? a = some o ∧ o.ExactDict := by
    rcases hk with ⟨kvs, hk⟩ | ⟨xs, hk⟩
    · obtain ⟨_, _, _, _, o, _, _, e, ex, _⟩ := I.hok a _ hk
      exact ⟨o, e, ex⟩
    · obtain ⟨⟨_, _, _, _, o, _, _, e, ex, _⟩, _⟩ := I.hok a _ hk
      exact ⟨o, e, ex⟩
  obtain ⟨o, e, ex⟩ := z
  exact ⟨⟨o, e, ex.1⟩, fun b q => by cases q; exact ⟨o, e, ex.2.1⟩⟩
def tBMD (P : Program) (w : World) (r : V → List V → Hp → VK → Prop) (to : TE) (t : TA) : TE := fun σ H Q => to σ H fun x H1 => tyD P w x H1 ∧ t σ H1 fun xs H2 => r x xs H2 Q
variable {o e : Expr} {es : List Expr} {to : TE} {t : TA} {name : Str} {apos cpos : Pos} {id : String} {r : V → List V → Hp → VK → Prop}
theorem pe_bmD (pa : PlainAttrs "dict") (slot : Slot "dict" name id) (hty : typeOf (.builtin id) = pure (.type "method_descriptor")) (hm : MtR X id r) (ho : PE X o to) (ha : PA X (e :: es) t)
    (hbase : attributeBase o name X.env (eval o X.env) = eval o X.env := by rfl)
    (hfew : ((backTo cpos (starEach (e :: es) X.env)).all (fun x => !x.1) && (backToKw cpos (keywordEach [] X.env)).all (fun x => x.1.isSome)
      && decide ((e :: es).length + ([] : List Keyword).length + (if ([] : List Keyword).isEmpty then 0 else 1) < 30)) = true := by rfl)
    (hline : (apos.endLine == cpos.line) = true := by rfl) (hs : starEach (e :: es) X.env = (false, eval e X.env) :: starEach es X.env := by rfl) (hplain : (backTo cpos (starEach es X.env)).any (·.1) = false := by rfl) :
    PE X (.Call (.Attribute o name apos) (e :: es) [] cpos) (tBMD X.prog X.w r to t) := by
  intro pins s σ H Q I h
  refine wpAny_Call_method_late hbase hfew hline rfl (thn (ho pins s σ H _ I h) fun v s1 ⟨x, H1, I1, r1, ty, q1⟩ => ?_)
  obtain ⟨h1, h2⟩ := tyD_is I1 r1 ty
  refine ⟨"dict", id, pa, slot, hty, h1, h2, ?_⟩
  have hA := ha cpos pins s1 σ H1 _ I1 q1
  rw [hs] at hA ⊢
  refine Calls.callWith_builtin (by show (false || (backTo cpos (starEach es X.env)).any (·.1)) = false; rw [hplain] <;> rfl) (Calls.evalArgs_plain ?_)
  exact thn hA fun us s2 ⟨vs, H2, I2, r2, q2⟩ => hm pins s2 σ H2 x vs v us Q I2 r1 r2 q2
def rSetD (P : Program) (w : World) : V → List V → Hp → VK → Prop := fun x xs H Q => ∃ a v, x = .ref a ∧ (
  (∃ kvs k, xs = [kV k, v] ∧ H a = some (.dK kvs) ∧ kvs.length < sizeLine ∧ (∀ y, valV kvs k = some y → Q y H) ∧ (valV kvs k = none → Q v (upd H a (.dK (kvs ++ [(k, v)])))))
  ∨ ∃ (ys : ML) (b : Addr) (k : MK), xs = [.ref b, v] ∧ H a = some (NstO P w a ys) ∧ PairAt H b k ∧ (∀ y ∈ ys, PairAt H y.2.1 y.1) ∧ ys.length < sizeLine ∧ (∀ y ∈ ys, y.1 = k → Q y.2.2 H) ∧ ((∀ y ∈ ys, y.1 ≠ k) → Q v (upd H a (NstO P w a (ys ++ [(k, b, v)])))))
theorem paired_snoc {α β : Type} {R : α → β → Prop} {a : α} {b : β} (r : R a b) : ∀ {xs : List α} {ys : List β}, Paired R xs ys → Paired R (xs ++ [a]) (ys ++ [b])
  | _, _, .nil => .cons r .nil
  | _, _, .cons q t => .cons q (paired_snoc r t)
theorem mt_setd (hu : X.A.units + 64 < cLine) : MtR X "dict.setdefault" (rSetD X.prog X.w) := by
  intro pins s σ H x xs u us Q I r1 r2 h
  obtain ⟨a, v, rfl, h⟩ := h
  cases r1
  rcases h with ⟨kvs, k, rfl, ha, lt, q1, q2⟩ | ⟨ys, b, k, rfl, ha, hb, hk, lt, q1, q2⟩
  · obtain ⟨u1, us, rfl, ru1, r3⟩ : ∃ u1 us', us = u1 :: us' ∧ RelV (kV k) u1 ∧ Vals [v] us' := by cases r2 with | cons a b => exact ⟨_, _, rfl, a, b⟩
    obtain ⟨u2, rfl, ru2⟩ := vals1 r3
    obtain ⟨z, hd, vs, rel, dd⟩ := dk_of I.hok ha
    have rv := rel.val k
    have hz : vs.length ≤ sizeLine := by rw [← rel.length]; exact z
    refine call_meetsIn PySem.F.slot_dict_setdefault dd.typeIs PySem.F.entry_dict_setdefault (PySem.F.args_dict_setdefault_3 _ _ _) (kt_meets_setdefault (mixKind X.prog X.w) a (kV_is ru1) hd u2) ⟨vs, dd, hz, fun v' hv' => ?_, fun hn h' dd' hs => ?_⟩
    · rw [hv'] at rv
      cases e : valV kvs k with
      | none => rw [e] at rv; exact rv.elim
      | some y =>
        rw [e] at rv
        exact ⟨y, H, I.tok _, rv, q1 y e⟩
    · rw [hn] at rv
      cases e : valV kvs k with
      | some y => rw [e] at rv; exact rv.elim
      | none =>
        have he : ∃ q, h'.get? a = some q := let ⟨q, _, _, hq, _⟩ := dd'; ⟨q, hq⟩
        have rp := rel.put k ru2
        rw [putK_new _ e] at rp
        exact ⟨v, _, d_write I (by rw [ha]; exact True.intro) hs he (dk_new (by rw [List.length_append]; show kvs.length + 1 ≤ _; omega) hd rp dd'), ru2, q2 e⟩
  · obtain ⟨u1, us, rfl, ru1, r3⟩ : ∃ u1 us', us = u1 :: us' ∧ RelV (.ref b) u1 ∧ Vals [v] us' := by cases r2 with | cons a b => exact ⟨_, _, rfl, a, b⟩
    obtain ⟨u2, rfl, ru2⟩ := vals1 r3
    cases ru1
    obtain ⟨z, hd, vs, rel, dd⟩ := nst_dict I ha hk
    have hz : vs.length ≤ sizeLine := by rw [← Paired.length rel]; exact z
    refine call_meetsIn PySem.F.slot_dict_setdefault dd.typeIs PySem.F.entry_dict_setdefault (PySem.F.args_dict_setdefault_3 _ _ _) (meetsH_setdefault (pairKind (mixKind X.prog X.w)) a b hd u2) ⟨show X.A.units + 1 + 2 < cLine by omega, k, vs, hb.is I.hok, dd, hz, fun p hp => ?_, fun hn h' dd' hs => ?_⟩
    · obtain ⟨q, hq, eq⟩ := Option.map_eq_some_iff.mp hp
      obtain ⟨i, ei⟩ := List.mem_iff_getElem?.mp (List.mem_of_find?_eq_some hq)
      have qk : q.1 = k := of_decide_eq_true (List.find?_some (p := fun x : MK × Addr × Value => decide (x.1 = k)) hq)
      obtain ⟨y, ey⟩ : ∃ y, ys[i]? = some y := ⟨_, List.getElem?_eq_getElem (by rw [Paired.length rel]; exact (List.getElem?_eq_some_iff.mp ei).1)⟩
      obtain ⟨q', eq', p1, p2, p3⟩ := paired_at rel ey
      rw [ei] at eq'
      cases eq'
      have p1' : y.1 = q.1 := p1
      refine ⟨y.2.2, H, I.tok _, ?_, q1 y (List.mem_of_getElem? ey) (p1'.trans qk)⟩
      rw [← eq]
      exact p3
    · have no : ∀ y ∈ ys, y.1 ≠ k := fun y hy e => by
        obtain ⟨i, ei⟩ := List.mem_iff_getElem?.mp hy
        obtain ⟨q, eq, p1, _⟩ := paired_at rel ei
        have p1' : y.1 = q.1 := p1
        unfold atKey at hn
        have z1 := List.find?_eq_none.mp (Option.map_eq_none_iff.mp hn) q (List.mem_of_getElem? eq)
        exact z1 (decide_eq_true (p1'.symm.trans e))
      obtain ⟨o', es', ep', f1, f2, f3, f4, f5, f6⟩ := dd'
      refine ⟨v, _, d_write I (by rw [ha]; exact True.intro) hs ⟨o', f1⟩ ?_, ru2, q2 no⟩
      exact ⟨⟨by rw [List.length_append]; show ys.length + 1 ≤ _; omega, hd, _, paired_snoc (a := (k, b, v)) (b := (k, b, u2)) ⟨rfl, rfl, ru2⟩ rel, o', es', ep', f1, f2, f3, f4, f6⟩, ⟨o', f1⟩, fun h1 h2 ⟨z, na, ys, rel, o, es, ep, e1, r⟩ k => ⟨z, na, ys, rel, o, es, ep, k o e1, r⟩⟩
def rLenN (P : Program) (w : World) : List V → Hp → VK → Prop := fun xs H Q => ∃ a, xs = [V.ref a] ∧ ((∃ kvs, H a = some (.dK kvs) ∧ Q (.int kvs.length) H) ∨ ∃ ys : ML, H a = some (NstO P w a ys) ∧ (∀ y ∈ ys, PairAt H y.2.1 y.1) ∧ Q (.int ys.length) H)
theorem call_lenN : CallR X (.builtin "len") (rLenN X.prog X.w) := by
  intro pins s σ H xs us Q I r h
  obtain ⟨a, rfl, h⟩ := h
  rcases h with ⟨kvs, ha, q⟩ | ⟨ys, ha, hk, q⟩
  · obtain ⟨u, rfl, ru⟩ := vals1 r
    cases ru
    exact d_len I (.inl ha) fun t s' I' => ⟨.int kvs.length, H, I', ⟨t, rfl⟩, q⟩
  · obtain ⟨u, rfl, ru⟩ := vals1 r
    cases ru
    obtain ⟨z, na, vs, rel, dd⟩ := nst_dict I ha hk
    have el : ys.length = vs.length := Paired.length rel
    refine Calls.call_function_entry kind_len plain_len entry_len (args_len1 _) (dlenH_body na dd (by rw [← el]; rw [sizeLine_eq] at z; omega) ?_)
    exact ⟨.int ys.length, H, I.tok _, ⟨_, by rw [el]⟩, q⟩
end
end L2
namespace L2
open PySem PySem.Spec PySem.W PyProof.Rows
section
variable {X : Cx}
def rSortDI : List V → Hp → VK → Prop := fun xs H Q => ∃ (d : Addr) (kvs : List (Key × V)) (ns : List Int), xs = [.ref d] ∧ H d = some (.dK kvs) ∧ kvs.map (fun kv => kV kv.1) = ns.map V.int ∧ ns.length < 64 ∧ ∀ (D : Addr) (js : List Int), H D = none → js.Perm ns → js.Pairwise (· ≤ ·) → Q (.ref D) (upd H D (.lst (js.map V.int)))
theorem call_sortDI (hc : X.calm = true) : CallR X (.builtin "sorted") rSortDI := by
  intro pins s σ H xs us Q I r h
  obtain ⟨d, kvs, ns, rfl, hd, ek, h64, q⟩ := h
  obtain ⟨u, rfl, ru⟩ := vals1 r
  cases ru
  obtain ⟨es, ep, L, nm, le, fit, _, at'⟩ := dk_lies I hd
  have lk : kvs.length = ns.length := by rw [← List.length_map (f := fun kv : Key × V => kV kv.1) (as := kvs), ek, List.length_map]
  refine Calls.call_function_entry kind_sorted plain_sorted entry_sorted (args_sorted1 _) ?_
  unfold Builtin.«sorted»
  refine wpAny_bind (m := checkCount "sorted" 1 1 _) (wpAny_pure ?_)
  refine wpAny_bind (kdu_collect (A := X.A.in1) (srcK nm) (by simpa using I.ok.hd hc) L (by omega) fun h1 tk acc keep it => ?_)
  have la : acc.toList.length = ns.length := by rw [Array.length_toList, it.1]; omega
  have vs : Vals (ns.map V.int) acc.toList := vals_mk _ _ (by rw [List.length_map]; exact la) fun j x y ex ey => by
    rw [← ek, List.getElem?_map] at ex
    obtain ⟨kv, ekv, rfl⟩ := Option.map_eq_some_iff.mp ex
    rw [Array.getElem?_toList] at ey
    obtain ⟨en, ee, rfl⟩ := it.2 j y ey
    obtain ⟨kv', ek', r1, _⟩ := at' j en ee
    rw [ekv] at ek'
    cases ek'
    exact r1
  have are : IntsAre acc.toList ns := intsAre_of vs
  have I1 : Inv X pins σ H { s with heap := h1, toks := tk } := I.kept keep
  refine wpAny_bind (wpAny_newList ?_ (by rw [la, sizeLine_eq]; omega))
  have eD : (h1.push (seqObj "list" acc.toList.toArray 0)).get? h1.objs.size = some (seqObj "list" acc.toList.toArray 0) := Heap.get?_push_size _ rfl
  refine wpAny_bind (wpAny_holding (wpAny_call_entry slot_list_sort ⟨_, eD, rfl⟩ entry_list_sort (list_sort_tree eD are (by omega) fun out js o1 o2 o3 => ⟨_, rfl, ?_⟩) (args_list_sort _)))
  obtain ⟨n, eN⟩ := sortedHeap_at (out := out) eD
  have lj := o2.length_eq
  refine wpAny_pure ⟨_, rfl, .ref h1.objs.size, _, Inv.trackNew I1 (I1.kept (t' := tk) fun b o e => ?_) (o := .lst (js.map V.int)) ⟨by rw [List.length_map, sizeLine_eq]; omega, out.toList, n, valsI o1, by simpa using eN⟩, rfl, q _ js I1.fresh o2 o3⟩
  have lt := Heap.lt_size e
  rw [sortedHeap_old (Nat.ne_of_lt lt) (Nat.lt_of_lt_of_le lt (by rw [Heap.size_push]; exact Nat.le_succ _))]
  exact Heap.get?_push_of_some _ e
def rNeW (K : PySem.W.Frag) : R2 := fun x y H Q => rNe x y H Q ∨ rEqD K true x y H Q
theorem op_neW (hu : X.A.units + 64 < cLine) : OpR X (compareOp .NotEq) (rNeW X.K) := fun pins s σ H x y v u Q I rx ry h => h.elim (op_ne pins s σ H x y v u Q I rx ry) (op_neD hu pins s σ H x y v u Q I rx ry)
end
end L2
namespace L2
open PySem PySem.Spec PyProof.Rows
def It2 (n : Nat) : It := ⟨fun i _ => i < n, fun i H x H' => H' = H ∧ x = .int (2 * (i : Int)), fun i _ => n ≤ i⟩
theorem turn_two {P : Program} {w : World} {K : PySem.W.Frag} {tg : Expr} (it : Addr) (n : Nat) : Turn P w K tg (It2 n) [it] it (fun i h => IsRangeIter h it (0 + (i : Nat) * 2) ((n : Int) - (i : Nat)) 2) where
  mem := by simp
  obj := fun i h st b hb => by
    have e : b = it := by simpa using hb
    subst e
    exact ⟨_, st, fun v z => by
      have z' : Data.fields _ = Data.cell v := z
      cases z'⟩
  keep := fun i h h' st k => k it (by simp) _ st
  item := by
    intro X hP hw hK hc i pins s σ H E I hf st hg
    subst hP hw hK
    obtain ⟨f0, f1, f2, f3, f4, f5⟩ := hf it (by simp)
    have W := Walks.range (prog := X.prog) (w := X.w) (I.ok.hd hc) it 0 2 n
    refine W.item i s _ _ hg st fun v h' tk hv st' kk => ?_
    obtain ⟨t, rfl⟩ := hv
    have I1 : Inv X pins σ H { s with heap := h', toks := tk } := I.turned (fun b o hb e => kk b o (by simpa using hb) e) f0 f1 f3 f4 f5
    refine ⟨_, rfl, go_of (s := { s with heap := h', toks := tk }) (n := "range_iterator") st' rfl rfl (by decide) ⟨.int (2 * (i : Int)), H, I1, ⟨t, ?_⟩, ⟨rfl, rfl⟩, st', fun b hb => (hf b hb).1⟩⟩
    congr 1
    omega
  done := by
    intro X hP hw hK hc i pins s σ H E I hf st hg
    subst hP hw hK
    obtain ⟨f0, f1, f2, f3, f4, f5⟩ := hf it (by simp)
    exact wpAny_pyNext_range_end (I.ok.hd hc) st (by have : n ≤ i := hg; omega) fun h' eb => ⟨rfl, I.turned (t' := s.toks) (fun b o hb e => eb b o hb e) f0 f1 f3 f4 f5⟩
  self := fun _ _ _ _ _ st h => wpAny_pyIter_rangeiter st h
section
variable {X : Cx} {tg : Expr}
def iStep2 (ta : TA) : TI := fun σ H R => ta σ H fun vs H1 => ∃ n : Nat, vs = [.int 0, .int n, .int 2] ∧ n < 4000 ∧ R (It2 ((n + 1) / 2)) H1
theorem pi_step2 {a b c : Expr} {ta : TA} {p pos : Pos} (hg : Gl X "range") (hm : X.mg "range" = none) (ha : PA X [a, b, c] ta) (hs : starEach [a, b, c] X.env = [(false, eval a X.env), (false, eval b X.env), (false, eval c X.env)] := by rfl) (hs2 : starEach [b, c] X.env = [(false, eval b X.env), (false, eval c X.env)] := by rfl) :
    PI X tg (.Call (.Name "range" p) [a, b, c] [] pos) (iStep2 ta) := by
  intro pins s σ H R I h
  refine Call_ (ld_blt I hg hm boot_range (PyProof.Rows.callWith_type1 (thn (ha pos pins s σ H _ I h) fun us s1 ⟨vs, H1, I1, r1, q1⟩ => ?_) (by rw [hs, hs2]) (by rw [hs2]; rfl)))
  obtain ⟨n, e, few, q⟩ := q1
  subst e
  obtain ⟨u1, u2, u3, rfl, ⟨t1, rfl⟩, ⟨t2, rfl⟩, ⟨t3, rfl⟩⟩ : ∃ u1 u2 u3, us = [u1, u2, u3] ∧ RelV (.int 0) u1 ∧ RelV (.int n) u2 ∧ RelV (.int 2) u3 := by
    cases r1 with
    | cons r rr =>
      cases rr with
      | cons r' rr =>
        obtain ⟨u3, rfl, r3⟩ := vals1 rr
        exact ⟨_, _, _, rfl, r, r', r3⟩
  have sz : Builtin.Range.rangeSize 0 n 2 = (((n + 1) / 2 : Nat) : Int) := by
    unfold Builtin.Range.rangeSize
    rw [if_pos (by decide)]
    split <;> omega
  refine call_range_3 (by decide) ?_
  refine wpAny_pyIter_range (IsRange.new ..) ?_ ?_
  · unfold Builtin.Range.small
    simp [Builtin.Range.rangeFitsLong, sz]
    omega
  have I2 : ∀ ob tk, Inv X pins σ H1 { s1 with heap := s1.heap.push ob, toks := tk } := fun ob tk => I1.kept (t' := tk) fun b o e => Heap.get?_push_of_some _ e
  refine ⟨_, [_], _, _, H1, rfl, (I2 _ _).kept (t' := _) (fun b o e => Heap.get?_push_of_some _ e), turn_two _ ((n + 1) / 2), ?_, fun b hb => ?_, q⟩
  · have e1 : (0 : Int) + ((0 : Nat) : Int) * 2 = 0 := by simp
    have e2 : (((n + 1) / 2 : Nat) : Int) - ((0 : Nat) : Int) = Builtin.Range.rangeSize 0 n 2 := by
      rw [sz]
      simp
    show IsRangeIter _ _ ((0 : Int) + ((0 : Nat) : Int) * 2) ((((n + 1) / 2 : Nat) : Int) - ((0 : Nat) : Int)) 2
    rw [e1, e2]
    exact Heap.get?_push_size _ rfl
  · rw [List.mem_singleton.mp hb]
    exact (I2 _ _).fpOk (Nat.le_refl _) ((I2 _ _).hok.fresh (Nat.le_refl _))
end
section
variable {n : Nat} {g : TG} {tb : TS} {D : Ends} {σ : St} {H : Hp}
theorem for_step2 (Pv : Nat → St → Hp → Prop) (h0 : Pv 0 σ H)
    (hs : ∀ i σ H, i < n → Pv i σ H → g (.int (2 * (i : Int))) σ H fun σ2 H2 => tb { D with nx := Pv (i + 1), ct := Pv (i + 1), bk := D.nx } σ2 H2) (hd : ∀ σ H, Pv n σ H → D.nx σ H) :
    ∃ W : Nat → Nat → St → Hp → Prop, (∃ m, W 0 m σ H) ∧ ∀ i m σ H, W i m σ H →
      ((It2 n).stop i H ∧ D.nx σ H) ∨ ((It2 n).go i H ∧ ∃ N : St → Hp → Prop, (∀ σ' H', N σ' H' → ∃ m', m' < m ∧ W (i + 1) m' σ' H') ∧ ∀ x H', (It2 n).yld i H x H' → g x σ H' fun σ2 H2 => tb { D with nx := N, ct := N, bk := D.nx } σ2 H2) := by
  refine ⟨fun i m σ H => m = n - i ∧ i ≤ n ∧ Pv i σ H, ⟨n, by simp, Nat.zero_le _, h0⟩, ?_⟩
  rintro i m σ H ⟨rfl, hi', p⟩
  by_cases hlt : i < n
  · refine .inr ⟨hlt, Pv (i + 1), fun σ' H' p' => ⟨n - (i + 1), by omega, rfl, hlt, p'⟩, fun x H' y => ?_⟩
    obtain ⟨e, y⟩ := y
    subst e y
    exact hs i σ _ hlt p
  · have e : i = n := by omega
    subst e
    exact .inl ⟨Nat.le_refl _, hd σ H p⟩
end
end L2
namespace My
open PySem L2 PyProof.Rows
def top (i : Nat) : Stmt := PySem.Challenge.pw_cascade_k75_parted_or_one_room.main.body.getD i (.Pass ⟨0, 0, 0, 0⟩)
abbrev sRefuseMore : Stmt := top 4
abbrev sReached : Stmt := top 5
abbrev sBehind : Stmt := top 7
abbrev sParting : Stmt := top 9
abbrev sNumbered : Stmt := top 10
abbrev sPartedRooms : Stmt := top 11
abbrev sLeast : Stmt := top 12
abbrev sLawCellAt : Stmt := top 14
abbrev sLawLarge : Stmt := top 15
abbrev sLawSeen : Stmt := top 16
abbrev sLawLinks : Stmt := top 17
abbrev sLaw : Stmt := top 18
def clsBody : Stmt → List Stmt
  | .ClassDef _ _ _ b _ _ _ _ _ _ _ => b
  | _ => []
abbrev sTooManyInit : Stmt := (clsBody (top 2)).getD 0 (.Pass ⟨0, 0, 0, 0⟩)
theorem scRefuseMore : FnScope ["things", "most"] ["things", "most"] (defScope sRefuseMore) := ⟨rfl, rfl, rfl, by decide +kernel, rfl, by decide +kernel, by decide +kernel⟩
theorem scReached : FnScope ["start", "letters", "step", "most", "words", "wave", "following", "thing", "letter", "found"] ["start", "letters", "step", "most"] (defScope sReached) := ⟨rfl, rfl, rfl, by decide +kernel, rfl, by decide +kernel, by decide +kernel⟩
theorem scBehind : FnScope ["one", "other"] ["one", "other"] (defScope sBehind) := ⟨rfl, rfl, rfl, by decide +kernel, rfl, by decide +kernel, by decide +kernel⟩
theorem scParting : FnScope ["turns", "seen", "one", "other", "words", "pair", "word"] ["turns", "seen", "one", "other"] (defScope sParting) := ⟨rfl, rfl, rfl, by decide +kernel, rfl, by decide +kernel, by decide +kernel⟩
theorem scNumbered : FnScope ["rooms", "marks", "numbers", "found", "room", "mark"] ["rooms", "marks"] (defScope sNumbered) := ⟨rfl, rfl, rfl, by decide +kernel, rfl, by decide +kernel, by decide +kernel⟩
theorem scPartedRooms : FnScope ["turns", "seen", "rooms", "numbers", "marks", "finer"] ["turns", "seen", "rooms"] (defScope sPartedRooms) := ⟨rfl, rfl, rfl, by decide +kernel, rfl, by decide +kernel, by decide +kernel⟩
theorem scLeast : FnScope ["turns", "seen", "start", "rooms", "numbers", "firsts", "room", "kept", "told"] ["turns", "seen", "start"] (defScope sLeast) := ⟨rfl, rfl, rfl, by decide +kernel, rfl, by decide +kernel, by decide +kernel⟩
theorem scLawCellAt : FnScope ["_law_script", "_law_k"] ["_law_script", "_law_k"] (defScope sLawCellAt) := ⟨rfl, rfl, rfl, by decide +kernel, rfl, by decide +kernel, by decide +kernel⟩
theorem scLawLarge : FnScope ["_law_script", "_law_start", "_law_most", "_law_head", "_law_rooms", "_law_turns", "_law_k", "_law_cell", "_law_turn", "_law_room", "_law_number"] ["_law_script", "_law_start", "_law_most"] (defScope sLawLarge) := ⟨rfl, rfl, rfl, by decide +kernel, rfl, by decide +kernel, by decide +kernel⟩
theorem scLawSeen : FnScope ["_law_script", "_law_start", "_law_rooms", "_law_cell", "_law_some", "_law_seen_here", "_law_room", "_law_number"] ["_law_script", "_law_start", "_law_rooms"] (defScope sLawSeen) := ⟨rfl, rfl, rfl, by decide +kernel, rfl, by decide +kernel, by decide +kernel⟩
theorem scLawLinks : FnScope ["_law_turns", "_law_small", "_law_start", "_law_link", "_law_waiting", "_law_room", "_law_turn", "_law_own"] ["_law_turns", "_law_small", "_law_start"] (defScope sLawLinks) := ⟨rfl, rfl, rfl, by decide +kernel, rfl, by decide +kernel, by decide +kernel⟩
theorem scLaw : FnScope ["_law_script", "_law_turns", "_law_rooms", "_law_seen_here", "_law_start", "_law_small", "_law_views", "_law_link", "_law_come", "_law_cells", "_law_k", "_law_one", "_law_other", "_law_word"] ["_law_script"] (defScope sLaw) := ⟨rfl, rfl, rfl, by decide +kernel, rfl, by decide +kernel, by decide +kernel⟩
def tabsL : List (Str × Pos × Addr) := [("parting.<locals>.<lambda>", (⟨33, 46, 33, 94⟩ : Pos), 68), ("least.<locals>.<lambda>", (⟨53, 44, 53, 84⟩ : Pos), 87)]
theorem tabs_nd : (tabsL.map (·.2.2)).Nodup := by decide
def Tabs (H : Hp) : Prop := ∀ q ∈ tabsL, TabOk q.1 q.2.1 H q.2.2
theorem _root_.L2.TabOk.most {qual : Str} {pos : Pos} {H H' : Hp} {T : Addr} (t : TabOk qual pos H T) (g : ∀ b u, (∀ kvs, u ≠ HO.dT kvs) → (∀ xs, u ≠ HO.lst xs) → H b = some u → H' b = some u) : TabOk qual pos H' T := by
  rcases t with t | ⟨cc, t1, t2⟩
  · exact .inl (g _ _ (fun _ e => nomatch e) (fun _ e => nomatch e) t)
  · exact .inr ⟨cc, g _ _ (fun _ e => nomatch e) (fun _ e => nomatch e) t1, g _ _ (fun _ e => nomatch e) (fun _ e => nomatch e) t2⟩
theorem Tabs.same {H H' : Hp} (t : Tabs H) (g : Same H H') : Tabs H' := fun q hq => (t q hq).same g
theorem Tabs.most {H H' : Hp} (t : Tabs H) (g : ∀ b u, (∀ kvs, u ≠ HO.dT kvs) → (∀ xs, u ≠ HO.lst xs) → H b = some u → H' b = some u) : Tabs H' := fun q hq => (t q hq).most g
def KeepsBut (T : Addr) (H H' : Hp) : Prop := ∀ b o, b ≠ T → H b = some o → H' b = some o
theorem KeepsBut.keeps {T : Addr} {H H' : Hp} {ps : Array Value} (g : KeepsBut T H H') (hT : H T = some (.tbl ps)) : Keeps H H' := fun b o hb => by
  obtain ⟨z, nt⟩ := of_noT hb
  exact g b o (ne_of z hT fun e => nt _ e) z
theorem tabs_inj : ∀ {l : List (Str × Pos × Addr)} {p q : Str × Pos × Addr}, (l.map (·.2.2)).Nodup → p ∈ l → q ∈ l → p.2.2 = q.2.2 → p = q
  | [], _, _, _, hp, _, _ => nomatch hp
  | r :: l, p, q, nd, hp, hq, e => by
    obtain ⟨n1, n2⟩ := List.nodup_cons.mp nd
    rcases List.mem_cons.mp hp with ep | hp
    · rcases List.mem_cons.mp hq with eq | hq
      · rw [ep, eq]
      · exact absurd (List.mem_map.mpr ⟨q, hq, by rw [← ep]; exact e.symm⟩) n1
    · rcases List.mem_cons.mp hq with eq | hq
      · exact absurd (List.mem_map.mpr ⟨p, hp, by rw [← eq]; exact e⟩) n1
      · exact tabs_inj n2 hp hq e
theorem Tabs.but {qual : Str} {pos : Pos} {T : Addr} {H H' : Hp} {ps : Array Value} (hq : (qual, pos, T) ∈ tabsL) (t : Tabs H) (hT : H T = some (.tbl ps)) (g : KeepsBut T H H') (h1 : TabOk qual pos H' T) : Tabs H' := fun q' hq' => by
  by_cases e : q'.2.2 = T
  · have := tabs_inj tabs_nd hq' hq e
    subst this
    exact h1
  · rcases t q' hq' with t | ⟨cc, t1, t2⟩
    · exact .inl (g _ _ e t)
    · exact .inr ⟨cc, g _ _ e t1, g _ _ (ne_of t2 hT fun z => nomatch z) t2⟩
def spCellAt (K : PySem.W.Frag) : Sp := fun vs H Q _ => ∃ (a : Addr) (ns : List Int) (k : Int), vs = [.ref a, .int k] ∧ 0 ≤ k ∧ SqL K H a (ns.map V.int) ∧ ∀ c, Q (.int c) H
section
variable {P : Program} {w : World} {K : PySem.W.Frag} {mg : Str → Option Value} {base : Heap} {f : Addr} {fd : FuncData}
theorem ok_cell_at (F : Fun K "_law_cell_at" "_law_cell_at" sLawCellAt f fd) (m_len : mg "len" = none) : FnOk P w K mg base CX0 1 f fd ["_law_script", "_law_k"] (spCellAt K) := by
  refine F.ok scLawCellAt (fun vs H Q E h => ?_) (fun cdv A outer s H vs Q E hr h => ?_)
  · obtain ⟨a, ns, k, rfl, _⟩ := h
    rfl
  obtain ⟨a, ns, k, rfl, h0, hS, q⟩ := h
  refine ⟨_, (pss_cons (ps_if (pt_cmpR op_lt (pv 1) (pe_callB call_len_seq rfl m_len boot_len (pa_cons (pv 0) pa_nil)) (nomark _)) (pss_one (ps_ret (pe_ix ix_list (pv 0) (pv 1) (fun _ _ => rfl)))) pss_nil) (pss_one (ps_ret pe_int))), ?_⟩
  refine ⟨_, rfl, _, rfl, a, _, rfl, .inl hS, _, _, rfl, rfl, _, rfl, ?_⟩
  refine ite2 (fun c => ?_) (fun c => ?_)
  · have c' : k < ((ns.map V.int).length : Nat) := of_decide_eq_true c
    rw [List.length_map] at c'
    have hk : k.toNat < ns.length := by omega
    have e : k = ((k.toNat : Nat) : Int) := by omega
    refine ⟨_, rfl, _, rfl, a, _, _, .int (ns.getD k.toNat 0), rfl, rfl, hS, ?_, q _⟩
    rw [e]
    exact at_int hk
  · exact q _
end
def beh (xs ys : List Nat) : List Nat := xs.map fun x => ys.getD x 0
def spBehind : Sp := fun vs H Q _ => ∃ (a b : Addr) (xs ys : List Nat), vs = [.ref a, .ref b] ∧ H a = some (.tup (xs.map nv)) ∧ H b = some (.tup (ys.map nv)) ∧ (∀ x ∈ xs, x < ys.length) ∧ xs.length ≤ 1000 ∧ NewT H ((beh xs ys).map nv) Q
section
variable {P : Program} {w : World} {K : PySem.W.Frag} {mg : Str → Option Value} {base : Heap} {f : Addr} {fd : FuncData}
theorem ok_behind (F : Fun K "behind" "behind" sBehind f fd) (m_tuple : mg "tuple" = none) : FnOk P w K mg base CX0 1 f fd ["one", "other"] spBehind := by
  refine F.ok scBehind (fun vs H Q E h => ?_) (fun cdv A outer s H vs Q E hr h => ?_)
  · obtain ⟨a, b, xs, ys, rfl, _⟩ := h
    rfl
  obtain ⟨a, b, xs, ys, rfl, ha, hb, hlt, hz, q⟩ := h
  refine ⟨_, (pss_one (ps_ret (pe_callTy call_tuple_of rfl m_tuple boot_tuple (pa_cons (pe_comp1 (CompSc.to (N := ["one", "other"]) (osc := defScope sBehind) (vs := ["room"]) ⟨rfl, by decide +kernel, by decide +kernel, by decide +kernel, by decide +kernel, by decide +kernel, by decide +kernel⟩) rfl rfl (pi_tup (pv 0)) (fun _ _ _ _ => pts_nil) (fun _ _ _ _ => (pe_ix (IxR.k (K := K) rIxT ix_tup rfl) (pv 2) (pv 0) (fun _ _ => rfl)))) pa_nil)))), ?_⟩
  have e : (xs.map nv).map (fun v => match v with | .int i => nv (ys.getD i.toNat 0) | v => v) = (beh xs ys).map nv := by
    unfold beh
    rw [List.map_map, List.map_map]
    rfl
  refine ⟨_, rfl, a, rfl, ⟨_, SqT.of ha⟩, map_tup (f := fun v => match v with | .int i => nv (ys.getD i.toNat 0) | v => v) (by rw [List.length_map]; exact small hz) (SqT.of ha) (fun v Q hv q => ?_) (fun p hp => ?_)⟩
  · obtain ⟨x, hx, rfl⟩ := List.mem_map.mp hv
    exact ⟨_, rfl, _, rfl, b, _, _, _, rfl, rfl, SqT.of hb, at_nv (hlt x hx), q⟩
  · rw [e]
    exact ⟨p, _, rfl, .inl ⟨SqL.of upd_same, fun t ht => q t _ ((same_new hp _).trans (same_new ht _)) upd_same⟩⟩
end
structure Big (H : Hp) (m : Addr) (ts : List (List Nat)) (n : Nat) : Prop where
  refs : ∃ rs : List Addr, H m = some (.tup (rs.map V.ref)) ∧ rs.length = ts.length ∧ ∀ (i : Nat) r t, rs[i]? = some r → ts[i]? = some t → H r = some (.tup (t.map nv))
  some1 : 1 ≤ ts.length
  few : ts.length ≤ 4
  n1 : 1 ≤ n
  n60 : n ≤ 60
  each : ∀ t ∈ ts, t.length = n ∧ ∀ x ∈ t, x < n
theorem Big.same {H H' : Hp} {m : Addr} {ts : List (List Nat)} {n : Nat} (M : Big H m ts n) (g : Same H H') : Big H' m ts n :=
  ⟨let ⟨rs, h1, h2, h3⟩ := M.refs; ⟨rs, g _ _ h1, h2, fun i r t e1 e2 => g _ _ (h3 i r t e1 e2)⟩, M.some1, M.few, M.n1, M.n60, M.each⟩
theorem Big.at {H : Hp} {m : Addr} {ts : List (List Nat)} {n : Nat} (M : Big H m ts n) {l : Nat} (hl : l < ts.length) :
    ∃ (rs : List Addr) (r : Addr), H m = some (.tup (rs.map V.ref)) ∧ rs.length = ts.length ∧ atI (rs.map V.ref) (l : Int) = some (.ref r) ∧ H r = some (.tup ((ts.getD l []).map nv)) ∧ (ts.getD l []).length = n ∧ ∀ x ∈ ts.getD l [], x < n := by
  obtain ⟨rs, h1, h2, h3⟩ := M.refs
  obtain ⟨r, er⟩ : ∃ r, rs[l]? = some r := ⟨_, List.getElem?_eq_getElem (by omega)⟩
  have et : ts[l]? = some (ts.getD l []) := by rw [List.getD_eq_getElem?_getD, List.getElem?_eq_getElem hl]; rfl
  obtain ⟨e1, e2⟩ := M.each _ (List.mem_of_getElem? et)
  exact ⟨rs, r, h1, h2, atI_nat (by rw [List.getElem?_map, er]; rfl), h3 l r _ er et, e1, e2⟩
theorem Big.in {H : Hp} {m : Addr} {ts : List (List Nat)} {n : Nat} (M : Big H m ts n) {l r : Nat} (hl : l < ts.length) (hr : r < n) : (ts.getD l []).getD r 0 < n := by
  obtain ⟨_, _, _, _, _, _, e1, e2⟩ := M.at hl
  generalize ts.getD l [] = t at e1 e2
  refine e2 _ ?_
  rw [List.getD_eq_getElem?_getD, List.getElem?_eq_getElem (by omega)]
  exact List.getElem_mem _
theorem Big.noT {H : Hp} {m : Addr} {ts : List (List Nat)} {n : Nat} (M : Big H m ts n) : Big (L2.noT H) m ts n :=
  ⟨let ⟨rs, h1, h2, h3⟩ := M.refs; ⟨rs, noT_at h1 (fun _ e => nomatch e), h2, fun i r t e1 e2 => noT_at (h3 i r t e1 e2) fun _ e => nomatch e⟩, M.some1, M.few, M.n1, M.n60, M.each⟩
theorem Big.keeps {H H' : Hp} {m : Addr} {ts : List (List Nat)} {n : Nat} (M : Big H m ts n) (g : Keeps H H') : Big H' m ts n := M.noT.same g
def spLarge (K : PySem.W.Frag) : Sp := fun vs H Q _ => ∃ (a : Addr) (ns : List Int) (st mo : Int), vs = [.ref a, .int st, .int mo] ∧ 1 ≤ mo ∧ mo ≤ 60 ∧ SqL K H a (ns.map V.int) ∧ 0 ≤ st ∧ ∀ m ts n H', Same H H' → Big H' m ts n → Q (.ref m) H'
section
variable {P : Program} {w : World} {K : PySem.W.Frag} {mg : Str → Option Value} {base : Heap} {f : Addr} {fd : FuncData}
theorem ok_large (F : Fun K "_law_large" "_law_large" sLawLarge f fd) (c__law_cell_at : Callee P w K mg base "_law_cell_at" 1 ["_law_script", "_law_k"] (spCellAt K)) (m_range : mg "range" = none) (m_tuple : mg "tuple" = none) (m_min : mg "min" = none) : FnOk P w K mg base CX0 3 f fd ["_law_script", "_law_start", "_law_most"] (spLarge K) := by
  refine F.ok scLawLarge (fun vs H Q E h => ?_) (fun cdv A outer s H vs Q E hr h => ?_)
  · obtain ⟨a, ns, st, mo, rfl, _⟩ := h
    rfl
  obtain ⟨a, ns, st, mo, rfl, mo1, mo60, hS, h0, q⟩ := h
  refine ⟨_, (pss_cons (ps_set (i := 3) scLawLarge.nd rfl (Or.inl rfl) (pe_callD c__law_cell_at (hr.mono (by decide)) rfl (pl_at (pl_cons (pv 0) (pl_cons (pv 1) pl_nil rfl) rfl)))) (pss_cons (ps_set (i := 4) scLawLarge.nd rfl (Or.inl rfl) (pe_op op_add pe_int (pe_op op_mod (pv 3) (pe_ix ix_list (pe_lst (pl_at (pl_cons pe_int (pl_cons (pv 2) pl_nil rfl) rfl))) (pe_op op_mod (pe_op op_fdiv (pv 3) pe_int) pe_int) (fun _ _ => rfl))))) (pss_cons (ps_set (i := 5) scLawLarge.nd rfl (Or.inl rfl) (pe_lst pa_nil)) (pss_cons (ps_for PassesOwn.never rfl (pi_range1 rfl m_range (pa_cons (pe_op op_add pe_int (pe_op op_mod (pe_op op_fdiv (pv 3) pe_int) pe_int)) pa_nil)) (pg_name (i := 6) scLawLarge.nd rfl (Or.inl rfl)) (pss_cons (ps_set (i := 7) scLawLarge.nd rfl (Or.inl rfl) (pe_callD c__law_cell_at (hr.mono (by decide)) rfl (pl_at (pl_cons (pv 0) (pl_cons (pe_op op_add (pe_op op_add (pv 1) pe_int) (pv 6)) pl_nil rfl) rfl)))) (pss_cons (ps_set (i := 8) scLawLarge.nd rfl (Or.inl rfl) (pe_lst pa_nil)) (pss_cons (ps_for PassesOwn.never rfl (pi_range1 rfl m_range (pa_cons (pv 4) pa_nil)) (pg_name (i := 9) scLawLarge.nd rfl (Or.inl rfl)) (pss_cons (ps_set (i := 10) scLawLarge.nd rfl (Or.inl rfl) (pe_op op_mod (pe_op op_mul (pe_op op_add (pe_op op_add (pv 7) (pe_op op_mul (pe_op op_mul pe_int (pv 9)) (pv 9))) pe_int) pe_int) pe_int)) (pss_one (ps_if (pt_cmpR op_eq (pe_op op_mod (pv 7) pe_int) pe_int (nomark _)) (pss_one (ps_expr (pe_bm PySem.F.plainAttrs_list PySem.F.slot_list_append PySem.F.type_list_append mt_append (pv 8) (pa_cons (pe_op op_mod (pv 10) (pv 4)) pa_nil)))) (pss_one (ps_if (pt_cmpR op_eq (pe_op op_mod (pv 7) pe_int) pe_int (nomark _)) (pss_one (ps_expr (pe_bm PySem.F.plainAttrs_list PySem.F.slot_list_append PySem.F.type_list_append mt_append (pv 8) (pa_cons (pe_op op_mod (pe_op op_add (pe_op op_add (pv 9) pe_int) (pe_op op_mod (pe_op op_fdiv (pv 7) pe_int) pe_int)) (pv 4)) pa_nil)))) (pss_one (ps_expr (pe_bm PySem.F.plainAttrs_list PySem.F.slot_list_append PySem.F.type_list_append mt_append (pv 8) (pa_cons (pe_ix ix_list (pe_lst (pl_at (pl_cons (pv 9) (pl_cons (pe_callB (call_min2 rfl) rfl m_min boot_min (pl_at (pl_cons (pe_op op_add (pv 9) pe_int) (pl_cons (pe_op op_sub (pv 4) pe_int) pl_nil rfl) rfl))) (pl_cons pe_int pl_nil rfl) rfl) rfl))) (pe_op op_mod (pe_op op_fdiv (pv 10) pe_int) (pe_op op_add pe_int (pe_op op_mod (pe_op op_fdiv (pv 7) pe_int) pe_int))) (fun _ _ => rfl)) pa_nil)))))))))) (pss_one (ps_expr (pe_bm PySem.F.plainAttrs_list PySem.F.slot_list_append PySem.F.type_list_append mt_append (pv 5) (pa_cons (pe_callTy call_tuple_of rfl m_tuple boot_tuple (pa_cons (pv 8) pa_nil)) pa_nil)))))))) (pss_one (ps_ret (pe_callTy call_tuple_of rfl m_tuple boot_tuple (pa_cons (pv 5) pa_nil)))))))), ?_⟩
  refine ⟨_, rfl, _, rfl, a, ns, st, rfl, h0, hS, fun c => ?_⟩
  refine ⟨_, rfl, _, rfl, by show 2 ≤ sizeLine; decide, fun b hb => ?_⟩
  have kb := same_new hb (.lst [.int 6, .int mo])
  have eb : upd H b (.lst [.int 6, .int mo]) b = some (.lst [.int 6, .int mo]) := upd_same
  generalize upd H b (.lst [.int 6, .int mo]) = H1 at kb eb ⊢
  obtain ⟨dv, d1, d2, dat⟩ : ∃ dv : Int, 0 < dv ∧ dv ≤ 60 ∧ atI [V.int 6, V.int mo] (c / 7 % 2) = some (.int dv) := by
    have h : c / 7 % 2 = 0 ∨ c / 7 % 2 = 1 := by omega
    rcases h with h | h
    · rw [h]
      exact ⟨6, by decide, by decide, rfl⟩
    · rw [h]
      exact ⟨mo, by omega, by omega, rfl⟩
  refine ⟨_, rfl, _, _, rfl, rfl, ⟨by decide, by decide⟩, _, _, rfl, rfl, (by decide : (0 : Int) < 2), b, _, _, _, rfl, rfl, SqL.of eb, dat, _, _, rfl, rfl, d1, _, _, rfl, rfl, ?_⟩
  obtain ⟨n, en, n1, n60⟩ : ∃ n : Nat, (1 + c % dv : Int) = (n : Int) ∧ 1 ≤ n ∧ n ≤ 60 := by
    have z1 := Int.emod_nonneg c (show dv ≠ 0 by omega)
    have z2 := Int.emod_lt_of_pos c d1
    exact ⟨(1 + c % dv).toNat, by omega, by omega, by omega⟩
  try dsimp only
  rw [en]
  have np : (0 : Int) < (n : Int) := by omega
  refine ⟨by show 0 ≤ sizeLine; decide, fun tl ntl => ?_⟩
  have ktl := kb.trans (same_new ntl (.lst []))
  have ntH : H tl = none := kb.free ntl
  obtain ⟨kk, ek, k1, k4⟩ : ∃ k : Nat, (1 + c / 14 % 4 : Int) = (k : Int) ∧ 1 ≤ k ∧ k ≤ 4 := ⟨(1 + c / 14 % 4).toNat, by omega, by omega, by omega⟩
  let Pk : Nat → L2.St → Hp → Prop := fun i σ H' => Same H H' ∧ ∃ (rs : List Addr) (ts : List (List Nat)) (o6 o7 o8 o9 o10 : Option V), H' tl = some (.lst (rs.map .ref)) ∧ rs.length = i ∧ ts.length = i ∧ (∀ (j : Nat) r t, rs[j]? = some r → ts[j]? = some t → H' r = some (.tup (t.map nv))) ∧ (∀ t ∈ ts, t.length = n ∧ ∀ x ∈ t, x < n) ∧ σ = [some (.ref a), some (.int st), some (.int mo), some (.int c), some (.int (n : Int)), some (.ref tl), o6, o7, o8, o9, o10]
  refine ⟨_, rfl, _, _, rfl, rfl, ⟨by decide, by decide⟩, _, _, rfl, rfl, (by decide : (0 : Int) < 4), _, _, rfl, rfl, (kk : Int), (by show [V.int (1 + c / 14 % 4)] = _; rw [ek]), by omega, by omega, for_range Pk ⟨ktl, [], [], none, none, none, none, none, upd_same, rfl, rfl, (fun j r t e => absurd e (by simp)), (fun t ht => absurd ht (by simp)), rfl⟩ (fun i σ H2 hi p => ?_) (fun σ H2 p => ?_)⟩
  · obtain ⟨g2, rs, ts, o6, o7, o8, o9, o10, etl, hrl, htl, hrt, ht, rfl⟩ := p
    have hi' : i < 4 := by
      have : i < kk := by simpa using hi
      omega
    refine ⟨_, rfl, _, rfl, _, _, rfl, rfl, _, rfl, _, _, rfl, rfl, a, ns, _, rfl, by omega, g2.seq hS, fun cl => ?_⟩
    refine ⟨by show 0 ≤ sizeLine; decide, fun tr ntr => ?_⟩
    have ktr := same_new ntr (.lst [])
    have ntrH : H2 tr = none := ntr
    have zi : V.int ((0 : Int) + ((i : Nat) : Int)) = nv i := by show V.int (0 + (i : Int)) = V.int (i : Int); rw [Int.zero_add]
    let Pr : Nat → L2.St → Hp → Prop := fun j σ H' => Same H2 H' ∧ ∃ (ys : List Nat) (o9 o10 : Option V), H' tr = some (.lst (ys.map nv)) ∧ ys.length = j ∧ (∀ y ∈ ys, y < n) ∧ σ = [some (.ref a), some (.int st), some (.int mo), some (.int c), some (.int (n : Int)), some (.ref tl), some (.int (0 + (i : Int))), some (.int cl), some (.ref tr), o9, o10]
    refine ⟨_, rfl, (n : Int), rfl, by omega, by omega, for_range Pr ⟨ktr, [], _, _, upd_same, rfl, (fun y hy => nomatch hy), rfl⟩ (fun j σ H3 hj p => ?_) (fun σ H3 p => ?_)⟩
    · obtain ⟨g3, ys, o9, o10, etr, hyl, hy, rfl⟩ := p
      have hj' : j < n := by simpa using hj
      have e0 : (0 + (j : Int)) = ((j : Nat) : Int) := by omega
      have put : ∀ (x : Nat) (H4 : Hp) (o9 o10 : Option V), x < n → Same H3 H4 → Pr (j + 1) [some (.ref a), some (.int st), some (.int mo), some (.int c), some (.int (n : Int)), some (.ref tl), some (.int (0 + (i : Int))), some (.int cl), some (.ref tr), o9, o10] (upd H4 tr (.lst (ys.map nv ++ [nv x]))) := fun x H4 o9 o10 hx g4 => ⟨same_upd (g3.trans g4) ntrH, ys ++ [x], _, _, by rw [upd_same, List.map_append]; rfl, by rw [List.length_append, hyl]; rfl, fun y hy' => (List.mem_append.mp hy').elim (hy y) fun z => by rw [List.mem_singleton.mp z]; exact hx, rfl⟩
      have jb : CMul (31 * (0 + (j : Int))) (0 + (j : Int)) := .inr ⟨by omega, by omega⟩
      refine ⟨_, rfl, _, rfl, _, _, rfl, rfl, .inl ⟨by decide, by decide⟩, _, rfl, _, _, rfl, rfl, jb, _, _, rfl, rfl, _, _, rfl, rfl, _, _, rfl, rfl, .inr ⟨by decide, by decide⟩, _, _, rfl, rfl, (by decide : (0 : Int) < 2147483647), ?_⟩
      refine ⟨_, rfl, _, _, rfl, rfl, (by decide : (0 : Int) < 3), rfl, _, rfl, ite2 (fun c1 => ?_) (fun c1 => ?_)⟩
      · obtain ⟨m1, m2⟩ := mod_nv ((cl + 31 * (0 + (j : Int)) * (0 + (j : Int)) + 7) * 48271 % 2147483647) n1
        refine ⟨_, rfl, .inl ⟨rfl, _, SqL.of etr⟩, _, rfl, _, rfl, _, _, rfl, rfl, np, tr, _, _, rfl, rfl, etr, by rw [List.length_map, sizeLine_eq]; omega, ?_⟩
        try dsimp only
        rw [m1]
        exact put _ H3 _ _ m2 (Same.refl _)
      refine ⟨_, rfl, _, _, rfl, rfl, (by decide : (0 : Int) < 3), rfl, _, rfl, ite2 (fun c2 => ?_) (fun c2 => ?_)⟩
      · obtain ⟨m1, m2⟩ := mod_nv (0 + (j : Int) + 1 + cl / 3 % 2) n1
        refine ⟨_, rfl, .inl ⟨rfl, _, SqL.of etr⟩, _, rfl, _, _, rfl, rfl, _, rfl, _, _, rfl, rfl, ⟨by decide, by decide⟩, _, _, rfl, rfl, (by decide : (0 : Int) < 2), _, _, rfl, rfl, _, rfl, _, _, rfl, rfl, np, tr, _, _, rfl, rfl, etr, by rw [List.length_map, sizeLine_eq]; omega, ?_⟩
        try dsimp only
        rw [m1]
        exact put _ H3 _ _ m2 (Same.refl _)
      · refine ⟨_, rfl, .inl ⟨rfl, _, SqL.of etr⟩, _, rfl, _, rfl, _, _, rfl, rfl, _, rfl, _, _, rfl, rfl, _, _, rfl, ?_⟩
        refine ⟨by show 3 ≤ sizeLine; decide, fun lb nlb => ?_⟩
        have klb := same_new nlb (.lst [.int (0 + (j : Int)), .int (if ((n : Int) - 1) < (0 + (j : Int) + 1) then (n : Int) - 1 else 0 + (j : Int) + 1), .int 0])
        obtain ⟨x, hx, hat⟩ : ∃ x : Nat, x < n ∧ atI [V.int (0 + (j : Int)), V.int (if ((n : Int) - 1) < (0 + (j : Int) + 1) then (n : Int) - 1 else 0 + (j : Int) + 1), V.int 0] ((cl + 31 * (0 + (j : Int)) * (0 + (j : Int)) + 7) * 48271 % 2147483647 / 4 % (2 + cl / 3 % 2)) = some (nv x) := by
          generalize (cl + 31 * (0 + (j : Int)) * (0 + (j : Int)) + 7) * 48271 % 2147483647 / 4 = q0
          have z1 := Int.emod_nonneg q0 (show 2 + cl / 3 % 2 ≠ 0 by omega)
          have z2 := Int.emod_lt_of_pos q0 (show 0 < 2 + cl / 3 % 2 by omega)
          have h : q0 % (2 + cl / 3 % 2) = 0 ∨ q0 % (2 + cl / 3 % 2) = 1 ∨ q0 % (2 + cl / 3 % 2) = 2 := by omega
          rcases h with h | h | h
          · rw [h]
            exact ⟨j, hj', by show some (V.int (0 + (j : Int))) = some (V.int (j : Int)); rw [Int.zero_add]⟩
          · rw [h]
            refine ⟨(if ((n : Int) - 1) < (0 + (j : Int) + 1) then (n : Int) - 1 else 0 + (j : Int) + 1).toNat, by split <;> omega, ?_⟩
            show some (V.int _) = some (V.int _)
            rw [Int.toNat_of_nonneg (by split <;> omega)]
          · rw [h]
            exact ⟨0, by omega, rfl⟩
        refine ⟨_, rfl, _, _, rfl, rfl, ⟨by decide, by decide⟩, _, rfl, _, _, rfl, rfl, ⟨by decide, by decide⟩, _, _, rfl, rfl, (by decide : (0 : Int) < 2), _, _, rfl, rfl, _, _, rfl, rfl, (show (0 : Int) < 2 + cl / 3 % 2 by omega), lb, _, _, _, rfl, rfl, SqL.of upd_same, hat, tr, _, _, rfl, rfl, klb _ _ etr, by rw [List.length_map, sizeLine_eq]; omega, ?_⟩
        exact put _ _ _ _ hx klb
    · obtain ⟨g3, ys, o9, o10, etr, hyl, hy, rfl⟩ := p
      rw [Int.toNat_natCast] at hyl
      have etl3 := g3 _ _ etl
      refine ⟨_, rfl, .inl ⟨rfl, _, SqL.of etl3⟩, _, rfl, tr, _, rfl, .inl ⟨SqL.of etr, fun tp ntp => ?_⟩⟩
      have ktp := same_new ntp (.tup (ys.map nv))
      have etp : upd H3 tp (.tup (ys.map nv)) tp = some (.tup (ys.map nv)) := upd_same
      have etl4 := ktp _ _ etl3
      have g4 := g3.trans ktp
      generalize upd H3 tp (.tup (ys.map nv)) = H4 at ktp etp etl4 g4 ⊢
      refine ⟨tl, _, _, rfl, rfl, etl4, by rw [List.length_map, sizeLine_eq]; omega, ?_⟩
      have off : ∀ {b : Addr} {vs : List V}, H4 b = some (.tup vs) → upd H4 tl (.lst (rs.map V.ref ++ [.ref tp])) b = some (.tup vs) := fun h => by
        rw [upd_ne (ne_of h etl4 fun z => nomatch z)]
        exact h
      refine ⟨same_upd (g2.trans g4) ntH, rs ++ [tp], ts ++ [ys], _, _, _, _, _, by rw [upd_same, List.map_append]; rfl, by simp [hrl], by simp [htl], fun j' r' t' e1 e2 => ?_, fun t' ht' => ?_, rfl⟩
      · by_cases hj : j' < i
        · rw [List.getElem?_append_left (by omega)] at e1 e2
          exact off (g4 _ _ (hrt j' r' t' e1 e2))
        · have hj2 : j' = i := by
            have := (List.getElem?_eq_some_iff.mp e1).1
            rw [List.length_append, hrl] at this
            have : j' < i + 1 := this
            omega
          rw [List.getElem?_append_right (by omega)] at e1 e2
          rw [hj2, hrl, Nat.sub_self] at e1
          rw [hj2, htl, Nat.sub_self] at e2
          cases e1
          cases e2
          exact off etp
      · rcases List.mem_append.mp ht' with z | z
        · exact ht t' z
        · rw [List.mem_singleton.mp z]
          exact ⟨hyl, hy⟩
  · obtain ⟨g2, rs, ts, o6, o7, o8, o9, o10, etl, hrl, htl, hrt, ht, rfl⟩ := p
    rw [Int.toNat_natCast] at hrl htl
    refine ⟨_, rfl, tl, _, rfl, .inl ⟨SqL.of etl, fun tp ntp => ?_⟩⟩
    have ktp := same_new ntp (.tup (rs.map V.ref))
    exact q tp ts n _ (g2.trans ktp) ⟨⟨rs, upd_same, by omega, fun j' r' t' e1 e2 => ktp _ _ (hrt j' r' t' e1 e2)⟩, by omega, by omega, n1, n60, ht⟩
end
def spSeen (K : PySem.W.Frag) : Sp := fun vs H Q _ => ∃ (a : Addr) (ns : List Int) (st : Int) (n : Nat), vs = [.ref a, .int st, nv n] ∧ SqL K H a (ns.map V.int) ∧ 0 ≤ st ∧ 1 ≤ n ∧ n ≤ 60 ∧ ∀ (p : Addr) (zs : List Int) H', Same H H' → H' p = some (.tup (zs.map V.int)) → zs.length = n → Q (.ref p) H'
section
variable {P : Program} {w : World} {K : PySem.W.Frag} {mg : Str → Option Value} {base : Heap} {f : Addr} {fd : FuncData}
theorem ok_seen (F : Fun K "_law_seen" "_law_seen" sLawSeen f fd) (c__law_cell_at : Callee P w K mg base "_law_cell_at" 1 ["_law_script", "_law_k"] (spCellAt K)) (m_range : mg "range" = none) (m_tuple : mg "tuple" = none) (m_int : mg "int" = none) : FnOk P w K mg base CX0 3 f fd ["_law_script", "_law_start", "_law_rooms"] (spSeen K) := by
  refine F.ok scLawSeen (fun vs H Q E h => ?_) (fun cdv A outer s H vs Q E hr h => ?_)
  · obtain ⟨a, ns, st, n, rfl, _⟩ := h
    rfl
  obtain ⟨a, ns, st, n, rfl, hS, h0, n1, n60, q⟩ := h
  have np : (0 : Int) < (n : Int) := by omega
  refine ⟨_, (pss_cons (ps_set (i := 3) scLawSeen.nd rfl (Or.inl rfl) (pe_callD c__law_cell_at (hr.mono (by decide)) rfl (pl_at (pl_cons (pv 0) (pl_cons (pv 1) pl_nil rfl) rfl)))) (pss_cons (ps_setC1 (CompSc.to (N := ["_law_script", "_law_start", "_law_rooms", "_law_cell", "_law_some", "_law_seen_here", "_law_room", "_law_number"]) (osc := defScope sLawSeen) (vs := ["_law_k"]) ⟨rfl, by decide +kernel, by decide +kernel, by decide +kernel, by decide +kernel, by decide +kernel, by decide +kernel⟩) rfl rfl scLawSeen.nd (j := 4) rfl rfl (pi_range1 rfl m_range (pa_cons pe_int pa_nil)) (fun _ _ _ _ => pts_nil) (fun _ _ _ _ => (pe_op op_sub (pe_op op_mod (pe_callD c__law_cell_at (hr.mono (by decide)) rfl (pl_at (pl_cons (pv 1) (pl_cons (pe_op op_add (pe_op op_add (pv 2) pe_int) (pv 0)) pl_nil rfl) rfl))) (pe_op op_mul pe_int (pe_op op_pow pe_int pe_int))) (pe_op op_pow pe_int pe_int)))) (pss_cons (ps_set (i := 5) scLawSeen.nd rfl (Or.inl rfl) (pe_lst pa_nil)) (pss_cons (ps_for PassesOwn.never rfl (pi_range1 rfl m_range (pa_cons (pv 2) pa_nil)) (pg_name (i := 6) scLawSeen.nd rfl (Or.inl rfl)) (pss_cons (ps_set (i := 7) scLawSeen.nd rfl (Or.inl rfl) (pe_op op_mod (pe_op op_mul (pe_op op_add (pe_op op_add (pv 3) (pe_op op_mul (pe_op op_mul pe_int (pv 6)) (pv 6))) pe_int) pe_int) pe_int)) (pss_one (ps_if (pt_cmpR op_eq (pe_op op_mod (pv 3) pe_int) pe_int (nomark _)) (pss_one (ps_expr (pe_bm PySem.F.plainAttrs_list PySem.F.slot_list_append PySem.F.type_list_append mt_append (pv 5) (pa_cons (pe_ix ix_list (pv 4) (pe_op op_mod (pe_op op_fdiv (pv 7) pe_int) pe_int) (fun _ _ => rfl)) pa_nil)))) (pss_one (ps_if (pt_cmpR op_eq (pe_op op_mod (pv 3) pe_int) pe_int (nomark _)) (pss_one (ps_expr (pe_bm PySem.F.plainAttrs_list PySem.F.slot_list_append PySem.F.type_list_append mt_append (pv 5) (pa_cons (pe_ix ix_list (pv 4) (pe_callTy call_int1 rfl m_int boot_int (pa_cons (pe_cmpR op_eq (pv 6) (pe_op op_mod (pe_op op_fdiv (pv 3) pe_int) (pv 2)) (nomark _)) pa_nil)) (fun _ _ => rfl)) pa_nil)))) (pss_one (ps_expr (pe_bm PySem.F.plainAttrs_list PySem.F.slot_list_append PySem.F.type_list_append mt_append (pv 5) (pa_cons (pe_ix ix_list (pv 4) (pe_callTy call_int1 rfl m_int boot_int (pa_cons (pe_cmpR op_eq (pe_op op_mod (pe_op op_fdiv (pv 7) pe_int) pe_int) pe_int (nomark _)) pa_nil)) (fun _ _ => rfl)) pa_nil)))))))))) (pss_one (ps_ret (pe_callTy call_tuple_of rfl m_tuple boot_tuple (pa_cons (pv 5) pa_nil)))))))), ?_⟩
  refine ⟨_, rfl, _, rfl, a, ns, st, rfl, h0, hS, fun c => ?_⟩
  have p30 : (0 : Int) < 2 * 10 ^ (30 : Int).toNat := Int.mul_pos (by decide) (Int.pow_pos (by decide))
  refine ⟨3, rfl, by decide, by decide, comp_range (fun i ys H' => H' = H ∧ ∃ vs : List Int, ys = vs.map V.int ∧ vs.length = i) (by show 3 ≤ sizeLine; decide) ⟨rfl, [], rfl, rfl⟩ (fun i ys H' _ p => ?_) (fun i ys H' hi p => ?_) (fun ys H' p so nso => ?_)⟩
  · obtain ⟨_, vs, rfl, e⟩ := p
    rw [List.length_map]
    omega
  · obtain ⟨rfl, vs, rfl, e⟩ := p
    refine ⟨keep_one, yes_of ⟨_, rfl, _, rfl, _, _, rfl, rfl, _, rfl, _, _, rfl, rfl, a, ns, _, rfl, by omega, hS, fun c' => ?_⟩⟩
    refine ⟨_, _, rfl, rfl, ⟨by decide, by decide, by decide⟩, _, _, rfl, rfl, .inl ⟨by decide, by decide⟩, _, _, rfl, rfl, p30, _, _, rfl, rfl, ⟨by decide, by decide, by decide⟩, _, _, rfl, rfl, rfl, vs ++ [_], by rw [List.map_append]; rfl, by simp [e]⟩
  obtain ⟨rfl, vs, rfl, lv⟩ := p
  have ks := same_new nso (.lst (vs.map V.int))
  have eso : upd H' so (.lst (vs.map V.int)) so = some (.lst (vs.map V.int)) := upd_same
  generalize upd H' so (.lst (vs.map V.int)) = H1 at ks eso ⊢
  have lv3 : vs.length = 3 := lv
  have at3 : ∀ ix : Int, 0 ≤ ix → ix < 3 → ∃ z : Int, atI (vs.map V.int) ix = some (.int z) := fun ix i1 i2 => by
    have e : ix = ((ix.toNat : Nat) : Int) := by omega
    rw [e]
    exact ⟨_, at_int (by omega)⟩
  refine ⟨by show 0 ≤ sizeLine; decide, fun sl nsl => ?_⟩
  have ksl := same_new nsl (.lst [])
  have nslH : H1 sl = none := nsl
  let Pr : Nat → L2.St → Hp → Prop := fun j σ H' => Same H1 H' ∧ ∃ (ys : List Int) (o6 o7 : Option V), H' sl = some (.lst (ys.map V.int)) ∧ ys.length = j ∧ σ = [some (.ref a), some (.int st), some (nv n), some (.int c), some (.ref so), some (.ref sl), o6, o7]
  refine ⟨_, rfl, (n : Int), rfl, by omega, by omega, for_range Pr ⟨ksl, [], none, none, upd_same, rfl, rfl⟩ (fun j σ H3 hj p => ?_) (fun σ H3 p => ?_)⟩
  · obtain ⟨g3, ys, o6, o7, esl, hyl, rfl⟩ := p
    have hj' : j < n := by simpa using hj
    have jb : CMul (17 * (0 + (j : Int))) (0 + (j : Int)) := .inr ⟨by omega, by omega⟩
    have eso3 := g3 _ _ eso
    have put : ∀ (z : Int) (o6 o7 : Option V), Pr (j + 1) [some (.ref a), some (.int st), some (nv n), some (.int c), some (.ref so), some (.ref sl), o6, o7] (upd H3 sl (.lst (ys.map V.int ++ [.int z]))) := fun z o6 o7 => ⟨same_upd g3 nslH, ys ++ [z], _, _, by rw [upd_same, List.map_append]; rfl, by rw [List.length_append, hyl]; rfl, rfl⟩
    have sz : (ys.map V.int).length + 1 ≤ sizeLine := by rw [List.length_map, sizeLine_eq]; omega
    refine ⟨_, rfl, _, rfl, _, _, rfl, rfl, .inl ⟨by decide, by decide⟩, _, rfl, _, _, rfl, rfl, jb, _, _, rfl, rfl, _, _, rfl, rfl, _, _, rfl, rfl, .inr ⟨by decide, by decide⟩, _, _, rfl, rfl, (by decide : (0 : Int) < 2147483629), ?_⟩
    refine ⟨_, rfl, _, _, rfl, rfl, (by decide : (0 : Int) < 3), rfl, _, rfl, ite2 (fun c1 => ?_) (fun c1 => ?_)⟩
    · obtain ⟨z, hat⟩ := at3 ((c + 17 * (0 + (j : Int)) * (0 + (j : Int)) + 3) * 69621 % 2147483629 / 8 % 3) (by omega) (by omega)
      exact ⟨_, rfl, .inl ⟨rfl, _, SqL.of esl⟩, _, rfl, _, rfl, _, _, rfl, rfl, ⟨by decide, by decide⟩, _, _, rfl, rfl, (by decide : (0 : Int) < 3), so, _, _, _, rfl, rfl, SqL.of eso3, hat, sl, _, _, rfl, rfl, esl, sz, put z _ _⟩
    refine ⟨_, rfl, _, _, rfl, rfl, (by decide : (0 : Int) < 3), rfl, _, rfl, ite2 (fun c2 => ?_) (fun c2 => ?_)⟩
    · refine ⟨_, rfl, .inl ⟨rfl, _, SqL.of esl⟩, _, rfl, _, rfl, _, rfl, _, _, rfl, rfl, ⟨by decide, by decide⟩, _, rfl, _, _, rfl, rfl, np, rfl, .inr ⟨_, rfl, ?_⟩⟩
      obtain ⟨z, hat⟩ := at3 (if decide (V.int (0 + (j : Int)) = V.int (c / 3 % (n : Int))) then 1 else 0) (by split <;> omega) (by split <;> omega)
      exact ⟨so, _, _, _, rfl, rfl, SqL.of eso3, hat, sl, _, _, rfl, rfl, esl, sz, put z _ _⟩
    · refine ⟨_, rfl, .inl ⟨rfl, _, SqL.of esl⟩, _, rfl, _, rfl, _, _, rfl, rfl, ⟨by decide, by decide⟩, _, _, rfl, rfl, (by decide : (0 : Int) < 6), rfl, .inr ⟨_, rfl, ?_⟩⟩
      obtain ⟨z, hat⟩ := at3 (if decide (V.int ((c + 17 * (0 + (j : Int)) * (0 + (j : Int)) + 3) * 69621 % 2147483629 / 8 % 6) = V.int 0) then 1 else 0) (by split <;> omega) (by split <;> omega)
      exact ⟨so, _, _, _, rfl, rfl, SqL.of eso3, hat, sl, _, _, rfl, rfl, esl, sz, put z _ _⟩
  · obtain ⟨g3, ys, o6, o7, esl, hyl, rfl⟩ := p
    rw [Int.toNat_natCast] at hyl
    refine ⟨_, rfl, sl, _, rfl, .inl ⟨SqL.of esl, fun tp ntp => ?_⟩⟩
    exact q tp ys _ ((ks.trans g3).trans (same_new ntp _)) upd_same hyl
end
def spReached (P : Program) (w : World) (K : PySem.W.Frag) (mg : Str → Option Value) (base : Heap) : Sp := fun vs H Q _ => ∃ (a st : Addr) (fd : FuncData) (ps : List Str) (x0 : List Nat) (L : Nat) (U : List (List Nat)) (g : List Nat → Nat → List Nat),
  vs = [.ref a, nv L, .ref st, .non] ∧ H a = some (.tup (x0.map nv)) ∧ H st = some (LamO st fd) ∧ x0 ∈ U ∧ (∀ x ∈ U, ∀ l, l < L → g x l ∈ U) ∧ U.length ≤ 4000 ∧ L ≤ 4000 ∧ FnOk P w K mg base CX0 5 st fd ps (spStep (Same H) U L g) ∧ Binds K fd ps [] ∧
  ∀ D ws as H', Same H H' → WordsAt H' D ws as → (∀ b ∈ D :: as, H b = none) → Told g L x0 ws → Q (.ref D) H'
def spReachedI (P : Program) (w : World) (K : PySem.W.Frag) (mg : Str → Option Value) (base : Heap) : Sp := fun vs H Q _ => ∃ (st : Addr) (fd : FuncData) (ps : List Str) (x0 : List Nat) (L : Nat) (U : List (List Nat)) (g : List Nat → Nat → List Nat),
  vs = [nv (hd x0), nv L, .ref st, .non] ∧ H st = some (LamO st fd) ∧ (∀ x ∈ U, x = [hd x]) ∧ x0 ∈ U ∧ (∀ x ∈ U, ∀ l, l < L → g x l ∈ U) ∧ U.length ≤ 4000 ∧ L ≤ 4000 ∧ FnOk P w K mg base CX0 5 st fd ps (spStepI (Same H) U L g) ∧ Binds K fd ps [] ∧
  ∀ D ws as H', Same H H' → WordsI H' D ws as → (∀ b ∈ D :: as, H b = none) → Told g L x0 ws → Q (.ref D) H'
def spBoth (P : Program) (w : World) (K : PySem.W.Frag) (mg : Str → Option Value) (base : Heap) : Sp := fun vs H Q E => spReached P w K mg base vs H Q E ∨ spReachedI P w K mg base vs H Q E
theorem _root_.L2.CalleeD.l {P : Program} {w : World} {K : PySem.W.Frag} {mg : Str → Option Value} {base : Heap} {x : Str} {k : Nat} {ps : List Str} {dvs : List V} (c : CalleeD P w K mg base x k ps (spBoth P w K mg base) dvs) : CalleeD P w K mg base x k ps (spReached P w K mg base) dvs := let ⟨f, fd, ds, F, r⟩ := c; ⟨f, fd, ds, F.imp fun _ _ _ _ h => .inl h, r⟩
theorem _root_.L2.CalleeD.r {P : Program} {w : World} {K : PySem.W.Frag} {mg : Str → Option Value} {base : Heap} {x : Str} {k : Nat} {ps : List Str} {dvs : List V} (c : CalleeD P w K mg base x k ps (spBoth P w K mg base) dvs) : CalleeD P w K mg base x k ps (spReachedI P w K mg base) dvs := let ⟨f, fd, ds, F, r⟩ := c; ⟨f, fd, ds, F.imp fun _ _ _ _ h => .inr h, r⟩
section
variable {P : Program} {w : World} {K : PySem.W.Frag} {mg : Str → Option Value} {base : Heap} {f : Addr} {fd : FuncData}
theorem ok_refuse_more (F : Fun K "refuse_more" "refuse_more" sRefuseMore f fd) (m_len : mg "len" = none) : FnOk P w K mg base CX0 1 f fd ["things", "most"] spRefuse := by
  refine F.ok scRefuseMore (fun vs H Q E h => ?_) (fun cdv A outer s H vs Q E hr h => ?_)
  · obtain ⟨d, rfl, _⟩ := h
    rfl
  obtain ⟨d, rfl, q⟩ := h
  refine ⟨_, (pss_one (ps_if (PW.pt (pw_and (pt_cmpR op_notN (pv 1) pe_non (nomark _)) (pw_and1 (pt_cmpR op_gt (pe_callB call_lenT rfl m_len boot_len (pa_cons (pv 0) pa_nil)) (pv 1) (nomark _))))) (pss_one ps_never) pss_nil)), ?_⟩
  exact ⟨_, rfl, rfl, _, rfl, q⟩
theorem ok_reached {fdv cv : Value} (F : DefAt K "reached" sReached f fd fdv cv) (c_refuse_more : Callee P w K mg base "refuse_more" 1 ["things", "most"] spRefuse) (m_range : mg "range" = none) : FnOk P w K mg base CX0 8 f fd ["start", "letters", "step", "most"] (spBoth P w K mg base) := by
  refine F.fnOk scReached (fun vs H Q E h => ?_) (fun A outer s H vs Q E h hr => ?_)
  · rcases h with h | h
    · obtain ⟨a, st, fd, ps, x0, L, U, g, rfl, _⟩ := h
      rfl
    · obtain ⟨st, fd, ps, x0, L, U, g, rfl, _⟩ := h
      rfl
  have hu1 := hu_of hr
  refine ⟨_, ?_, (pss_cons (ps_set (i := 4) scReached.nd rfl (Or.inl rfl) (pe_disp1B hu1 (pv 0) (pe_lst pa_nil))) (pss_cons (ps_expr (pe_callD c_refuse_more (hr.mono (by decide)) rfl (pl_at (pl_cons (pv 4) (pl_cons (pv 3) pl_nil rfl) rfl)))) (pss_cons (ps_set (i := 5) scReached.nd rfl (Or.inl rfl) (pe_lst (pa_cons (pv 0) pa_nil))) (pss_cons (ps_while PassesOwn.never (pt_truth (pv 5) (fun _ => rfl)) (pss_cons (ps_set (i := 6) scReached.nd rfl (Or.inl rfl) (pe_lst pa_nil)) (pss_cons (ps_for PassesOwn.never rfl (pi_list (pv 5)) (pg_name (i := 7) scReached.nd rfl (Or.inl rfl)) (pss_one (ps_for PassesOwn.never rfl (pi_range1 rfl m_range (pa_cons (pv 1) pa_nil)) (pg_name (i := 8) scReached.nd rfl (Or.inl rfl)) (pss_cons (ps_set (i := 9) scReached.nd rfl (Or.inl rfl) (pe_callV 2 (pv 2) (pl_at (pl_cons (pv 7) (pl_cons (pv 8) pl_nil rfl) rfl)))) (pss_one (ps_if (pt_cmp (pc_dnotin hu1 (pv 9) (pv 4))) (pss_cons (ps_dput hu1 (pv 4) (pv 9) (pe_op op_catS (pe_dget hu1 (pv 4) (pv 7) (fun _ _ => rfl)) (pe_lst (pa_cons (pv 8) pa_nil))) rfl) (pss_cons (ps_expr (pe_callD c_refuse_more (hr.mono (by decide)) rfl (pl_at (pl_cons (pv 4) (pl_cons (pv 3) pl_nil rfl) rfl)))) (pss_one (ps_expr (pe_bm PySem.F.plainAttrs_list PySem.F.slot_list_append PySem.F.type_list_append mt_append (pv 6) (pa_cons (pv 9) pa_nil)))))) pss_nil)))))) (pss_one (ps_set (i := 5) scReached.nd rfl (Or.inl rfl) (pv 6)))))) (pss_one (ps_ret (pv 4)))))))⟩
  rcases h with h | h
  · obtain ⟨a, st, sd, ps, x0, L, U, g, rfl, ha, hst, h0, hU, few, fewL, hF, hB, q⟩ := h
    exact .inl (reach_read (hr.mono (by decide)) ha hst h0 hU few fewL hF hB q)
  · obtain ⟨st, sd, ps, x0, L, U, g, rfl, hst, hS, h0, hU, few, fewL, hF, hB, q⟩ := h
    exact reach_readI (hr.mono (by decide)) hst hS h0 hU few fewL hF hB q
end
def beh2 (ts : List (List Nat)) (x : List Nat) (l : Nat) : List Nat := x.map fun r => (ts.getD l []).getD r 0
def unl (zs : List Int) (x : List Nat) : Bool := !decide (zs.getD (x.getD 0 0) 0 = zs.getD (x.getD 1 0) 0)
def pairsU (n : Nat) : List (List Nat) := (List.range n).flatMap fun a => (List.range n).map fun b => [a, b]
theorem mem_pairsU {n : Nat} {x : List Nat} : x ∈ pairsU n ↔ ∃ a b, a < n ∧ b < n ∧ x = [a, b] := by
  unfold pairsU
  rw [List.mem_flatMap]
  constructor
  · rintro ⟨a, ha, hx⟩
    obtain ⟨b, hb, rfl⟩ := List.mem_map.mp hx
    exact ⟨a, b, List.mem_range.mp ha, List.mem_range.mp hb, rfl⟩
  · rintro ⟨a, b, ha, hb, rfl⟩
    exact ⟨a, List.mem_range.mpr ha, List.mem_map.mpr ⟨b, List.mem_range.mpr hb, rfl⟩⟩
theorem pairsU_len (n : Nat) : (pairsU n).length = n * n := by
  unfold pairsU
  rw [List.length_flatMap]
  have e : (List.range n).map (fun a => ((List.range n).map fun b => [a, b]).length) = (List.range n).map fun _ => n := by
    refine List.map_congr_left fun a _ => ?_
    rw [List.length_map, List.length_range]
  rw [e]
  clear e
  have : ∀ k, ((List.range k).map fun _ => n).sum = k * n := fun k => by
    induction k with
    | zero => simp
    | succ k ih => rw [List.range_succ, List.map_append, List.sum_append, ih, Nat.succ_mul]; simp
  exact this n
termination_by (U.length - ws.length, ws.length - i, L - j)
decreasing_by
  all_goals simp_wf
  · exact Prod.Lex.right _ (Prod.Lex.left _ _ (by omega))
  · exact Prod.Lex.right _ (Prod.Lex.right _ (by omega))
  · exact Prod.Lex.left _ _ (by omega)
def swp (x : List Nat) : List Nat := [x.getD 1 0, x.getD 0 0]
def firstW (zs : List Int) (ws : TW) : Option (List Nat) := (ws.find? fun p => unl zs p.1).map (·.2)
theorem first_at_i {zs : List Int} {ws vs : TW} {i : Nat} {p : List Nat × List Nat} (hp : ws[i]? = some p) (hu : unl zs p.1 = true) (no : ∀ (j : Nat) q, j < i → ws[j]? = some q → unl zs q.1 = false) : firstW zs (ws ++ vs) = some p.2 := by
  have li := (List.getElem?_eq_some_iff.mp hp).1
  unfold firstW
  have e : (ws ++ vs).find? (fun p => unl zs p.1) = some p := by
    rw [List.find?_eq_some_iff_getElem]
    refine ⟨hu, i, by rw [List.length_append]; omega, ?_, fun j hj => ?_⟩
    · have := List.getElem?_eq_some_iff.mp hp
      rw [List.getElem_append_left li]
      exact this.2
    · have lj : j < ws.length := by omega
      rw [List.getElem_append_left lj, no j ws[j] hj (List.getElem?_eq_getElem lj)]
      rfl
  rw [e]
  rfl
theorem first_none {zs : List Int} {ws : TW} (no : ∀ (j : Nat) q, ws[j]? = some q → unl zs q.1 = false) : firstW zs ws = none := by
  unfold firstW
  rw [Option.map_eq_none_iff, List.find?_eq_none]
  intro p hp
  obtain ⟨j, ej⟩ := List.mem_iff_getElem?.mp hp
  rw [no j p ej]
  decide
def WordIs (o : Option (List Nat)) (H H' : Hp) (v : V) : Prop := match o with
  | some u => ∃ c, v = .ref c ∧ H' c = some (.lst (u.map nv)) ∧ L2.noT H c = none ∧ u.length ≤ 4000
  | none => v = .non
def spParting (T : Addr) (pos : Pos) : Sp := fun vs H Q _ => ∃ (m se : Addr) (ts : List (List Nat)) (n : Nat) (zs : List Int) (one other : Nat), vs = [.ref m, .ref se, nv one, nv other] ∧ Big H m ts n ∧ H se = some (.tup (zs.map V.int)) ∧ zs.length = n ∧ one < n ∧ other < n ∧ TabOk "parting.<locals>.<lambda>" pos H T ∧
  ∀ v ws H', Keeps H H' → TabOk "parting.<locals>.<lambda>" pos H' T → Told (beh2 ts) ts.length [one, other] ws → WordIs (firstW zs ws) H H' v → Q v H'
theorem Big.drop {H : Hp} {m c : Addr} {ts : List (List Nat)} {n : Nat} {φ : Heap → Prop} (M : Big H m ts n) (hc : H c = some (.ext φ)) : Big (L2.drop H c) m ts n := by
  obtain ⟨rs, h1, h2, h3⟩ := M.refs
  refine ⟨⟨rs, ?_, h2, fun i r t e1 e2 => ?_⟩, M.some1, M.few, M.n1, M.n60, M.each⟩
  · rw [drop_ne (ne_of h1 hc fun e => nomatch e)]
    exact h1
  · have z := h3 i r t e1 e2
    rw [drop_ne (ne_of z hc fun e => nomatch e)]
    exact z
theorem Big.pairs {H : Hp} {m : Addr} {ts : List (List Nat)} {n : Nat} (M : Big H m ts n) : ∀ x ∈ pairsU n, ∀ l, l < ts.length → beh2 ts x l ∈ pairsU n := fun x hx l hl => by
  obtain ⟨a, b, ha, hb, rfl⟩ := mem_pairsU.mp hx
  exact mem_pairsU.mpr ⟨_, _, M.in hl ha, M.in hl hb, rfl⟩
theorem made1 {H : Hp} {T fl cc : Addr} (pos : Pos) (qual : Str) (hT : H T = some (.tbl #[])) (hfl : H fl = none) (hcc : H cc = none) (ne : fl ≠ cc) (lo : HO) : Keeps H (upd (upd (upd H T (.tbl (triple pos cc))) cc (CodeO cc qual)) fl lo) ∧
    (upd (upd (upd H T (.tbl (triple pos cc))) cc (CodeO cc qual)) fl lo) T = some (.tbl (triple pos cc)) ∧ (upd (upd (upd H T (.tbl (triple pos cc))) cc (CodeO cc qual)) fl lo) cc = some (CodeO cc qual) := by
  refine ⟨fun b o hb => ?_, ?_, ?_⟩
  · obtain ⟨z, nt⟩ := of_noT hb
    rw [upd_ne (ne_of_none z hfl), upd_ne (ne_of_none z hcc), upd_ne (ne_of z hT fun e => nt _ e)]
    exact z
  · rw [upd_ne (ne_of_none hT hfl), upd_ne (ne_of_none hT hcc), upd_same]
  · rw [upd_ne (Ne.symm ne), upd_same]
section
variable {P : Program} {w : World} {K : PySem.W.Frag} {mg : Str → Option Value} {base : Heap} {f : Addr} {fd : FuncData}
theorem lam_part {fl c m cc : Addr} {oc : Obj} {ts : List (List Nat)} {n : Nat} {Hc : Hp} {pm ct : Value} {params : Arguments} {body : Expr} {scope : Scope} {fx a1 a2 : Expr} {kw : List Keyword} {tgs : List Expr} {rest : List Stmt} {lp cp rp : Pos} (e : defBody sParting = .Assign tgs (.Call fx [a1, a2, .Lambda params body scope lp] kw cp) rp :: rest)
    (c_behind : Callee P w K mg base "behind" 1 ["one", "other"] spBehind) (M : Big Hc m ts n) (h1 : Hc fl = some (LamO fl (lamFd "parting.<locals>.<lambda>" params body scope "turns" c pm (.ref cc) ct))) (h2 : Hc c = some (CellO c m oc)) (h3 : Hc cc = some (CodeO cc "parting.<locals>.<lambda>")) :
    FnOk P w K mg base CX0 5 fl (lamFd "parting.<locals>.<lambda>" params body scope "turns" c pm (.ref cc) ct) ["pair", "letter"] (spStep (Same Hc) (pairsU n) ts.length (beh2 ts)) ∧ Binds K (lamFd "parting.<locals>.<lambda>" params body scope "turns" c pm (.ref cc) ct) ["pair", "letter"] [] := by
  cases e
  refine ⟨lam_fn (k := 4) (m := m) (oc := oc) ⟨rfl, rfl, rfl, by decide +kernel, by decide +kernel, rfl, by decide +kernel⟩ (fun vs H Q E h => ?_) (fun vs H Q E h => ?_) (fun A outer s H vs Q E hr h => ?_), .all fun us hl => match us, hl with | [_, _], _ => rfl⟩
  · obtain ⟨t, x, l, rfl, _⟩ := h
    rfl
  · obtain ⟨t, x, l, rfl, g, _⟩ := h
    exact ⟨g _ _ h1, g _ _ h2, g _ _ h3⟩
  · obtain ⟨t, x, l, rfl, g, ht, hx, hl, q⟩ := h
    refine ⟨_, (pe_callD c_behind (hr.mono (by decide)) rfl (pl_at (pl_cons (pv 0) (pl_cons (pe_ix ix_tup (pv 2) (pv 1) (fun _ _ => rfl)) pl_nil rfl) rfl))), ?_⟩
    obtain ⟨a, b, ha, hb, rfl⟩ := mem_pairsU.mp hx
    have hc := g _ _ h2
    have M1 := (M.same g).drop hc
    have ht1 : (L2.drop H c) t = some (.tup ([a, b].map nv)) := by rw [drop_ne (ne_of ht hc fun e => nomatch e)]; exact ht
    obtain ⟨rs, r, b1, b2, b3, b4, b5, b6⟩ := M1.at hl
    refine ⟨_, rfl, _, rfl, _, rfl, m, _, _, _, rfl, rfl, SqT.of b1, b3, t, r, [a, b], ts.getD l [], rfl, ht1, b4, fun y hy => ?_, by show 2 ≤ 1000; decide, fun p H3 g3 e3 free => q p _ (fun y o ho => ?_) ?_⟩
    · rw [b5]
      simp only [List.mem_cons, List.not_mem_nil, or_false] at hy
      rcases hy with rfl | rfl
      · exact ha
      · exact hb
    · by_cases hy : y = c
      · subst hy
        rw [hc] at ho
        cases ho
        exact upd_same
      · rw [upd_ne hy]
        exact g3 _ _ (by rw [drop_ne hy]; exact ho)
    · rw [upd_ne (ne_of_none e3 free)]
      exact e3
theorem go_part {T p m c : Addr} {H0 : Hp} {ts : List (List Nat)} {n one other : Nat} {σ : L2.St} {R : V → Hp → Prop} {pm : Value} {params : Arguments} {body : Expr} {scope : Scope} {fx a1 a2 : Expr} {kw : List Keyword} {tgs : List Expr} {rst : List Stmt} {lp cp rp : Pos} (e : defBody sParting = .Assign tgs (.Call fx [a1, a2, .Lambda params body scope lp] kw cp) rp :: rst) (c_behind : Callee P w K mg base "behind" 1 ["one", "other"] spBehind)
    (M0 : Big H0 m ts n) (hp : H0 p = some (.tup ([one, other].map nv))) (h1 : one < n) (h2 : other < n) (hT : TabOk "parting.<locals>.<lambda>" (⟨33, 46, 33, 94⟩ : Pos) H0 T) (hσ : σ[0]? = some (some (.ref m)))
    (rest : ∀ D ws as H', Keeps H0 H' → TabOk "parting.<locals>.<lambda>" (⟨33, 46, 33, 94⟩ : Pos) H' T → WordsAt H' D ws as → (∀ b ∈ D :: as, L2.noT H0 b = none) → Told (beh2 ts) ts.length [one, other] ws → R (.ref D) H') :
    tCons (tLam T "parting.<locals>.<lambda>" params body scope "turns" c pm (⟨33, 46, 33, 94⟩ : Pos)) tNil σ H0 fun xs H2 => ∃ m1, σ[0]? = some (some (.ref m1)) ∧ ∀ oc, H2 c = none → spReached P w K mg base (.ref p :: .int (ts.length : Int) :: xs ++ [.non]) (upd H2 c (CellO c m1 oc)) (fun r H2 => H2 c = some (CellO c m1 oc) ∧ R r (L2.drop H2 c)) E0 := by
  have n60 := M0.n60
  have sz : n * n ≤ 60 * 60 := Nat.mul_le_mul n60 n60
  have go : ∀ (fl cc : Addr) (ct : Value) (H1 : Hp), Keeps H0 H1 → H1 T = some (.tbl (triple (⟨33, 46, 33, 94⟩ : Pos) cc)) → H1 cc = some (CodeO cc "parting.<locals>.<lambda>") → H1 fl = some (LamO fl (lamFd "parting.<locals>.<lambda>" params body scope "turns" c pm (.ref cc) ct)) → 
      ∀ oc, H1 c = none → (FnOk P w K mg base CX0 5 fl (lamFd "parting.<locals>.<lambda>" params body scope "turns" c pm (.ref cc) ct) ["pair", "letter"] (spStep (Same (upd H1 c (CellO c m oc))) (pairsU n) ts.length (beh2 ts))) → Binds K (lamFd "parting.<locals>.<lambda>" params body scope "turns" c pm (.ref cc) ct) ["pair", "letter"] [] →
      spReached P w K mg base [.ref p, nv ts.length, .ref fl, .non] (upd H1 c (CellO c m oc)) (fun r H2 => H2 c = some (CellO c m oc) ∧ R r (L2.drop H2 c)) E0 := fun fl cc ct H1 k1 t1 t2 t3 oc hc hF hB => by
    have kc := same_new hc (CellO c m oc)
    refine ⟨p, fl, _, _, [one, other], ts.length, pairsU n, beh2 ts, rfl, kc _ _ (k1 _ _ (noT_at hp fun _ e => nomatch e)), kc _ _ t3, mem_pairsU.mpr ⟨_, _, h1, h2, rfl⟩, M0.pairs, ?_, ?_, hF, hB, fun D ws as H2 g2 W nw TT => ⟨g2 _ _ upd_same, rest D ws as _ (fun b o hb => ?_) (.inr ⟨cc, ?_, ?_⟩) ⟨W.len, ?_, fun j a r e1 e2 => ?_⟩ (fun b hb => ?_) TT⟩⟩
    · rw [pairsU_len]
      omega
    · have := M0.few
      omega
    · have z := k1 b o hb
      rw [drop_ne (ne_of_none z hc)]
      exact g2 _ _ (kc _ _ z)
    · rw [drop_ne (ne_of_none t1 hc)]
      exact g2 _ _ (kc _ _ t1)
    · rw [drop_ne (ne_of_none t2 hc)]
      exact g2 _ _ (kc _ _ t2)
    · rw [drop_ne (ne_of W.dict (g2 _ _ upd_same) fun e => nomatch e)]
      exact W.dict
    · have z := W.list j a r e1 e2
      rw [drop_ne (ne_of z (g2 _ _ upd_same) fun e => nomatch e)]
      exact z
    · have z := nw b hb
      cases y : L2.noT H0 b with
      | none => rfl
      | some o =>
        have z2 := kc _ _ (k1 _ _ y)
        rw [z] at z2
        cases z2
  rcases hT with hT | ⟨cc, hT, hcc⟩
  · refine .inl ⟨hT, fun fl cc ct hfl hcc ne => ⟨m, hσ, fun oc hc => ?_⟩⟩
    obtain ⟨k1, hT1, hc1⟩ := made1 (⟨33, 46, 33, 94⟩ : Pos) "parting.<locals>.<lambda>" hT hfl hcc ne (LamO fl (lamFd "parting.<locals>.<lambda>" params body scope "turns" c pm (.ref cc) ct))
    have kc := same_new hc (CellO c m oc)
    obtain ⟨F1, F2⟩ := lam_part e c_behind ((M0.keeps k1).same kc) (kc _ _ upd_same) upd_same (kc _ _ hc1)
    exact go fl cc ct _ k1 hT1 hc1 upd_same oc hc F1 F2
  · refine .inr ⟨cc, hT, hcc, fun fl ct hfl => ⟨m, hσ, fun oc hc => ?_⟩⟩
    have k1 : ∀ lo, Same H0 (upd H0 fl lo) := fun lo => same_new hfl lo
    have kc := same_new hc (CellO c m oc)
    obtain ⟨F1, F2⟩ := lam_part e c_behind ((M0.same (k1 _)).same kc) (kc _ _ upd_same) upd_same (kc _ _ (k1 _ _ _ hcc))
    exact go fl cc ct _ (k1 _).keeps (k1 _ _ _ hT) (k1 _ _ _ hcc) upd_same oc hc F1 F2
theorem ok_parting {cd T : Addr} (F : DefAt K "parting" sParting f fd .none (.ref cd)) (hC : PySem.W.CodeHd base cd T) (bm : BMain mg base) (c_behind : Callee P w K mg base "behind" 1 ["one", "other"] spBehind)
    (c_reached : CalleeD P w K mg base "reached" 8 ["start", "letters", "step", "most"] (spReached P w K mg base) [.non]) (m_len : mg "len" = none) : FnOk P w K mg base CX0 10 f fd ["turns", "seen", "one", "other"] (spParting T (⟨33, 46, 33, 94⟩ : Pos)) := by
  refine F.fnOk scParting (fun vs H Q E h => ?_) (fun A outer s H vs Q E h hr => ?_)
  · obtain ⟨m, se, ts, n, zs, one, other, rfl, _⟩ := h
    rfl
  obtain ⟨m, se, ts, n, zs, one, other, rfl, M, hse, lz, h1, h2, hT, q⟩ := h
  refine ⟨_, ?_, (pss_cons (ps_set (i := 4) scParting.nd rfl (Or.inl rfl) (pe_callCD c_reached (hr.mono (by decide)) rfl (j := 0) rfl rfl rfl rfl (pl_at (pl_cons (pe_tup (pl_at (pl_cons (pv 2) (pl_cons (pv 3) pl_nil rfl) rfl))) (pl_cons (pe_callB call_len_seq rfl m_len boot_len (pa_cons (pv 0) pa_nil)) (pl_cons (pe_lam (qual := "parting.<locals>.<lambda>") rfl hC bm (fun _ _ _ _ _ => rfl) rfl rfl) pl_nil rfl) rfl) rfl)))) (pss_cons (ps_for PassesOwn.never rfl (pi_view (pe_bm0 PySem.F.plainAttrs_dict PySem.F.slot_dict_items PySem.F.type_dict_items mt_items (pv 4))) (pg_tup rfl (pgs_cons (pg_name (i := 5) scParting.nd rfl (Or.inl rfl)) (pgs_cons (pg_name (i := 6) scParting.nd rfl (Or.inl rfl)) pgs_nil))) (pss_one (ps_if (pt_cmpR op_ne (pe_ix ix_tup (pv 1) (pe_ix ix_tup (pv 5) pe_int (fun _ _ => rfl)) (fun _ _ => rfl)) (pe_ix ix_tup (pv 1) (pe_ix ix_tup (pv 5) pe_int (fun _ _ => rfl)) (fun _ _ => rfl)) (nomark _)) (pss_one (ps_ret (pv 6))) pss_nil))) (pss_one (ps_ret pe_non))))⟩
  refine ⟨_, rfl, _, rfl, by show 2 ≤ sizeLine; decide, fun p np => ?_⟩
  have kp := same_new np (.tup [nv one, nv other])
  have ep : upd H p (.tup [nv one, nv other]) p = some (.tup ([one, other].map nv)) := upd_same
  have hT0 := hT.same kp
  generalize upd H p (.tup [nv one, nv other]) = H0 at kp ep hT0 ⊢
  have M0 := M.same kp
  obtain ⟨rs, hm, hrl, _⟩ := M0.refs
  refine ⟨_, rfl, m, _, rfl, .inr (SqT.of hm), ?_⟩
  try dsimp only
  rw [List.length_map, hrl]
  refine go_part (R := fun r H3 => gName 4 r _ H3 _) rfl c_behind M0 ep h1 h2 hT0 rfl fun D ws as H1 k1 T1 W nw TT => ?_
  have kk := kp.keeps.trans k1
  refine ⟨_, rfl, .inr (.inr (.inl ⟨rfl, .inr ⟨_, W.dict⟩⟩)), rfl, D, _, rfl, W.dict, fun v hv => ?_⟩
  have kv := same_new hv (ViewO v D)
  refine ⟨v, D, _, rfl, upd_same, kv _ _ W.dict, fun o => ?_⟩
  have eD := kv _ _ W.dict
  have k2 : ∀ {b : Addr} {u : HO}, b ≠ D → H1 b = some u → upd (upd H1 v (ViewO v D)) D (.frz o (.dT (kvsOf ws as))) b = some u := fun nb hb => by
    rw [upd_ne nb]
    exact kv _ _ hb
  have nD : ∀ {b : Addr} {u : HO}, L2.noT H b = some u → b ≠ D := fun hb z => by
    have z1 := noT_at (kp _ _ (of_noT hb).1) (of_noT hb).2
    rw [z, nw D (List.mem_cons_self ..)] at z1
    cases z1
  have kH : Keeps H (upd (upd H1 v (ViewO v D)) D (.frz o (.dT (kvsOf ws as)))) := fun b u hb => k2 (nD hb) (kk _ _ hb)
  have T2 : TabOk "parting.<locals>.<lambda>" (⟨33, 46, 33, 94⟩ : Pos) (upd (upd H1 v (ViewO v D)) D (.frz o (.dT (kvsOf ws as)))) T := by
    rcases T1 with t | ⟨cc, t1, t2⟩
    · exact .inl (k2 (ne_of t W.dict fun e => nomatch e) t)
    · exact .inr ⟨cc, k2 (ne_of t1 W.dict fun e => nomatch e) t1, k2 (ne_of t2 W.dict fun e => nomatch e) t2⟩
  have lst2 : ∀ (j : Nat) (a : Addr) (r : List Nat × List Nat), as[j]? = some a → ws[j]? = some r → upd (upd H1 v (ViewO v D)) D (.frz o (.dT (kvsOf ws as))) a = some (.lst (r.2.map nv)) := fun j a r e1 e2 => k2 (ne_of (W.list j a r e1 e2) W.dict fun e => nomatch e) (W.list j a r e1 e2)
  have eD2 : upd (upd H1 v (ViewO v D)) D (.frz o (.dT (kvsOf ws as))) D = some (.frz o (.dT (kvsOf ws as))) := upd_same
  generalize upd (upd H1 v (ViewO v D)) D (.frz o (.dT (kvsOf ws as))) = H2 at k2 kH T2 lst2 eD2 ⊢
  have hse2 := kH _ _ (noT_at hse fun _ e => nomatch e)
  have hU := M.pairs
  have h0 : [one, other] ∈ pairsU n := mem_pairsU.mpr ⟨_, _, h1, h2, rfl⟩
  have n60 := M.n60
  have sz : n * n ≤ 60 * 60 := Nat.mul_le_mul n60 n60
  have inU : ∀ r ∈ ws, r.1 ∈ pairsU n := fun r hr => by
    obtain ⟨r1, r2⟩ := TT.run r hr
    rw [← r2]
    exact goes_in h0 hU r.2 r1
  have few : ws.length ≤ 3600 := by
    rw [← List.length_map (f := (·.1)) (as := ws)]
    refine Nat.le_trans (few_of TT.keys (U := pairsU n) fun x hx => ?_) (by rw [pairsU_len]; omega)
    obtain ⟨r, hr, rfl⟩ := List.mem_map.mp hx
    exact inU r hr
  have lk : (kvsOf ws as).length = ws.length := kvs_len W.len
  have las := W.len
  let Pv : Nat → L2.St → Hp → Prop := fun i σ H' => Same H2 H' ∧ (∀ (j : Nat) q, j < i → ws[j]? = some q → unl zs q.1 = false) ∧ ∃ o5 o6, σ = [some (.ref m), some (.ref se), some (nv one), some (nv other), some (.ref D), o5, o6]
  refine for_items (kvs := kvsOf ws as) Pv ⟨Same.refl _, fun j q hj => absurd hj (Nat.not_lt_zero j), none, none, rfl⟩ (fun i σ H' _ p => p.1 _ _ eD2) (fun i TT' y k u σ H3 ek hy nT p => ?_) (fun σ H3 p => ?_)
  · obtain ⟨g3, no, o5, o6, rfl⟩ := p
    have li : i < ws.length := by rw [← lk]; exact (List.getElem?_eq_some_iff.mp ek).1
    obtain ⟨r, er⟩ : ∃ r, ws[i]? = some r := ⟨_, List.getElem?_eq_getElem li⟩
    obtain ⟨a, ea⟩ : ∃ a, as[i]? = some a := ⟨_, List.getElem?_eq_getElem (by omega)⟩
    rw [kvs_at er ea] at ek
    cases ek
    rw [nk_kV] at hy
    obtain ⟨x1, x2, hx1, hx2, ex⟩ := mem_pairsU.mp (inU r (List.mem_of_getElem? er))
    rw [ex] at hy
    have kT := same_new nT (.tup [.ref y, .ref a])
    have eT : upd H3 TT' (.tup [.ref y, .ref a]) TT' = some (.tup [.ref y, .ref a]) := upd_same
    generalize upd H3 TT' (.tup [.ref y, .ref a]) = H4 at kT eT ⊢
    have g4 := g3.trans kT
    have hy4 := kT _ _ hy
    have se4 := g4 _ _ hse2
    refine ⟨TT', _, rfl, SqT.of eT, rfl, _, _, rfl, _, _, rfl, rfl, ?_⟩
    have atz : ∀ {x : Nat}, x < n → atI (zs.map V.int) (x : Int) = some (.int (zs.getD x 0)) := fun hx => at_int (by omega)
    have eu : unl zs r.1 = !decide (V.int (zs.getD x1 0) = V.int (zs.getD x2 0)) := by
      rw [ex]
      unfold unl
      show (!decide (zs.getD x1 0 = zs.getD x2 0)) = _
      by_cases e : zs.getD x1 0 = zs.getD x2 0
      · rw [decide_eq_true e, decide_eq_true (by rw [e])]
      · rw [decide_eq_false e, decide_eq_false fun z => e (by injection z)]
    refine ⟨_, rfl, _, rfl, y, _, _, _, rfl, rfl, SqT.of hy4, rfl, se, _, _, _, rfl, rfl, SqT.of se4, atz hx1, _, rfl, _, rfl, y, _, _, _, rfl, rfl, SqT.of hy4, rfl, se, _, _, _, rfl, rfl, SqT.of se4, atz hx2, rfl, _, rfl, ?_⟩
    rw [← eu]
    cases c : unl zs r.1 with
    | true =>
      refine iteT ⟨_, rfl, q _ ws H4 (kH.trans g4.keeps) (T2.same g4) TT ?_⟩
      have z := first_at_i (vs := []) er c no
      rw [List.append_nil] at z
      rw [z]
      have sh := TT.short r (List.mem_of_getElem? er)
      refine ⟨a, rfl, g4 _ _ (lst2 i a r ea er), ?_, by omega⟩
      cases y' : L2.noT H a with
      | none => rfl
      | some u =>
        have z1 := noT_at (kp _ _ (of_noT y').1) (of_noT y').2
        rw [nw a (List.mem_cons_of_mem _ (List.mem_of_getElem? ea))] at z1
        cases z1
    | false =>
      refine iteF ⟨g4, fun j q' hj ej => ?_, _, _, rfl⟩
      by_cases e : j = i
      · rw [e, er] at ej
        cases ej
        exact c
      · exact no j q' (by omega) ej
  · obtain ⟨g3, no, o5, o6, rfl⟩ := p
    rw [lk] at no
    refine q _ ws H3 (kH.trans g3.keeps) (T2.same g3) TT ?_
    rw [first_none fun j q' ej => no j q' (List.getElem?_eq_some_iff.mp ej).1 ej]
    exact rfl
end
theorem snocInd {α : Type} {P : List α → Prop} (h0 : P []) (h1 : ∀ xs x, P xs → P (xs ++ [x])) (xs : List α) : P xs := by
  rw [← List.reverse_reverse xs]
  induction xs.reverse with
  | nil => exact h0
  | cons x l ih => rw [List.reverse_cons]; exact h1 _ _ ih
section
variable {α β : Type} [DecidableEq α] [DecidableEq β]
def addN (acc : List α) (m : α) : List α := if m ∈ acc then acc else acc ++ [m]
def fs (ms : List α) : List α := ms.foldl addN []
theorem fs_snoc (ms : List α) (m : α) : fs (ms ++ [m]) = addN (fs ms) m := by
  unfold fs
  rw [List.foldl_append]
  rfl
theorem mem_fs {x : α} (ms : List α) : x ∈ fs ms ↔ x ∈ ms := by
  induction ms using snocInd with
  | h0 => exact Iff.rfl
  | h1 ms m ih =>
    rw [fs_snoc]
    unfold addN
    split
    · rename_i h
      rw [List.mem_append, ih, List.mem_singleton]
      exact ⟨.inl, fun z => z.elim id fun e => e ▸ ih.mp (e ▸ h)⟩
    · rw [List.mem_append, List.mem_append, ih]
theorem fs_nodup (ms : List α) : (fs ms).Nodup := by
  induction ms using snocInd with
  | h0 => exact List.nodup_nil
  | h1 ms m ih =>
    rw [fs_snoc]
    unfold addN
    split
    · exact ih
    · rename_i h
      rw [List.nodup_append]
      refine ⟨ih, by simp, fun x hx y hy => ?_⟩
      rw [List.mem_singleton.mp hy]
      exact fun e => h (e ▸ hx)
theorem idx_app {xs ys : List α} {x : α} (h : x ∈ xs) : (xs ++ ys).idxOf x = xs.idxOf x := by
  rw [List.idxOf_append, if_pos h]
theorem idx_add {xs : List α} {x m : α} (h : x ∈ xs) : (addN xs m).idxOf x = xs.idxOf x := by
  unfold addN
  split
  · rfl
  · exact idx_app h
theorem idx_new {xs : List α} {m : α} (h : m ∉ xs) : (addN xs m).idxOf m = xs.length := by
  unfold addN
  rw [if_neg h, List.idxOf_append, if_neg h]
  simp
theorem idx_inj {xs : List α} {x y : α} (hx : x ∈ xs) (h : xs.idxOf x = xs.idxOf y) : x = y := by
  have l1 := List.idxOf_lt_length_of_mem hx
  have hy : y ∈ xs := List.idxOf_lt_length_iff.mp (h ▸ l1)
  have e1 : xs[xs.idxOf x]? = some x := by rw [List.getElem?_eq_getElem l1, List.getElem_idxOf l1]
  have l2 := List.idxOf_lt_length_of_mem hy
  have e2 : xs[xs.idxOf y]? = some y := by rw [List.getElem?_eq_getElem l2, List.getElem_idxOf l2]
  rw [h, e2] at e1
  exact (Option.some.inj e1).symm
def nb (rs : List Nat) (mk : Nat → α) (r : Nat) : Nat := (fs (rs.map mk)).idxOf (mk r)
theorem nb_iff {rs : List Nat} {mk : Nat → α} {r r' : Nat} (h : r ∈ rs) : nb rs mk r = nb rs mk r' ↔ mk r = mk r' :=
  ⟨fun e => idx_inj ((mem_fs _).mpr (List.mem_map_of_mem h)) e, fun e => by unfold nb; rw [e]⟩
theorem nb_same {mk : Nat → α} {mk' : Nat → β} (rs : List Nat) (h : ∀ r ∈ rs, ∀ r' ∈ rs, mk r = mk r' ↔ mk' r = mk' r') : (∀ r ∈ rs, nb rs mk r = nb rs mk' r) ∧ (fs (rs.map mk)).length = (fs (rs.map mk')).length := by
  induction rs using snocInd with
  | h0 => exact ⟨fun _ h => (nomatch h), rfl⟩
  | h1 rs x ih =>
    obtain ⟨ih1, ih2⟩ := ih fun r hr r' hr' => h r (List.mem_append_left _ hr) r' (List.mem_append_left _ hr')
    unfold nb at ih1 ⊢
    rw [List.map_append, List.map_append, List.map_singleton, List.map_singleton, fs_snoc, fs_snoc]
    have iff : mk x ∈ fs (rs.map mk) ↔ mk' x ∈ fs (rs.map mk') := by
      rw [mem_fs, mem_fs, List.mem_map, List.mem_map]
      have hx : x ∈ rs ++ [x] := List.mem_append_right _ (List.mem_singleton.mpr rfl)
      exact ⟨fun ⟨r, hr, e⟩ => ⟨r, hr, (h r (List.mem_append_left _ hr) x hx).mp e⟩, fun ⟨r, hr, e⟩ => ⟨r, hr, (h r (List.mem_append_left _ hr) x hx).mpr e⟩⟩
    have old : ∀ r ∈ rs, (addN (fs (rs.map mk)) (mk x)).idxOf (mk r) = (addN (fs (rs.map mk')) (mk' x)).idxOf (mk' r) := fun r hr => by
      rw [idx_add ((mem_fs _).mpr (List.mem_map_of_mem hr)), idx_add ((mem_fs _).mpr (List.mem_map_of_mem hr))]
      exact ih1 r hr
    by_cases c : mk x ∈ fs (rs.map mk)
    · have c' := iff.mp c
      refine ⟨fun r hr => ?_, ?_⟩
      · rcases List.mem_append.mp hr with hr | hr
        · exact old r hr
        · rw [List.mem_singleton.mp hr]
          obtain ⟨q, hq, e⟩ := List.mem_map.mp ((mem_fs _).mp c)
          have e' : mk' q = mk' x := (h q (List.mem_append_left _ hq) x (List.mem_append_right _ (List.mem_singleton.mpr rfl))).mp e
          rw [← e, ← e']
          rw [← e] at old
          rw [← e'] at old
          exact old q hq
      · unfold addN
        rw [if_pos c, if_pos c', ih2]
    · have c' := fun z => c (iff.mpr z)
      refine ⟨fun r hr => ?_, ?_⟩
      · rcases List.mem_append.mp hr with hr | hr
        · exact old r hr
        · rw [List.mem_singleton.mp hr, idx_new c, idx_new c', ih2]
      · unfold addN
        rw [if_neg c, if_neg c', List.length_append, List.length_append, ih2]
        rfl
theorem nb_nb {rs : List Nat} {mk : Nat → α} {r : Nat} (h : r ∈ rs) : nb rs (nb rs mk) r = nb rs mk r := ((nb_same (mk := nb rs mk) (mk' := mk) rs fun r hr r' _ => nb_iff hr).1 r h)
end
theorem fs_pre {α : Type} [DecidableEq α] (xs ys : List α) : ∃ zs, fs (xs ++ ys) = fs xs ++ zs := by
  induction ys using snocInd with
  | h0 => exact ⟨[], by rw [List.append_nil, List.append_nil]⟩
  | h1 ys y ih =>
    obtain ⟨zs, e⟩ := ih
    rw [← List.append_assoc, fs_snoc, e]
    unfold addN
    split
    · exact ⟨zs, rfl⟩
    · exact ⟨zs ++ [y], List.append_assoc ..⟩
theorem cnt_lt {α : Type} {p q : α → Bool} : ∀ {l : List α}, (∀ x ∈ l, q x = true → p x = true) → (∃ x ∈ l, p x = true ∧ q x = false) → l.countP q < l.countP p
  | [], _, ⟨_, h, _⟩ => nomatch h
  | y :: l, h1, ⟨x, hx, h2, h3⟩ => by
    have le : l.countP q ≤ l.countP p := List.countP_mono_left fun z hz => h1 z (List.mem_cons_of_mem _ hz)
    rw [List.countP_cons, List.countP_cons]
    rcases List.mem_cons.mp hx with e | e
    · subst e
      rw [h2, h3]
      simp
      omega
    · have lt := cnt_lt (fun z hz => h1 z (List.mem_cons_of_mem _ hz)) ⟨x, e, h2, h3⟩
      have := h1 y (List.mem_cons_self ..)
      cases hq : q y with
      | false => simp; omega
      | true => rw [this hq]; simp; omega
section
variable (ts : List (List Nat)) (sn : Nat → Int) (rs : List Nat)
def mark (N : Nat → Nat) (r : Nat) : Nat × List Nat := (N r, ts.map fun t => N (t.getD r 0))
def gone (r : Nat) (word : List Nat) : Nat := word.foldl (fun r l => (ts.getD l []).getD r 0) r
structure Pt (N : Nat → Nat) : Prop where
  fc : ∀ r ∈ rs, nb rs N r = N r
  see : ∀ r ∈ rs, ∀ r' ∈ rs, N r = N r' → sn r = sn r'
  coarse : ∀ r ∈ rs, ∀ r' ∈ rs, (∀ word : List Nat, (∀ l ∈ word, l < ts.length) → sn (gone ts r word) = sn (gone ts r' word)) → N r = N r'
def prs : List (Nat × Nat) := rs.flatMap fun a => rs.map fun b => (a, b)
def eqs (N : Nat → Nat) : Nat := (prs rs).countP fun p => decide (N p.1 = N p.2)
variable {ts sn rs} {N : Nat → Nat}
theorem mem_prs {a b : Nat} : (a, b) ∈ prs rs ↔ a ∈ rs ∧ b ∈ rs := by
  unfold prs
  rw [List.mem_flatMap]
  constructor
  · rintro ⟨x, hx, h⟩
    obtain ⟨y, hy, e⟩ := List.mem_map.mp h
    cases e
    exact ⟨hx, hy⟩
  · rintro ⟨ha, hb⟩
    exact ⟨a, ha, List.mem_map_of_mem hb⟩
theorem Pt.start : Pt ts sn rs (nb rs sn) := ⟨fun r hr => nb_nb hr, fun r hr r' _ e => (nb_iff hr).mp e, fun r hr r' _ h => (nb_iff hr).mpr (h [] fun _ z => nomatch z)⟩
theorem mark_in (hc : ∀ r ∈ rs, ∀ t ∈ ts, t.getD r 0 ∈ rs) {r r' : Nat} (h : ∀ l, l < ts.length → N ((ts.getD l []).getD r 0) = N ((ts.getD l []).getD r' 0)) : ts.map (fun t => N (t.getD r 0)) = ts.map fun t => N (t.getD r' 0) := by
  refine List.map_congr_left fun t ht => ?_
  obtain ⟨l, hl, e⟩ := List.mem_iff_getElem.mp ht
  have z := h l hl
  have e' : ts.getD l [] = t := by rw [List.getD_eq_getElem?_getD, List.getElem?_eq_getElem hl, e]; rfl
  rw [e'] at z
  exact z
theorem Pt.round (P : Pt ts sn rs N) (hc : ∀ r ∈ rs, ∀ t ∈ ts, t.getD r 0 ∈ rs) : Pt ts sn rs (nb rs (mark ts N)) := by
  refine ⟨fun r hr => nb_nb hr, fun r hr r' hr' e => ?_, fun r hr r' hr' h => (nb_iff hr).mpr ?_⟩
  · have z := (nb_iff hr).mp e
    exact P.see r hr r' hr' (congrArg Prod.fst z)
  · unfold mark
    have inT : ∀ l, l < ts.length → ts.getD l [] ∈ ts := fun l hl => by
      rw [List.getD_eq_getElem?_getD, List.getElem?_eq_getElem hl]
      exact List.getElem_mem hl
    rw [P.coarse r hr r' hr' h, mark_in hc (r := r) (r' := r') fun l hl => P.coarse _ (hc r hr _ (inT l hl)) _ (hc r' hr' _ (inT l hl)) fun word hw => h (l :: word) fun x hx => (List.mem_cons.mp hx).elim (fun e => e ▸ hl) (hw x)]
structure Pd (ts : List (List Nat)) (sn : Nat → Int) (rs : List Nat) (N : Nat → Nat) : Prop extends Pt ts sn rs N where
  stab : ∀ r ∈ rs, ∀ r' ∈ rs, N r = N r' → ∀ t ∈ ts, N (t.getD r 0) = N (t.getD r' 0)
theorem Pt.done (P : Pt ts sn rs N) (e : ∀ r ∈ rs, nb rs (mark ts N) r = N r) : Pd ts sn rs N := ⟨P, fun r hr r' hr' h t ht => by
  have z := (nb_iff hr).mp (((e r hr).trans h).trans (e r' hr').symm)
  exact List.map_inj_left.mp (congrArg Prod.snd z) t ht⟩
theorem Pt.more (P : Pt ts sn rs N) (ne : ¬ ∀ r ∈ rs, nb rs (mark ts N) r = N r) : eqs rs (nb rs (mark ts N)) < eqs rs N := by
  have sub : ∀ r ∈ rs, ∀ r' ∈ rs, nb rs (mark ts N) r = nb rs (mark ts N) r' → N r = N r' := fun r hr r' _ e => congrArg Prod.fst ((nb_iff hr).mp e)
  refine cnt_lt (fun ⟨a, b⟩ hp h => ?_) (Classical.byContradiction fun no => ne fun r hr => ?_)
  · obtain ⟨ha, hb⟩ := mem_prs.mp hp
    exact decide_eq_true (sub a ha b hb (of_decide_eq_true h))
  · have same := nb_same (mk := N) (mk' := nb rs (mark ts N)) rs fun a ha b hb => ⟨fun e => Classical.byContradiction fun z => no ⟨(a, b), mem_prs.mpr ⟨ha, hb⟩, decide_eq_true e, decide_eq_false z⟩, sub a ha b hb⟩
    rw [← nb_nb hr, ← same.1 r hr, P.fc r hr]
def fstOf (N : Nat → Nat) (rs : List Nat) (k : Nat) : Nat := (rs.find? fun r => decide (N r = k)).getD 0
theorem fst_new {us vs : List Nat} {r : Nat} (h : ∀ u ∈ us, N u ≠ N r) : fstOf N (us ++ r :: vs) (N r) = r := by
  unfold fstOf
  rw [List.find?_append, List.find?_eq_none.mpr fun u hu => by simpa using h u hu]
  simp
theorem fst_is {k : Nat} (h : k ∈ rs.map N) : fstOf N rs k ∈ rs ∧ N (fstOf N rs k) = k := by
  obtain ⟨r, hr, e⟩ := List.mem_map.mp h
  unfold fstOf
  cases z : rs.find? fun r => decide (N r = k) with
  | none => exact absurd (decide_eq_true e) (List.find?_eq_none.mp z r hr)
  | some x =>
    have y : decide (N x = k) = true := List.find?_some (p := fun r => decide (N r = k)) z
    exact ⟨List.mem_of_find?_eq_some z, of_decide_eq_true y⟩
def cls (N : Nat → Nat) (rs : List Nat) : Nat := (fs (rs.map N)).length
theorem fs_range (rs : List Nat) (h : ∀ r ∈ rs, nb rs N r = N r) : fs (rs.map N) = List.range (cls N rs) := by
  refine List.ext_getElem (by rw [List.length_range]; rfl) fun i h1 h2 => ?_
  rw [List.getElem_range]
  have m : (fs (rs.map N))[i] ∈ fs (rs.map N) := List.getElem_mem h1
  obtain ⟨r, hr, e⟩ := List.mem_map.mp ((mem_fs _).mp m)
  have z := h r hr
  unfold nb at z
  rw [e, (fs_nodup _).idxOf_getElem] at z
  exact z.symm
end
def kept (N : Nat → Nat) (rs : List Nat) : List Nat := (List.range (cls N rs)).map (fstOf N rs)
def told (ts : List (List Nat)) (N : Nat → Nat) (rs : List Nat) : List (List Nat) := ts.map fun t => (kept N rs).map fun r => N (t.getD r 0)
section
variable {ts : List (List Nat)} {sn : Nat → Int} {rs : List Nat} {N : Nat → Nat}
theorem kept_is (P : Pt ts sn rs N) {k : Nat} (h : k < cls N rs) : fstOf N rs k ∈ rs ∧ N (fstOf N rs k) = k := by
  refine fst_is ?_
  rw [← mem_fs, fs_range rs P.fc]
  exact List.mem_range.mpr h
theorem N_lt (P : Pt ts sn rs N) {r : Nat} (h : r ∈ rs) : N r < cls N rs := by
  have z : N r ∈ fs (rs.map N) := (mem_fs _).mpr (List.mem_map_of_mem h)
  rw [fs_range rs P.fc] at z
  exact List.mem_range.mp z
end
def numsK (rs : List Nat) (N : Nat → Nat) : List (Key × V) := rs.map fun (r : Nat) => ((Sum.inl (r : Int) : Key), nv (N r))
theorem val_nums {N : Nat → Nat} : ∀ {rs : List Nat} {r : Nat}, r ∈ rs → valV (numsK rs N) (Sum.inl (r : Int)) = some (nv (N r))
  | x :: rs, r, h => by
    by_cases e : x = r
    · subst e
      exact valV_pos (p := ((Sum.inl (x : Int) : Key), nv (N x))) (r := numsK rs N) rfl
    · refine (valV_neg (p := ((Sum.inl (x : Int) : Key), nv (N x))) (r := numsK rs N) (L2.inl_ne e)).trans (val_nums ?_)
      rcases List.mem_cons.mp h with z | z
      · exact absurd z.symm e
      · exact z
theorem val_nums_no {N : Nat → Nat} : ∀ {rs : List Nat} {r : Nat}, r ∉ rs → valV (numsK rs N) (Sum.inl (r : Int)) = none
  | [], _, _ => rfl
  | x :: rs, r, h => (valV_neg (p := ((Sum.inl (x : Int) : Key), nv (N x))) (r := numsK rs N) (L2.inl_ne fun z => h (z ▸ List.mem_cons_self ..))).trans (val_nums_no fun z => h (List.mem_cons_of_mem _ z))
theorem idx_cons_ne {α : Type} [DecidableEq α] {x m : α} {xs : List α} (e : x ≠ m) : (x :: xs).idxOf m = xs.idxOf m + 1 := by
  rw [List.idxOf_cons, beq_eq_false_iff_ne.mpr e]
  rfl
def ent {α κ : Type} (key : α → κ) : List α → Nat → List (κ × V)
  | [], _ => []
  | x :: xs, k => (key x, nv k) :: ent key xs (k + 1)
section
variable {α κ : Type} {key : α → κ}
theorem ent_len : ∀ (xs : List α) (k : Nat), (ent key xs k).length = xs.length
  | [], _ => rfl
  | _ :: xs, k => congrArg (· + 1) (ent_len xs (k + 1))
theorem ent_snoc : ∀ (xs : List α) (m : α) (k : Nat), ent key (xs ++ [m]) k = ent key xs k ++ [(key m, nv (k + xs.length))]
  | [], _, _ => rfl
  | x :: xs, m, k => by
    show (key x, nv k) :: ent key (xs ++ [m]) (k + 1) = _
    rw [ent_snoc xs m (k + 1), List.length_cons, show k + 1 + xs.length = k + (xs.length + 1) by omega]
    rfl
theorem mem_ent [DecidableEq α] (inj : ∀ a b, key a = key b → a = b) {m : α} {v : V} : ∀ {xs : List α} {k : Nat}, xs.Nodup → (key m, v) ∈ ent key xs k → m ∈ xs ∧ v = nv (k + xs.idxOf m)
  | [], _, _, h => nomatch h
  | x :: xs, k, nd, h => by
    obtain ⟨n1, n2⟩ := List.nodup_cons.mp nd
    rcases List.mem_cons.mp h with z | z
    · injection z with z1 z2
      rw [inj _ _ z1, z2, List.idxOf_cons_self]
      exact ⟨List.mem_cons_self .., rfl⟩
    · obtain ⟨a, b⟩ := mem_ent inj n2 z
      have ne : x ≠ m := fun e => n1 (e ▸ a)
      refine ⟨List.mem_cons_of_mem _ a, ?_⟩
      rw [b, idx_cons_ne ne, show k + 1 + xs.idxOf m = k + (xs.idxOf m + 1) by omega]
theorem ent_mem [DecidableEq α] {m : α} : ∀ {xs : List α} {k : Nat}, m ∈ xs → (key m, nv (k + xs.idxOf m)) ∈ ent key xs k
  | x :: xs, k, h => by
    by_cases e : x = m
    · subst e
      rw [List.idxOf_cons_self]
      exact List.mem_cons_self ..
    · rw [idx_cons_ne e, show k + (xs.idxOf m + 1) = k + 1 + xs.idxOf m by omega]
      refine List.mem_cons_of_mem _ (ent_mem ?_)
      rcases List.mem_cons.mp h with z | z
      · exact absurd z.symm e
      · exact z
theorem val_ent [DecidableEq α] [DecidableEq κ] (inj : ∀ a b, key a = key b → a = b) {m : α} : ∀ {xs : List α} {k : Nat}, m ∈ xs → valV (ent key xs k) (key m) = some (nv (k + xs.idxOf m))
  | x :: xs, k, h => by
    by_cases e : x = m
    · subst e
      rw [List.idxOf_cons_self]
      exact valV_pos (p := (key x, nv k)) (r := ent key xs (k + 1)) rfl
    · rw [idx_cons_ne e, show k + (xs.idxOf m + 1) = k + 1 + xs.idxOf m by omega]
      refine (valV_neg (p := (key x, nv k)) (r := ent key xs (k + 1)) fun z => e (inj _ _ z)).trans (val_ent inj ?_)
      rcases List.mem_cons.mp h with z | z
      · exact absurd z.symm e
      · exact z
theorem val_ent_no [DecidableEq α] [DecidableEq κ] (inj : ∀ a b, key a = key b → a = b) {m : α} : ∀ {xs : List α} {k : Nat}, m ∉ xs → valV (ent key xs k) (key m) = none
  | [], _, _ => rfl
  | x :: xs, k, h => (valV_neg (p := (key x, nv k)) (r := ent key xs (k + 1)) fun z => h (inj _ _ z ▸ List.mem_cons_self ..)).trans (val_ent_no inj fun z => h (List.mem_cons_of_mem _ z))
end
def mkey (p : Nat × List Nat) : MK := (Sum.inl (p.1 : Int), nk p.2)
theorem mkey_inj (a b : Nat × List Nat) (h : mkey a = mkey b) : a = b := by
  injection h with h1 h2
  exact Prod.ext (Int.ofNat.inj (Sum.inl.inj h1)) (nk_inj h2)
def ikey (z : Int) : Key := Sum.inl z
theorem ikey_inj (a b : Int) (h : ikey a = ikey b) : a = b := Sum.inl.inj h
structure NumSt (P : Program) (w : World) {α : Type} [DecidableEq α] (nd fd : Addr) (mk : Nat → α) (St : Hp → List Nat → Prop) (Mk : Hp → V → Nat → Prop) : Prop where
  ty : ∀ {H us}, St H us → tyD P w (.ref nd) H
  there : ∀ {H us}, St H us → ∃ o, H nd = some o
  len : ∀ {H us} {Q : VK}, St H us → Q (nv (fs (us.map mk)).length) H → rLenN P w [.ref nd] H Q
  set : ∀ {H us v x} {Q : VK}, St H us → Mk H v x → us.length ≤ 4000 → (∀ H', St H' (us ++ [x]) → (∀ b o, b ≠ nd → H b = some o → H' b = some o) → Q (nv ((addN (fs (us.map mk)) (mk x)).idxOf (mk x))) H') → rSetD P w (.ref nd) [v, nv (fs (us.map mk)).length] H Q
  keep : ∀ {H H' us kvs}, St H us → H fd = some (.dK kvs) → (∀ b o, b ≠ fd → H b = some o → H' b = some o) → St H' us
  mark : ∀ {H H' v x kvs}, Mk H v x → H fd = some (.dK kvs) → (∀ b o, b ≠ fd → b ≠ nd → H b = some o → H' b = some o) → (∃ us, St H us) → Mk H' v x
section
variable {P : Program} {w : World} {nd fd : Addr}
theorem fs_le {α : Type} [DecidableEq α] (ms : List α) : (fs ms).length ≤ ms.length := by
  induction ms using snocInd with
  | h0 => exact Nat.le_refl _
  | h1 ms m ih =>
    rw [fs_snoc, List.length_append]
    unfold addN
    split
    · exact Nat.le_succ_of_le ih
    · rw [List.length_append]
      exact Nat.add_le_add_right ih 1
theorem numA (nf : nd ≠ fd) (mk : Nat → Int) : NumSt P w nd fd mk (fun H us => H nd = some (.dK (ent ikey (fs (us.map mk)) 0))) (fun _ v x => v = V.int (mk x)) where
  ty := fun h => ⟨nd, rfl, .inl ⟨_, h⟩⟩
  there := fun h => ⟨_, h⟩
  len := fun h q => ⟨nd, rfl, .inl ⟨_, h, by rw [ent_len]; exact q⟩⟩
  set := fun {H us v x Q} h hm lt q => by
    subst hm
    have le := fs_le (us.map mk)
    rw [List.length_map] at le
    refine ⟨nd, _, rfl, .inl ⟨_, ikey (mk x), rfl, h, by rw [ent_len, sizeLine_eq]; omega, fun y hy => ?_, fun hn => ?_⟩⟩
    · by_cases c : mk x ∈ fs (us.map mk)
      · rw [val_ent ikey_inj c] at hy
        cases hy
        rw [Nat.zero_add]
        have e : addN (fs (us.map mk)) (mk x) = fs (us.map mk) := if_pos c
        have z := q H (by rw [List.map_append, List.map_singleton, fs_snoc, e]; exact h) fun _ _ _ h => h
        rw [e] at z
        exact z
      · rw [val_ent_no ikey_inj c] at hy
        cases hy
    · by_cases c : mk x ∈ fs (us.map mk)
      · rw [val_ent ikey_inj c] at hn
        cases hn
      · have e : addN (fs (us.map mk)) (mk x) = fs (us.map mk) ++ [mk x] := if_neg c
        have z := q (upd H nd (.dK (ent ikey (fs (us.map mk)) 0 ++ [(ikey (mk x), nv (fs (us.map mk)).length)]))) (by rw [upd_same, List.map_append, List.map_singleton, fs_snoc, e, ent_snoc, Nat.zero_add]) fun b o nb hb => by rw [upd_ne nb]; exact hb
        rw [idx_new c] at z
        exact z
  keep := fun h _ k => k _ _ nf h
  mark := fun h _ _ _ => h
theorem numB (nf : nd ≠ fd) (mk : Nat → Nat × List Nat) : NumSt P w nd fd mk (fun H us => ∃ ys : ML, H nd = some (NstO P w nd ys) ∧ (∀ y ∈ ys, PairAt H y.2.1 y.1) ∧ ys.map (fun y => (y.1, y.2.2)) = ent mkey (fs (us.map mk)) 0) (fun H v x => ∃ b, v = .ref b ∧ PairAt H b (mkey (mk x))) where
  ty := fun ⟨ys, h, _⟩ => ⟨nd, rfl, .inr ⟨ys, h⟩⟩
  there := fun ⟨ys, h, _⟩ => ⟨_, h⟩
  len := fun ⟨ys, h, hk, e⟩ q => ⟨nd, rfl, .inr ⟨ys, h, hk, by
    have z := congrArg List.length e
    rw [List.length_map, ent_len] at z
    rw [z]
    exact q⟩⟩
  set := fun {H us v x Q} h hm lt q => by
    obtain ⟨ys, h, hk, e⟩ := h
    obtain ⟨b, rfl, hb⟩ := hm
    have le := fs_le (us.map mk)
    rw [List.length_map] at le
    have ln := congrArg List.length e
    rw [List.length_map, ent_len] at ln
    have off : ∀ {c : Addr} {xs : List V}, H c = some (.tup xs) → c ≠ nd := fun hc => ne_of hc h fun z => nomatch z
    refine ⟨nd, _, rfl, .inr ⟨ys, b, mkey (mk x), rfl, h, hb, hk, by rw [ln, sizeLine_eq]; omega, fun y hy ey => ?_, fun no => ?_⟩⟩
    · have m : (mkey (mk x), y.2.2) ∈ ent mkey (fs (us.map mk)) 0 := by rw [← e, ← ey]; exact List.mem_map.mpr ⟨y, hy, rfl⟩
      obtain ⟨c, ev⟩ := mem_ent mkey_inj (fs_nodup _) m
      have ea : addN (fs (us.map mk)) (mk x) = fs (us.map mk) := if_pos c
      have z := q H ⟨ys, h, hk, by rw [List.map_append, List.map_singleton, fs_snoc, ea]; exact e⟩ fun _ _ _ h => h
      rw [ea] at z
      rw [ev, Nat.zero_add]
      exact z
    · have c : mk x ∉ fs (us.map mk) := fun c => by
        have m := ent_mem (key := mkey) (k := 0) c
        rw [← e] at m
        obtain ⟨y, hy, ey⟩ := List.mem_map.mp m
        injection ey with e1 _
        exact no y hy e1
      have ea : addN (fs (us.map mk)) (mk x) = fs (us.map mk) ++ [mk x] := if_neg c
      have kp : ∀ a k, PairAt H a k → PairAt (upd H nd (NstO P w nd (ys ++ [(mkey (mk x), b, nv (fs (us.map mk)).length)]))) a k := fun a k ⟨c, h1, h2⟩ => ⟨c, by rw [upd_ne (off h1)]; exact h1, by rw [upd_ne (off h2)]; exact h2⟩
      have z := q (upd H nd (NstO P w nd (ys ++ [(mkey (mk x), b, nv (fs (us.map mk)).length)]))) ⟨_, upd_same, fun y hy => ?_, ?_⟩ fun b o nb hb => by rw [upd_ne nb]; exact hb
      · rw [idx_new c] at z
        exact z
      · rcases List.mem_append.mp hy with m | m
        · exact kp _ _ (hk y m)
        · rw [List.mem_singleton.mp m]
          exact kp _ _ hb
      · rw [List.map_append, e, List.map_append, List.map_singleton, List.map_singleton, fs_snoc, ea, ent_snoc, Nat.zero_add]
  keep := fun ⟨ys, h, hk, e⟩ hf k => ⟨ys, k _ _ nf h, fun y hy => let ⟨c, h1, h2⟩ := hk y hy; ⟨c, k _ _ (ne_of h1 hf fun z => nomatch z) h1, k _ _ (ne_of h2 hf fun z => nomatch z) h2⟩, e⟩
  mark := fun ⟨b, e, c, h1, h2⟩ hf k ⟨us, ys, h, _⟩ => ⟨b, e, c, k _ _ (ne_of h1 hf fun z => nomatch z) (ne_of h1 h fun z => nomatch z) h1, k _ _ (ne_of h2 hf fun z => nomatch z) (ne_of h2 h fun z => nomatch z) h2⟩
end
def spNumbered : Sp := fun vs H Q _ => ∃ (r m : Addr) (rs : List Nat), vs = [.ref r, .ref m] ∧ H r = some (.lst (rs.map nv)) ∧ rs.Nodup ∧ rs.length ≤ 4000 ∧
  ((∃ mk : Nat → Int, H m = some (.lst (rs.map fun x => V.int (mk x))) ∧ ∀ d H', Same H H' → H' d = some (.dK (numsK rs (nb rs mk))) → Q (.ref d) H') ∨
   ∃ (mk : Nat → Nat × List Nat) (bs : List Addr), H m = some (.lst (bs.map V.ref)) ∧ bs.length = rs.length ∧ (∀ (i : Nat) b x, bs[i]? = some b → rs[i]? = some x → PairAt H b (mkey (mk x))) ∧ ∀ d H', Same H H' → H' d = some (.dK (numsK rs (nb rs mk))) → Q (.ref d) H')
section
variable {P : Program} {w : World} {K : PySem.W.Frag} {mg : Str → Option Value} {base : Heap} {f : Addr} {fd : FuncData}
theorem num_loop {α : Type} [DecidableEq α] {En : Ends} {H H1 : Hp} {r m nd fd : Addr} {rs : List Nat} {vs : List V} {mk : Nat → α} {St : Hp → List Nat → Prop} {Mk : Hp → V → Nat → Prop} (S : NumSt P w nd fd mk St Mk) (g : Same H H1) (hr : H r = some (.lst (rs.map nv))) (hm : H m = some (.lst vs)) (lv : vs.length = rs.length) (hnd : H nd = none) (hfd : H fd = none) (nf : nd ≠ fd) (h0 : St H1 []) (hf : H1 fd = some (.dK []))
    (hM : ∀ (i : Nat) v x, vs[i]? = some v → rs[i]? = some x → Mk H1 v x) (ndp : rs.Nodup) (few : rs.length ≤ 4000) (q : ∀ H', Same H H' → H' fd = some (.dK (numsK rs (nb rs mk))) → En.rt (.ref fd) H') :
    tSeq (tFor (iZipL K (tCons (tVar 0) (tCons (tVar 1) tNil))) (gTup K 2 (gCons (gName 4) (gCons (gName 5) gNil))) (sDPut (tVar 3) (tVar 4) (tBMD P w (rSetD P w) (tVar 2) (tCons (tVar 5) (tCons (tCB (rLenN P w) (tCons (tVar 2) tNil)) tNil))))) (tRet (tVar 3)) En [some (.ref r), some (.ref m), some (.ref nd), some (.ref fd), none, none] H1 := by
  let Pv : Nat → L2.St → Hp → Prop := fun i σ H' => Same H H' ∧ St H' (rs.take i) ∧ H' fd = some (.dK (numsK (rs.take i) (nb rs mk))) ∧ (∀ (i : Nat) v x, vs[i]? = some v → rs[i]? = some x → Mk H' v x) ∧ ∃ o4 o5, σ = [some (.ref r), some (.ref m), some (.ref nd), some (.ref fd), o4, o5]
  refine ⟨_, rfl, _, rfl, r, m, _, _, rfl, SqL.of (g _ _ hr), SqL.of (g _ _ hm), for_zipL (xs := rs.map nv) (ys := vs) Pv ⟨g, h0, hf, hM, none, none, rfl⟩ (fun i σ H' p => ⟨SqL.of (p.1 _ _ hr), SqL.of (p.1 _ _ hm)⟩) (fun i x y T σ H' hx hy hT p => ?_) (fun σ H' p => ?_)⟩
  · obtain ⟨g1, s1, f1, m1, o4, o5, rfl⟩ := p
    rw [List.getElem?_map] at hx
    obtain ⟨x, ex, rfl⟩ := Option.map_eq_some_iff.mp hx
    have kT := same_new hT (.tup [nv x, y])
    have f2 := kT _ _ f1
    have s2 := S.keep s1 f1 fun b o _ hb => kT b o hb
    have m2 : ∀ (j : Nat) v z, vs[j]? = some v → rs[j]? = some z → Mk (upd H' T (.tup [nv x, y])) v z := fun j v z e1 e2 => S.mark (m1 j v z e1 e2) f1 (fun b o _ _ hb => kT b o hb) ⟨_, s1⟩
    have eT : upd H' T (.tup [nv x, y]) T = some (.tup [nv x, y]) := upd_same
    have g2 := g1.trans kT
    generalize upd H' T (.tup [nv x, y]) = H2 at f2 s2 m2 eT g2 ⊢
    have li := (List.getElem?_eq_some_iff.mp ex).1
    have tk : rs.take (i + 1) = rs.take i ++ [x] := by rw [List.take_add_one, ex]; rfl
    have nx : x ∉ rs.take i := fun z => by
      obtain ⟨j, ej⟩ := List.mem_iff_getElem?.mp z
      have lj := (List.getElem?_eq_some_iff.mp ej).1
      rw [List.length_take] at lj
      rw [List.getElem?_take_of_lt (by omega)] at ej
      have ij : j = i := (List.getElem?_inj (by omega) ndp).mp (ej.trans ex.symm)
      omega
    have val : (addN (fs ((rs.take i).map mk)) (mk x)).idxOf (mk x) = nb rs mk x := by
      obtain ⟨zs, ez⟩ := fs_pre ((rs.take (i + 1)).map mk) ((rs.drop (i + 1)).map mk)
      rw [← List.map_append, List.take_append_drop] at ez
      unfold nb
      rw [ez, idx_app ((mem_fs _).mpr (List.mem_map_of_mem (by rw [tk]; exact List.mem_append_right _ (List.mem_singleton.mpr rfl)))), tk, List.map_append, List.map_singleton, fs_snoc]
    refine ⟨T, _, rfl, SqT.of eT, rfl, _, _, rfl, _, _, rfl, rfl, ?_⟩
    refine ⟨_, rfl, S.ty s2, _, rfl, _, rfl, ?_⟩
    dsimp only [tNil]
    refine S.len s2 ?_
    refine S.set s2 (m2 i y x hy ex) (by rw [List.length_take]; omega) fun H3 s3 k3 => ?_
    have f3 := k3 _ _ (Ne.symm nf) f2
    have lk : (numsK (rs.take i) (nb rs mk)).length = i := by unfold numsK; rw [List.length_map, List.length_take]; omega
    refine ⟨_, rfl, _, rfl, fd, _, rfl, DPut.k (k := Sum.inl (x : Int)) f3 (by rw [lk, sizeLine_eq]; omega), ?_⟩
    rw [putK_new _ (val_nums_no nx), val]
    have off : ∀ b o, b ≠ fd → H3 b = some o → upd H3 fd (.dK (numsK (rs.take i) (nb rs mk) ++ [(Sum.inl (x : Int), nv (nb rs mk x))])) b = some o := fun b o nb' hb => by rw [upd_ne nb']; exact hb
    refine ⟨fun b o hb => off b o (ne_of_none hb hfd) (k3 b o (ne_of_none hb hnd) (g2 b o hb)), ?_, ?_, fun j v z e1 e2 => ?_, _, _, rfl⟩
    · rw [tk]
      exact S.keep s3 f3 off
    · rw [upd_same, tk]
      unfold numsK
      rw [List.map_append]
      rfl
    · exact S.mark (m2 j v z e1 e2) f2 (fun b o n1 n2 hb => off b o n1 (k3 b o n2 hb)) ⟨_, s2⟩
  · obtain ⟨g1, s1, f1, m1, o4, o5, rfl⟩ := p
    rw [List.length_map, lv, Nat.min_self, List.take_length] at f1
    exact ⟨_, rfl, q H' g1 f1⟩
theorem ok_numbered (F : Fun K "numbered" "numbered" sNumbered f fd) (m_zip : mg "zip" = none) (m_len : mg "len" = none) : FnOk P w K mg base CX0 1 f fd ["rooms", "marks"] spNumbered := by
  refine F.ok scNumbered (fun vs H Q E h => ?_) (fun cdv A outer s H vs Q E hr h => ?_)
  · obtain ⟨r, m, rs, rfl, _⟩ := h
    rfl
  obtain ⟨r, m, rs, rfl, hrl, nd, few, h⟩ := h
  have hu := hr.units
  have hu1 := hu_of hr
  refine ⟨_, (pss_cons (ps_set (i := 2) scNumbered.nd rfl (Or.inl rfl) pe_dnewN) (pss_cons (ps_set (i := 3) scNumbered.nd rfl (Or.inl rfl) pe_dnewK) (pss_cons (ps_for PassesOwn.never rfl (pi_zipL rfl m_zip (pl_at (pl_cons (pv 0) (pl_cons (pv 1) pl_nil rfl) rfl))) (pg_tup rfl (pgs_cons (pg_name (i := 4) scNumbered.nd rfl (Or.inl rfl)) (pgs_cons (pg_name (i := 5) scNumbered.nd rfl (Or.inl rfl)) pgs_nil))) (pss_one (ps_dput hu1 (pv 3) (pv 4) (pe_bmD PySem.F.plainAttrs_dict PySem.F.slot_dict_setdefault PySem.F.type_dict_setdefault (mt_setd hu) (pv 2) (pl_at (pl_cons (pv 5) (pl_cons (pe_callB call_lenN rfl m_len boot_len (pa_cons (pv 2) pa_nil)) pl_nil rfl) rfl))) rfl))) (pss_one (ps_ret (pv 3)))))), ?_⟩
  rcases h with ⟨mk, hm, q⟩ | ⟨mk, bs, hm, lb, hp, q⟩
  · refine .inl fun n hn => fun f' hf' => ?_
    have kn := same_new hn (.dK [])
    have kf := same_new hf' (.dK [])
    have nf : n ≠ f' := fun z => by
      rw [← z, upd_same] at hf'
      cases hf'
    refine num_loop (numA nf mk) (kn.trans kf) hrl hm (by simp) hn (kn.free hf') nf (kf _ _ upd_same) upd_same (fun i v x e1 e2 => ?_) nd few fun H' g' e' => q _ _ g' e'
    rw [List.getElem?_map, e2] at e1
    exact (Option.some.inj e1).symm
  · refine .inr fun n hn => fun f' hf' => ?_
    have kn := same_new hn (NstO P w n [])
    have kf := same_new hf' (.dK [])
    have nf : n ≠ f' := fun z => by
      rw [← z, upd_same] at hf'
      cases hf'
    refine num_loop (numB nf mk) (kn.trans kf) hrl hm (by simpa using lb) hn (kn.free hf') nf ⟨[], kf _ _ upd_same, fun _ h => (nomatch h), rfl⟩ upd_same (fun i v x e1 e2 => ?_) nd few fun H' g' e' => q _ _ g' e'
    rw [List.getElem?_map] at e1
    obtain ⟨b, eb, rfl⟩ := Option.map_eq_some_iff.mp e1
    exact ⟨b, rfl, (hp i b x eb e2).same (kn.trans kf)⟩
end
structure Mch (H : Hp) (m : Addr) (ts : List (List Nat)) (n : Nat) : Prop where
  refs : ∃ rs : List Addr, H m = some (.tup (rs.map V.ref)) ∧ rs.length = ts.length ∧ ∀ (i : Nat) r t, rs[i]? = some r → ts[i]? = some t → H r = some (.tup (t.map nv))
  some1 : 1 ≤ ts.length
  few : ts.length ≤ 4
  n1 : 1 ≤ n
  most : n ≤ 120
  each : ∀ t ∈ ts, t.length = n ∧ ∀ x ∈ t, x < n
theorem Big.mch {H : Hp} {m : Addr} {ts : List (List Nat)} {n : Nat} (M : Big H m ts n) : Mch H m ts n := ⟨M.refs, M.some1, M.few, M.n1, by have := M.n60; omega, M.each⟩
theorem Mch.same {H H' : Hp} {m : Addr} {ts : List (List Nat)} {n : Nat} (M : Mch H m ts n) (g : Same H H') : Mch H' m ts n :=
  ⟨let ⟨rs, h1, h2, h3⟩ := M.refs; ⟨rs, g _ _ h1, h2, fun i r t e1 e2 => g _ _ (h3 i r t e1 e2)⟩, M.some1, M.few, M.n1, M.most, M.each⟩
theorem Mch.at {H : Hp} {m : Addr} {ts : List (List Nat)} {n : Nat} (M : Mch H m ts n) {l : Nat} (hl : l < ts.length) :
    ∃ (rs : List Addr) (r : Addr), H m = some (.tup (rs.map V.ref)) ∧ rs.length = ts.length ∧ atI (rs.map V.ref) (l : Int) = some (.ref r) ∧ H r = some (.tup ((ts.getD l []).map nv)) ∧ (ts.getD l []).length = n ∧ ∀ x ∈ ts.getD l [], x < n := by
  obtain ⟨rs, h1, h2, h3⟩ := M.refs
  obtain ⟨r, er⟩ : ∃ r, rs[l]? = some r := ⟨_, List.getElem?_eq_getElem (by omega)⟩
  have et : ts[l]? = some (ts.getD l []) := by rw [List.getD_eq_getElem?_getD, List.getElem?_eq_getElem hl]; rfl
  obtain ⟨e1, e2⟩ := M.each _ (List.mem_of_getElem? et)
  exact ⟨rs, r, h1, h2, atI_nat (by rw [List.getElem?_map, er]; rfl), h3 l r _ er et, e1, e2⟩
theorem Mch.to {H : Hp} {m : Addr} {ts : List (List Nat)} {n : Nat} (M : Mch H m ts n) {t : List Nat} {r : Nat} (ht : t ∈ ts) (hr : r < n) : t.getD r 0 < n := by
  obtain ⟨e1, e2⟩ := M.each _ ht
  refine e2 _ ?_
  rw [List.getD_eq_getElem?_getD, List.getElem?_eq_getElem (by omega)]
  exact List.getElem_mem _
theorem Mch.noT {H : Hp} {m : Addr} {ts : List (List Nat)} {n : Nat} (M : Mch H m ts n) : Mch (L2.noT H) m ts n :=
  ⟨let ⟨rs, h1, h2, h3⟩ := M.refs; ⟨rs, noT_at h1 (fun _ e => nomatch e), h2, fun i r t e1 e2 => noT_at (h3 i r t e1 e2) fun _ e => nomatch e⟩, M.some1, M.few, M.n1, M.most, M.each⟩
theorem Mch.keeps {H H' : Hp} {m : Addr} {ts : List (List Nat)} {n : Nat} (M : Mch H m ts n) (g : Keeps H H') : Mch H' m ts n := M.noT.same g
theorem Mch.drop {H : Hp} {m c : Addr} {ts : List (List Nat)} {n : Nat} {φ : Heap → Prop} (M : Mch H m ts n) (hc : H c = some (.ext φ)) : Mch (L2.drop H c) m ts n := by
  obtain ⟨rs, h1, h2, h3⟩ := M.refs
  refine ⟨⟨rs, ?_, h2, fun i r t e1 e2 => ?_⟩, M.some1, M.few, M.n1, M.most, M.each⟩
  · rw [drop_ne (ne_of h1 hc fun e => nomatch e)]
    exact h1
  · have z := h3 i r t e1 e2
    rw [drop_ne (ne_of z hc fun e => nomatch e)]
    exact z
def spPartedR : Sp := fun vs H Q _ => ∃ (m se rl : Addr) (ts : List (List Nat)) (n : Nat) (zs : List Int) (rs : List Nat), vs = [.ref m, .ref se, .ref rl] ∧ Mch H m ts n ∧ H se = some (.tup (zs.map V.int)) ∧ zs.length = n ∧ H rl = some (.lst (rs.map nv)) ∧ rs.Nodup ∧ rs.length ≤ 120 ∧ (∀ r ∈ rs, r < n) ∧ (∀ r ∈ rs, ∀ t ∈ ts, t.getD r 0 ∈ rs) ∧
  ∀ d N H', Same H H' → H' d = some (.dK (numsK rs N)) → Pd ts (fun r => zs.getD r 0) rs N → Q (.ref d) H'
section
variable {P : Program} {w : World} {K : PySem.W.Frag} {mg : Str → Option Value} {base : Heap} {f : Addr} {fd : FuncData}
theorem ok_parted_rooms (F : Fun K "parted_rooms" "parted_rooms" sPartedRooms f fd) (c_numbered : Callee P w K mg base "numbered" 1 ["rooms", "marks"] spNumbered) (m_tuple : mg "tuple" = none) : FnOk P w K mg base CX0 3 f fd ["turns", "seen", "rooms"] spPartedR := by
  refine F.ok scPartedRooms (fun vs H Q E h => ?_) (fun cdv A outer s H vs Q E hr h => ?_)
  · obtain ⟨m, se, rl, ts, n, zs, rs, rfl, _⟩ := h
    rfl
  obtain ⟨m, se, rl, ts, n, zs, rs, rfl, M, hse, lz, hrl, nd, few, lt, hc, q⟩ := h
  have hu := hr.units
  have hu1 := hu_of hr
  refine ⟨_, (pss_cons (ps_set (i := 3) scPartedRooms.nd rfl (Or.inr rfl) (pe_callD c_numbered (hr.mono (by decide)) rfl (pl_at (pl_cons (pv 2) (pl_cons (pe_comp1 (CompSc.to (N := ["turns", "seen", "rooms", "numbers", "marks", "finer"]) (osc := defScope sPartedRooms) (vs := ["room"]) ⟨rfl, by decide +kernel, by decide +kernel, by decide +kernel, by decide +kernel, by decide +kernel, by decide +kernel⟩) rfl rfl (pi_list (pv 2)) (fun _ _ _ _ => pts_nil) (fun _ _ _ _ => (pe_ix (IxR.k (K := K) rIxT ix_tup rfl) (pv 2) (pv 0) (fun _ _ => rfl)))) pl_nil rfl) rfl)))) (pss_one (ps_while PassesOwn.never (pt_val pe_bl) (pss_cons (ps_setCN1 (CompSc1.to (N := ["turns", "seen", "rooms", "numbers", "marks", "finer"]) (osc := defScope sPartedRooms) (x := "room") ⟨rfl, by decide +kernel, by decide +kernel, by decide +kernel, by decide +kernel, by decide +kernel, by decide +kernel, by decide +kernel⟩) rfl scPartedRooms.nd (j := 4) rfl rfl (pi_list (pv 2)) (fun _ _ _ _ => pts_nil) (fun _ _ _ _ => (pe_tup (pl_at (pl_cons (pe_dget hu1 (pv 4) (pv 0) (fun _ _ => rfl)) (pl_cons (pe_callTy (CallR.k (K := K) rTupOf call_tuple_of rfl) rfl m_tuple boot_tuple (pa_cons (pe_comp1 (CompSc.toN (N := ["room", "turns", "seen", "rooms", "numbers", "marks", "finer"]) (vs := ["turn"]) rfl rfl (by decide +kernel) (by decide +kernel) (by decide +kernel) (by decide +kernel) (by decide +kernel) (by kernel_rfl)) rfl rfl (pi_tupK (K := K) (pv 1) rfl) (fun _ _ _ _ => pts_nil) (fun _ _ _ _ => (pe_dget hu1 (pv 5) (pe_ix (IxR.k (K := K) rIxT ix_tup rfl) (pv 0) (pv 1) (fun _ _ => rfl)) (fun _ _ => rfl)))) pa_nil)) pl_nil rfl) rfl))))) (pss_cons (ps_set (i := 5) scPartedRooms.nd rfl (Or.inl rfl) (pe_callD c_numbered (hr.mono (by decide)) rfl (pl_at (pl_cons (pv 2) (pl_cons (pv 4) pl_nil rfl) rfl)))) (pss_cons (ps_if (pt_cmpR (op_eqDI hu) (pv 5) (pv 3) (nomark _)) (pss_one (ps_ret (pv 3))) pss_nil) (pss_one (ps_set (i := 3) scPartedRooms.nd rfl (Or.inr rfl) (pv 5))))))))), ?_⟩
  have atz : ∀ {r : Nat}, r ∈ rs → atI (zs.map V.int) (r : Int) = some (.int (zs.getD r 0)) := fun h => at_int (by have := lt _ h; omega)
  refine ⟨_, rfl, _, rfl, rl, rfl, ⟨_, SqL.of hrl⟩, comp_list (xs := rs.map nv) (fun i ys H' => H' = H ∧ ys = (rs.take i).map fun r => V.int (zs.getD r 0)) (by rw [List.length_map, sizeLine_eq]; omega) ⟨rfl, rfl⟩ (fun i ys H' _ p => ?_) (fun i v ys H' hv p => ?_) (fun ys H' p c1 hc1 => ?_)⟩
  · obtain ⟨rfl, rfl⟩ := p
    exact ⟨SqL.of hrl, by rw [List.length_map, List.length_take]; omega⟩
  · obtain ⟨rfl, rfl⟩ := p
    rw [List.getElem?_map] at hv
    obtain ⟨r, er, rfl⟩ := Option.map_eq_some_iff.mp hv
    refine ⟨keep_one, yes_of ⟨_, rfl, _, rfl, se, _, _, _, rfl, rfl, SqT.of hse, atz (List.mem_of_getElem? er), rfl, ?_⟩⟩
    rw [List.take_add_one, er, List.map_append]
    rfl
  obtain ⟨rfl, rfl⟩ := p
  rw [List.length_map, List.take_length]
  have k1 := same_new hc1 (.lst (rs.map fun r => V.int (zs.getD r 0)))
  refine ⟨rl, c1, rs, rfl, k1 _ _ hrl, nd, by omega, .inl ⟨fun r => zs.getD r 0, upd_same, fun d0 H1 g1 e1 => ?_⟩⟩
  have g01 := k1.trans g1
  generalize upd H' c1 (.lst (rs.map fun r => V.int (zs.getD r 0))) = H0 at g1
  clear k1 g1
  have dg : ∀ {N : Nat → Nat} {x : Nat} {d : Addr} {H4 : Hp}, x ∈ rs → H4 d = some (.dK (numsK rs N)) → DGet H4 d (nv x) (some (nv (N x))) := fun {N x d H4} h e => val_nums (N := N) h ▸ DGet.k (k := Sum.inl (x : Int)) e
  let Wv : Nat → L2.St → Hp → Prop := fun k σ H2 => ∃ (N : Nat → Nat) (d : Addr) (o4 o5 : Option V), Pt ts (fun r => zs.getD r 0) rs N ∧ H2 d = some (.dK (numsK rs N)) ∧ Same H' H2 ∧ k = eqs rs N ∧ σ = [some (.ref m), some (.ref se), some (.ref rl), some (.ref d), o4, o5]
  refine ⟨Wv, ⟨_, _, d0, none, none, Pt.start, e1, g01, rfl, rfl⟩, fun k σ H2 p => ?_⟩
  obtain ⟨N, d, o4, o5, Pn, hd, g2, rfl, rfl⟩ := p
  refine ⟨_, rfl, iteT ?_⟩
  have hrl2 := g2 _ _ hrl
  refine ⟨fun σ' H3 => ∃ k', k' < eqs rs N ∧ Wv k' σ' H3, fun σ' H3 h => h, _, rfl, rl, rfl, ⟨_, SqL.of hrl2⟩, comp_list (xs := rs.map nv) (fun i ys H3 => Same H2 H3 ∧ ∃ bs : List Addr, ys = bs.map V.ref ∧ bs.length = i ∧ ∀ (j : Nat) b x, bs[j]? = some b → rs[j]? = some x → PairAt H3 b (mkey (mark ts N x))) (by rw [List.length_map, sizeLine_eq]; omega) ⟨Same.refl _, [], rfl, rfl, fun j b x e => by simp at e⟩ (fun i ys H3 _ p => ?_) (fun i v ys H3 hv p => ?_) (fun ys H3 p c2 hc2 => ?_)⟩
  · obtain ⟨g3, bs, rfl, lb, _⟩ := p
    exact ⟨SqL.of (g3 _ _ hrl2), by rw [List.length_map]; omega⟩
  · obtain ⟨g3, bs, rfl, lb, hb⟩ := p
    rw [List.getElem?_map] at hv
    obtain ⟨r, er, rfl⟩ := Option.map_eq_some_iff.mp hv
    have rr := List.mem_of_getElem? er
    have hd3 := g3 _ _ hd
    obtain ⟨as, a1, a2, a3⟩ := ((M.same g2).same g3).refs
    refine ⟨keep_one, yes_of ⟨_, rfl, _, rfl, d, _, rfl, dg rr hd3, _, rfl, m, rfl, ⟨_, SqT.of a1⟩, comp_tup (xs := as.map V.ref) (fun i ys H4 => H4 = H3 ∧ ys = (ts.take i).map fun t => nv (N (t.getD r 0))) (by rw [List.length_map, a2, sizeLine_eq]; have := M.few; omega) ⟨rfl, rfl⟩ (fun i ys H4 _ p => ?_) (fun i v ys H4 hv p => ?_) (fun ys H4 p c3 hc3 => ?_)⟩⟩
    · obtain ⟨rfl, rfl⟩ := p
      exact ⟨SqT.of a1, by rw [List.length_map, List.length_take]; omega⟩
    · obtain ⟨rfl, rfl⟩ := p
      rw [List.getElem?_map] at hv
      obtain ⟨b, eb, rfl⟩ := Option.map_eq_some_iff.mp hv
      obtain ⟨t, et⟩ : ∃ t, ts[i]? = some t := ⟨_, List.getElem?_eq_getElem (by have := (List.getElem?_eq_some_iff.mp eb).1; omega)⟩
      have tt := List.mem_of_getElem? et
      obtain ⟨f1, f2⟩ := M.each t tt
      refine ⟨keep_one, yes_of ⟨_, rfl, _, rfl, _, rfl, b, _, _, _, rfl, rfl, SqT.of (a3 i b t eb et), at_nv (by rw [f1]; exact lt r rr), d, _, rfl, dg (hc r rr t tt) hd3, rfl, ?_⟩⟩
      rw [List.take_add_one, et, List.map_append]
      rfl
    · obtain ⟨rfl, rfl⟩ := p
      rw [List.length_map, a2, List.take_length]
      have k3 := same_new hc3 (.lst (ts.map fun t => nv (N (t.getD r 0))))
      refine ⟨c3, _, rfl, .inl ⟨SqL.of upd_same, fun tp ntp => ?_⟩⟩
      have k4 := same_new ntp (.tup (ts.map fun t => nv (N (t.getD r 0))))
      refine ⟨by show 2 ≤ sizeLine; decide, fun b nb' => ?_⟩
      have k5 := same_new nb' (.tup [nv (N r), .ref tp])
      have k35 := (k3.trans k4).trans k5
      refine ⟨g3.trans k35, bs ++ [b], by rw [List.map_append]; rfl, by simp [lb], fun j b' x e1 e2 => ?_⟩
      by_cases hj : j < bs.length
      · rw [List.getElem?_append_left hj] at e1
        exact (hb j b' x e1 e2).same k35
      · have lj := (List.getElem?_eq_some_iff.mp e1).1
        rw [List.length_append] at lj
        have ej : j = i := by
          have : j < bs.length + 1 := lj
          omega
        subst ej
        rw [List.getElem?_append_right (by omega), show j - bs.length = 0 by omega] at e1
        cases e1
        rw [er] at e2
        cases e2
        refine ⟨tp, upd_same, ?_⟩
        rw [k5 _ _ upd_same]
        show some (HO.tup _) = some (HO.tup ((nk (ts.map fun t => N (t.getD r 0))).map kV))
        rw [nk_kV, List.map_map]
        rfl
  obtain ⟨g3, bs, rfl, lb, hb⟩ := p
  rw [List.length_map] at lb
  have k4 := same_new hc2 (.lst (bs.map V.ref))
  refine ⟨_, rfl, _, rfl, rl, c2, rs, rfl, (g3.trans k4) _ _ hrl2, nd, by omega, .inr ⟨mark ts N, bs, upd_same, lb, fun j b x e1 e2 => (hb j b x e1 e2).same k4, fun d' H5 g5 e5 => ?_⟩⟩
  have g25 := (g3.trans k4).trans g5
  have P' := Pn.round hc
  let zs2 : List (Key × Int × Int) := rs.map fun (r : Nat) => ((Sum.inl (r : Int) : Key), ((nb rs (mark ts N) r : Nat) : Int), ((N r : Nat) : Int))
  have z1 : kvZ (·.2.1) zs2 = numsK rs (nb rs (mark ts N)) := by unfold kvZ numsK; rw [List.map_map]; rfl
  have z2 : kvZ (·.2.2) zs2 = numsK rs N := by unfold kvZ numsK; rw [List.map_map]; rfl
  refine ⟨_, rfl, _, rfl, d', d, zs2, rfl, rfl, by rw [z1]; exact e5, by rw [z2]; exact g25 _ _ hd, fun r hr' => ⟨_, rfl, ?_⟩⟩
  have iff : r = true ↔ ∀ x ∈ rs, nb rs (mark ts N) x = N x := by
    rw [hr']
    constructor
    · intro h x hx
      exact Int.ofNat.inj (h _ (List.mem_map.mpr ⟨x, hx, rfl⟩))
    · rintro h p hp
      obtain ⟨x, hx, rfl⟩ := List.mem_map.mp hp
      exact congrArg Int.ofNat (h x hx)
  cases r with
  | true => exact iteT ⟨_, rfl, q d N H5 (g2.trans g25) (g25 _ _ hd) (Pn.done (iff.mp rfl))⟩
  | false => exact iteF ⟨_, rfl, _, Pn.more (fun h => Bool.false_ne_true (iff.mpr h)), _, d', _, _, P', e5, g2.trans g25, rfl, rfl⟩
end
def OT (T : Addr) (H H' : Hp) : Prop := ∀ b ps, b ≠ T → H b = some (.tbl ps) → H' b = some (.tbl ps)
theorem OT.same {T : Addr} {H H' H2 : Hp} (o : OT T H H') (g : Same H' H2) : OT T H H2 := fun b ps nb hb => g _ _ (o b ps nb hb)
def MachAt (H : Hp) (p : Addr) (rows : List (List Nat)) (views : List Int) : Prop := ∃ (a b : Addr) (as : List Addr), H p = some (.tup [.ref a, .ref b]) ∧ H a = some (.tup (as.map V.ref)) ∧ as.length = rows.length ∧ (∀ (i : Nat) r row, as[i]? = some r → rows[i]? = some row → H r = some (.tup (row.map nv))) ∧ H b = some (.tup (views.map V.int))
theorem MachAt.same {H H' : Hp} {p : Addr} {rows : List (List Nat)} {views : List Int} (M : MachAt H p rows views) (g : Same H H') : MachAt H' p rows views := let ⟨a, b, as, h1, h2, h3, h4, h5⟩ := M; ⟨a, b, as, g _ _ h1, g _ _ h2, h3, fun i r row e1 e2 => g _ _ (h4 i r row e1 e2), g _ _ h5⟩
def sU (n : Nat) : List (List Nat) := (List.range n).map fun r => [r]
def stI (ts : List (List Nat)) (x : List Nat) (l : Nat) : List Nat := [(ts.getD l []).getD (x.getD 0 0) 0]
def rms (ws : L2.TW) : List Nat := ws.map fun p => p.1.getD 0 0
theorem mem_sU {n : Nat} {x : List Nat} : x ∈ sU n ↔ ∃ r, r < n ∧ x = [r] := by
  unfold sU
  rw [List.mem_map]
  exact ⟨fun ⟨r, h, e⟩ => ⟨r, List.mem_range.mp h, e.symm⟩, fun ⟨r, h, e⟩ => ⟨r, List.mem_range.mpr h, e.symm⟩⟩
def spLeast (T : Addr) (pos : Pos) : Sp := fun vs H Q _ => ∃ (m se : Addr) (ts : List (List Nat)) (n : Nat) (zs : List Int) (start : Nat), vs = [.ref m, .ref se, nv start] ∧ Mch H m ts n ∧ H se = some (.tup (zs.map V.int)) ∧ zs.length = n ∧ start < n ∧ TabOk "least.<locals>.<lambda>" pos H T ∧
  ∀ p ws N H', Keeps H H' → OT T H H' → TabOk "least.<locals>.<lambda>" pos H' T → Told (stI ts) ts.length [start] ws → Pd ts (fun r => zs.getD r 0) (rms ws) N → MachAt H' p (told ts N (rms ws)) ((kept N (rms ws)).map fun r => zs.getD r 0) → Q (.ref p) H'
theorem Mch.steps {H : Hp} {m : Addr} {ts : List (List Nat)} {n : Nat} (M : Mch H m ts n) : ∀ x ∈ sU n, ∀ l, l < ts.length → stI ts x l ∈ sU n := fun x hx l hl => by
  obtain ⟨r, hr, rfl⟩ := mem_sU.mp hx
  refine mem_sU.mpr ⟨_, M.to (t := ts.getD l []) ?_ hr, rfl⟩
  rw [List.getD_eq_getElem?_getD, List.getElem?_eq_getElem hl]
  exact List.getElem_mem hl
theorem told_rooms {H : Hp} {m : Addr} {ts : List (List Nat)} {n start : Nat} {ws : TW} (M : Mch H m ts n) (hs : start < n) (TT : Told (stI ts) ts.length [start] ws) : (rms ws).Nodup ∧ (∀ r ∈ rms ws, r < n) ∧ (∀ r ∈ rms ws, ∀ t ∈ ts, t.getD r 0 ∈ rms ws) ∧ start ∈ rms ws ∧ (rms ws).length ≤ 120 := by
  have inU : ∀ p ∈ ws, p.1 ∈ sU n := fun p hp => by
    obtain ⟨r1, r2⟩ := TT.run p hp
    rw [← r2]
    exact goes_in (mem_sU.mpr ⟨_, hs, rfl⟩) M.steps p.2 r1
  have hS : ∀ x ∈ sU n, x = [hd x] := fun x hx => by
    obtain ⟨r, _, rfl⟩ := mem_sU.mp hx
    rfl
  refine ⟨hd_keys hS inU TT.keys, fun r hr' => ?_, fun r hr' t ht => ?_, List.mem_map.mpr ⟨_, List.mem_of_getElem? TT.head, rfl⟩, ?_⟩
  · obtain ⟨p, hp, rfl⟩ := List.mem_map.mp hr'
    obtain ⟨r, h, e⟩ := mem_sU.mp (inU p hp)
    show p.1.getD 0 0 < n
    rw [e]
    exact h
  · obtain ⟨p, hp, rfl⟩ := List.mem_map.mp hr'
    obtain ⟨l, hl, e⟩ := List.mem_iff_getElem.mp ht
    obtain ⟨u, h1, _⟩ := TT.all p hp l hl
    refine List.mem_map.mpr ⟨_, h1, ?_⟩
    show (ts.getD l []).getD (p.1.getD 0 0) 0 = _
    rw [show ts.getD l [] = t by rw [List.getD_eq_getElem?_getD, List.getElem?_eq_getElem hl, e]; rfl]
  · have z : (ws.map (·.1)).length ≤ (sU n).length := few_of TT.keys fun x hx => by
      obtain ⟨p, hp, rfl⟩ := List.mem_map.mp hx
      exact inU p hp
    unfold sU at z
    rw [List.length_map, List.length_map, List.length_range] at z
    unfold rms
    rw [List.length_map]
    have := M.most
    omega
theorem kvsI_keys : ∀ (ws : TW) (as : List Addr), as.length = ws.length → (kvsI ws as).map (fun kv => kV kv.1) = (rms ws).map nv
  | [], _, _ => rfl
  | _ :: _, [], h => by cases h
  | p :: ws, a :: as, h => congrArg (nv (hd p.1) :: ·) (kvsI_keys ws as (by simpa using h))
section
variable {P : Program} {w : World} {K : PySem.W.Frag} {mg : Str → Option Value} {base : Heap} {f : Addr} {fd : FuncData}
theorem lam_least {fl c m cc : Addr} {oc : Obj} {ts : List (List Nat)} {n : Nat} {Hc : Hp} {pm ct : Value} {params : Arguments} {body : Expr} {scope : Scope} {fx fy a1 a2 : Expr} {kw kw2 : List Keyword} {tgs : List Expr} {rest : List Stmt} {lp cp cp2 rp : Pos} (e : defBody sLeast = .Assign tgs (.Call fy [.Call fx [a1, a2, .Lambda params body scope lp] kw cp] kw2 cp2) rp :: rest)
    (M : Mch Hc m ts n) (h1 : Hc fl = some (LamO fl (lamFd "least.<locals>.<lambda>" params body scope "turns" c pm (.ref cc) ct))) (h2 : Hc c = some (CellO c m oc)) (h3 : Hc cc = some (CodeO cc "least.<locals>.<lambda>")) :
    FnOk P w K mg base CX0 5 fl (lamFd "least.<locals>.<lambda>" params body scope "turns" c pm (.ref cc) ct) ["room", "letter"] (spStepI (Same Hc) (sU n) ts.length (stI ts)) ∧ Binds K (lamFd "least.<locals>.<lambda>" params body scope "turns" c pm (.ref cc) ct) ["room", "letter"] [] := by
  cases e
  refine ⟨lam_fn (k := 4) (m := m) (oc := oc) ⟨rfl, rfl, rfl, by decide +kernel, by decide +kernel, rfl, by decide +kernel⟩ (fun vs H Q E h => ?_) (fun vs H Q E h => ?_) (fun A outer s H vs Q E hr h => ?_), .all fun us hl => match us, hl with | [_, _], _ => rfl⟩
  · obtain ⟨x, l, rfl, _⟩ := h
    rfl
  · obtain ⟨x, l, rfl, g, _⟩ := h
    exact ⟨g _ _ h1, g _ _ h2, g _ _ h3⟩
  · obtain ⟨x, l, rfl, g, hx, hl, q⟩ := h
    refine ⟨_, (pe_ix ix_tup (pe_ix ix_tup (pv 2) (pv 1) (fun _ _ => rfl)) (pv 0) (fun _ _ => rfl)), ?_⟩
    obtain ⟨r, hr', rfl⟩ := mem_sU.mp hx
    have hc := g _ _ h2
    have M1 := (M.same g).drop hc
    obtain ⟨rs, b, b1, b2, b3, b4, b5, b6⟩ := M1.at hl
    refine ⟨_, rfl, _, rfl, m, _, _, _, rfl, rfl, SqT.of b1, b3, _, rfl, b, _, _, _, rfl, rfl, SqT.of b4, at_nv (by rw [b5]; exact hr'), fun _ => q _ (fun y o ho => ?_)⟩
    by_cases hy : y = c
    · subst hy
      rw [hc] at ho
      cases ho
      exact upd_same
    · rw [upd_ne hy, drop_ne hy]
      exact ho
theorem go_least {T m c : Addr} {H0 : Hp} {ts : List (List Nat)} {n start : Nat} {σ : L2.St} {R : V → Hp → Prop} {pm : Value} {params : Arguments} {body : Expr} {scope : Scope} {fx fy a1 a2 : Expr} {kw kw2 : List Keyword} {tgs : List Expr} {rst : List Stmt} {lp cp cp2 rp : Pos} (e : defBody sLeast = .Assign tgs (.Call fy [.Call fx [a1, a2, .Lambda params body scope lp] kw cp] kw2 cp2) rp :: rst)
    (M0 : Mch H0 m ts n) (h1 : start < n) (hT : TabOk "least.<locals>.<lambda>" (⟨53, 44, 53, 84⟩ : Pos) H0 T) (hσ : σ[0]? = some (some (.ref m)))
    (rest : ∀ D ws as H', Keeps H0 H' → OT T H0 H' → TabOk "least.<locals>.<lambda>" (⟨53, 44, 53, 84⟩ : Pos) H' T → WordsI H' D ws as → (∀ b ∈ D :: as, L2.noT H0 b = none) → Told (stI ts) ts.length [start] ws → R (.ref D) H') :
    tCons (tLam T "least.<locals>.<lambda>" params body scope "turns" c pm (⟨53, 44, 53, 84⟩ : Pos)) tNil σ H0 fun xs H2 => ∃ m1, σ[0]? = some (some (.ref m1)) ∧ ∀ oc, H2 c = none → spReachedI P w K mg base (nv start :: .int (ts.length : Int) :: xs ++ [.non]) (upd H2 c (CellO c m1 oc)) (fun r H2 => H2 c = some (CellO c m1 oc) ∧ R r (L2.drop H2 c)) E0 := by
  have n120 := M0.most
  have go : ∀ (fl cc : Addr) (ct : Value) (H1 : Hp), Keeps H0 H1 → OT T H0 H1 → H1 T = some (.tbl (triple (⟨53, 44, 53, 84⟩ : Pos) cc)) → H1 cc = some (CodeO cc "least.<locals>.<lambda>") → H1 fl = some (LamO fl (lamFd "least.<locals>.<lambda>" params body scope "turns" c pm (.ref cc) ct)) → 
      ∀ oc, H1 c = none → (FnOk P w K mg base CX0 5 fl (lamFd "least.<locals>.<lambda>" params body scope "turns" c pm (.ref cc) ct) ["room", "letter"] (spStepI (Same (upd H1 c (CellO c m oc))) (sU n) ts.length (stI ts))) → Binds K (lamFd "least.<locals>.<lambda>" params body scope "turns" c pm (.ref cc) ct) ["room", "letter"] [] →
      spReachedI P w K mg base [nv start, nv ts.length, .ref fl, .non] (upd H1 c (CellO c m oc)) (fun r H2 => H2 c = some (CellO c m oc) ∧ R r (L2.drop H2 c)) E0 := fun fl cc ct H1 k1 o1 t1 t2 t3 oc hc hF hB => by
    have kc := same_new hc (CellO c m oc)
    refine ⟨fl, _, _, [start], ts.length, sU n, stI ts, rfl, kc _ _ t3, fun x hx => ?_, mem_sU.mpr ⟨_, h1, rfl⟩, M0.steps, ?_, ?_, hF, hB, fun D ws as H2 g2 W nw TT => ⟨g2 _ _ upd_same, rest D ws as _ (fun b o hb => ?_) (fun b ps nb' hb => ?_) (.inr ⟨cc, ?_, ?_⟩) ⟨W.len, ?_, fun j a r e1 e2 => ?_⟩ (fun b hb => ?_) TT⟩⟩
    · obtain ⟨r, _, rfl⟩ := mem_sU.mp hx
      rfl
    · unfold sU
      rw [List.length_map, List.length_range]
      omega
    · have := M0.few
      omega
    · have z := k1 b o hb
      rw [drop_ne (ne_of_none z hc)]
      exact g2 _ _ (kc _ _ z)
    · have z := o1 b ps nb' hb
      rw [drop_ne (ne_of_none z hc)]
      exact g2 _ _ (kc _ _ z)
    · rw [drop_ne (ne_of_none t1 hc)]
      exact g2 _ _ (kc _ _ t1)
    · rw [drop_ne (ne_of_none t2 hc)]
      exact g2 _ _ (kc _ _ t2)
    · rw [drop_ne (ne_of W.dict (g2 _ _ upd_same) fun e => nomatch e)]
      exact W.dict
    · have z := W.list j a r e1 e2
      rw [drop_ne (ne_of z (g2 _ _ upd_same) fun e => nomatch e)]
      exact z
    · have z := nw b hb
      cases y : L2.noT H0 b with
      | none => rfl
      | some o =>
        have z2 := kc _ _ (k1 _ _ y)
        rw [z] at z2
        cases z2
  rcases hT with hT | ⟨cc, hT, hcc⟩
  · refine .inl ⟨hT, fun fl cc ct hfl hcc ne => ⟨m, hσ, fun oc hc => ?_⟩⟩
    obtain ⟨k1, hT1, hc1⟩ := made1 (⟨53, 44, 53, 84⟩ : Pos) "least.<locals>.<lambda>" hT hfl hcc ne (LamO fl (lamFd "least.<locals>.<lambda>" params body scope "turns" c pm (.ref cc) ct))
    have kc := same_new hc (CellO c m oc)
    obtain ⟨F1, F2⟩ := lam_least e ((M0.keeps k1).same kc) (kc _ _ upd_same) upd_same (kc _ _ hc1)
    exact go fl cc ct _ k1 (fun b ps nb' hb => by rw [upd_ne (ne_of_none hb hfl), upd_ne (ne_of_none hb hcc), upd_ne nb']; exact hb) hT1 hc1 upd_same oc hc F1 F2
  · refine .inr ⟨cc, hT, hcc, fun fl ct hfl => ⟨m, hσ, fun oc hc => ?_⟩⟩
    have k1 : ∀ lo, Same H0 (upd H0 fl lo) := fun lo => same_new hfl lo
    have kc := same_new hc (CellO c m oc)
    obtain ⟨F1, F2⟩ := lam_least e ((M0.same (k1 _)).same kc) (kc _ _ upd_same) upd_same (kc _ _ (k1 _ _ _ hcc))
    exact go fl cc ct _ (k1 _).keeps (fun b ps _ hb => k1 _ _ _ hb) (k1 _ _ _ hT) (k1 _ _ _ hcc) upd_same oc hc F1 F2
theorem ok_least {cd T : Addr} (F : DefAt K "least" sLeast f fd .none (.ref cd)) (hC : PySem.W.CodeHd base cd T) (bm : BMain mg base) 
    (c_reached : CalleeD P w K mg base "reached" 8 ["start", "letters", "step", "most"] (spReachedI P w K mg base) [.non]) (c_parted_rooms : Callee P w K mg base "parted_rooms" 3 ["turns", "seen", "rooms"] spPartedR) (m_len : mg "len" = none) (m_list : mg "list" = none) (m_tuple : mg "tuple" = none) : FnOk P w K mg base CX0 10 f fd ["turns", "seen", "start"] (spLeast T (⟨53, 44, 53, 84⟩ : Pos)) := by
  refine F.fnOk scLeast (fun vs H Q E h => ?_) (fun A outer s H vs Q E h hr => ?_)
  · obtain ⟨m, se, ts, n, zs, start, rfl, _⟩ := h
    rfl
  obtain ⟨m, se, ts, n, zs, start, rfl, M, hse, lz, hs, hT, q⟩ := h
  have hu := hr.units
  have hu1 := hu_of hr
  refine ⟨_, ?_, (pss_cons (ps_set (i := 3) scLeast.nd rfl (Or.inl rfl) (pe_callTy (call_list_keysI rfl) rfl m_list boot_list (pa_cons (pe_callCD c_reached (hr.mono (by decide)) rfl (j := 0) rfl rfl rfl rfl (pl_at (pl_cons (pv 2) (pl_cons (pe_callB call_len_seq rfl m_len boot_len (pa_cons (pv 0) pa_nil)) (pl_cons (pe_lam (qual := "least.<locals>.<lambda>") rfl hC bm (fun _ _ _ _ _ => rfl) rfl rfl) pl_nil rfl) rfl) rfl))) pa_nil))) (pss_cons (ps_set (i := 4) scLeast.nd rfl (Or.inr rfl) (pe_callD c_parted_rooms (hr.mono (by decide)) rfl (pl_at (pl_cons (pv 0) (pl_cons (pv 1) (pl_cons (pv 3) pl_nil rfl) rfl) rfl)))) (pss_cons (ps_set (i := 5) scLeast.nd rfl (Or.inl rfl) pe_dnewK) (pss_cons (ps_for PassesOwn.never rfl (pi_list (pv 3)) (pg_name (i := 6) scLeast.nd rfl (Or.inl rfl)) (pss_one (ps_expr (pe_bmD PySem.F.plainAttrs_dict PySem.F.slot_dict_setdefault PySem.F.type_dict_setdefault (mt_setd hu) (pv 5) (pl_at (pl_cons (pe_dget hu1 (pv 4) (pv 6) (fun _ _ => rfl)) (pl_cons (pv 6) pl_nil rfl) rfl)))))) (pss_cons (ps_set (i := 7) scLeast.nd rfl (Or.inr rfl) (pe_callTy (call_list_valsI rfl) rfl m_list boot_list (pa_cons (pe_bm0 PySem.F.plainAttrs_dict PySem.F.slot_dict_values PySem.F.type_dict_values mt_valuesI (pv 5)) pa_nil))) (pss_cons (ps_setCN1 (CompSc1.to (N := ["turns", "seen", "start", "rooms", "numbers", "firsts", "room", "kept", "told"]) (osc := defScope sLeast) (x := "turn") ⟨rfl, by decide +kernel, by decide +kernel, by decide +kernel, by decide +kernel, by decide +kernel, by decide +kernel, by decide +kernel⟩) rfl scLeast.nd (j := 8) rfl rfl (pi_tup (pv 0)) (fun _ _ _ _ => pts_nil) (fun _ _ _ _ => (pe_callTy (CallR.k (K := K) rTupOf call_tuple_of rfl) rfl m_tuple boot_tuple (pa_cons (pe_comp1 (CompSc.toN (N := ["turn", "turns", "seen", "start", "rooms", "numbers", "firsts", "room", "kept", "told"]) (vs := ["room"]) rfl rfl (by decide +kernel) (by decide +kernel) (by decide +kernel) (by decide +kernel) (by decide +kernel) (by kernel_rfl)) rfl rfl (pi_listK (K := K) (pv 8) rfl) (fun _ _ _ _ => pts_nil) (fun _ _ _ _ => (pe_dget hu1 (pv 6) (pe_ix (IxR.k (K := K) rIxT ix_tup rfl) (pv 1) (pv 0) (fun _ _ => rfl)) (fun _ _ => rfl)))) pa_nil)))) (pss_one (ps_ret (pe_tup (pl_at (pl_cons (pe_callTy call_tuple_of rfl m_tuple boot_tuple (pa_cons (pv 8) pa_nil)) (pl_cons (pe_callTy call_tuple_of rfl m_tuple boot_tuple (pa_cons (pe_comp1 (CompSc.to (N := ["turns", "seen", "start", "rooms", "numbers", "firsts", "room", "kept", "told"]) (osc := defScope sLeast) (vs := ["room"]) ⟨rfl, by decide +kernel, by decide +kernel, by decide +kernel, by decide +kernel, by decide +kernel, by decide +kernel⟩) rfl rfl (pi_list (pv 7)) (fun _ _ _ _ => pts_nil) (fun _ _ _ _ => (pe_ix (IxR.k (K := K) rIxT ix_tup rfl) (pv 2) (pv 0) (fun _ _ => rfl)))) pa_nil)) pl_nil rfl) rfl)))))))))))⟩
  obtain ⟨mr, hm, hmr, _⟩ := M.refs
  refine ⟨_, rfl, _, rfl, m, _, rfl, .inr (SqT.of hm), ?_⟩
  try dsimp only
  rw [List.length_map, hmr]
  refine go_least (R := fun r H3 => tNil _ H3 fun xs H4 => rListKI (r :: xs) H4 _) rfl M hs hT rfl fun D ws as H1 k1 o1 T1 W nw TT => ?_
  obtain ⟨ndr, ltr, clo, _, fewr⟩ := told_rooms M hs TT
  refine ⟨D, _, rfl, W.dict, fun rl nrl => ?_⟩
  rw [kvsI_keys ws as W.len]
  have kl := same_new nrl (.lst ((rms ws).map nv))
  have erl : upd H1 rl (.lst ((rms ws).map nv)) rl = some (.lst ((rms ws).map nv)) := upd_same
  have T2 := T1.same kl
  have k2 := k1.trans kl.keeps
  have o2 := o1.same kl
  generalize upd H1 rl (.lst ((rms ws).map nv)) = H2 at erl T2 k2 o2 ⊢
  have M2 := M.keeps k2
  have hse2 := k2 _ _ (noT_at hse fun _ e => nomatch e)
  refine ⟨_, rfl, _, rfl, _, rfl, m, se, rl, ts, n, zs, rms ws, rfl, M2, hse2, lz, erl, ndr, fewr, ltr, clo, fun d N H3 g3 ed Pn => ?_⟩
  have erl3 := g3 _ _ erl
  have fc := Pn.fc
  have er := fs_range _ fc
  intro fr nfr
  have kfr := same_new nfr (.dK [])
  have dg : ∀ {x : Nat} {H4 : Hp}, x ∈ rms ws → H4 d = some (.dK (numsK (rms ws) N)) → DGet H4 d (nv x) (some (nv (N x))) := fun {x H4} h e => val_nums (N := N) h ▸ DGet.k (k := Sum.inl (x : Int)) e
  let Pv : Nat → L2.St → Hp → Prop := fun i σ H' => Same H3 H' ∧ H' fr = some (.dK (numsK (fs (((rms ws).take i).map N)) (fstOf N (rms ws)))) ∧ ∃ o6, σ = [some (.ref m), some (.ref se), some (nv start), some (.ref rl), some (.ref d), some (.ref fr), o6, none, none]
  refine ⟨_, rfl, rl, rfl, ⟨_, SqL.of (kfr _ _ erl3)⟩, for_list (xs := (rms ws).map nv) Pv ⟨kfr, upd_same, none, rfl⟩ (fun i σ H' _ p => SqL.of (p.1 _ _ erl3)) (fun i x σ H' hx p => ?_) (fun σ H' p => ?_)⟩
  · obtain ⟨g4, e4, o6, rfl⟩ := p
    rw [List.getElem?_map] at hx
    obtain ⟨r, er', rfl⟩ := Option.map_eq_some_iff.mp hx
    have rr := List.mem_of_getElem? er'
    have li := (List.getElem?_eq_some_iff.mp er').1
    have tk : (rms ws).take (i + 1) = (rms ws).take i ++ [r] := by rw [List.take_add_one, er']; rfl
    have le := fs_le (((rms ws).take i).map N)
    rw [List.length_map, List.length_take] at le
    have lk : (numsK (fs (((rms ws).take i).map N)) (fstOf N (rms ws))).length < sizeLine := by unfold numsK; rw [List.length_map, sizeLine_eq]; omega
    refine ⟨_, rfl, ⟨fr, rfl, .inl ⟨_, e4⟩⟩, _, rfl, _, rfl, d, _, rfl, dg rr (g4 _ _ ed), _, rfl, fr, _, rfl, .inl ⟨_, Sum.inl ((N r : Nat) : Int), rfl, e4, lk, fun y hy => ⟨g4, ?_, _, rfl⟩, fun hn => ⟨same_upd g4 nfr, ?_, _, rfl⟩⟩⟩
    · by_cases c : N r ∈ fs (((rms ws).take i).map N)
      · rw [tk, List.map_append, List.map_singleton, fs_snoc, show addN (fs (((rms ws).take i).map N)) (N r) = _ from if_pos c]
        exact e4
      · rw [val_nums_no c] at hy
        cases hy
    · by_cases c : N r ∈ fs (((rms ws).take i).map N)
      · rw [val_nums c] at hn
        cases hn
      · rw [upd_same, tk, List.map_append, List.map_singleton, fs_snoc, show addN (fs (((rms ws).take i).map N)) (N r) = _ from if_neg c]
        unfold numsK
        rw [List.map_append, List.map_singleton]
        have e5 : fstOf N (rms ws) (N r) = r := by
          have sp : rms ws = (rms ws).take i ++ r :: (rms ws).drop (i + 1) := (List.take_append_drop i _).symm.trans (by rw [List.drop_eq_getElem_cons li, (List.getElem?_eq_some_iff.mp er').2])
          have z : fstOf N ((rms ws).take i ++ r :: (rms ws).drop (i + 1)) (N r) = r := fst_new fun u hu e => c ((mem_fs _).mpr (e ▸ List.mem_map_of_mem hu))
          rw [← sp] at z
          exact z
        rw [e5]
  obtain ⟨g4, e4, o6, rfl⟩ := p
  rw [List.length_map, List.take_length, er] at e4
  refine ⟨_, rfl, .inr (.inr (.inl ⟨rfl, .inl ⟨_, e4⟩⟩)), rfl, fr, _, rfl, e4, fun v nv' => ⟨v, fr, _, rfl, upd_same, (same_new nv' _) _ _ e4, fun kp nkp => ?_⟩⟩
  have kv := same_new nv' (VViewO v fr)
  have ekp : (numsK (List.range (cls N (rms ws))) (fstOf N (rms ws))).map (·.2) = (kept N (rms ws)).map nv := by unfold numsK kept; rw [List.map_map, List.map_map]; rfl
  rw [ekp]
  have kkp := same_new nkp (.lst ((kept N (rms ws)).map nv))
  have e5 : upd (upd H' v (VViewO v fr)) kp (.lst ((kept N (rms ws)).map nv)) kp = some (.lst ((kept N (rms ws)).map nv)) := upd_same
  have g5 := g4.trans (kv.trans kkp)
  generalize upd (upd H' v (VViewO v fr)) kp (.lst ((kept N (rms ws)).map nv)) = H5 at e5 g5 ⊢
  have M5 := (M2.same g3).same g5
  have ed5 := g5 _ _ ed
  have hse5 := g5 _ _ (g3 _ _ hse2)
  have few4 := M.few
  obtain ⟨tr, a1, a2, a3⟩ := M5.refs
  have ck : cls N (rms ws) ≤ 120 := by
    have z := fs_le ((rms ws).map N)
    rw [List.length_map] at z
    exact Nat.le_trans z fewr
  have inK : ∀ r ∈ kept N (rms ws), r ∈ rms ws := fun r hr' => by
    obtain ⟨k, hk, rfl⟩ := List.mem_map.mp hr'
    exact (kept_is Pn.toPt (List.mem_range.mp hk)).1
  have lkp : (kept N (rms ws)).length ≤ 120 := by
    unfold kept
    rw [List.length_map, List.length_range]
    exact ck
  refine ⟨_, rfl, m, rfl, ⟨_, SqT.of a1⟩, comp_tup (xs := tr.map V.ref) (fun i ys H6 => Same H5 H6 ∧ ∃ bs : List Addr, ys = bs.map V.ref ∧ bs.length = i ∧ ∀ (j : Nat) b t, bs[j]? = some b → ts[j]? = some t → H6 b = some (.tup (((kept N (rms ws)).map fun r => N (t.getD r 0)).map nv))) (by rw [List.length_map, a2, sizeLine_eq]; omega) ⟨Same.refl _, [], rfl, rfl, fun j b x e => by simp at e⟩ (fun i ys H6 _ p => ?_) (fun i v ys H6 hv p => ?_) (fun ys H6 p c2 hc2 => ?_)⟩
  · obtain ⟨g6, bs, rfl, lb, _⟩ := p
    exact ⟨SqT.of (g6 _ _ a1), by rw [List.length_map]; omega⟩
  · obtain ⟨g6, bs, rfl, lb, hb⟩ := p
    rw [List.getElem?_map] at hv
    obtain ⟨b, eb, rfl⟩ := Option.map_eq_some_iff.mp hv
    obtain ⟨t, et⟩ : ∃ t, ts[i]? = some t := ⟨_, List.getElem?_eq_getElem (by have := (List.getElem?_eq_some_iff.mp eb).1; omega)⟩
    have tt := List.mem_of_getElem? et
    obtain ⟨f1, f2⟩ := M.each t tt
    have e6 := g6 _ _ e5
    refine ⟨keep_one, yes_of ⟨_, rfl, kp, rfl, ⟨_, SqL.of e6⟩, comp_list (xs := (kept N (rms ws)).map nv) (fun i ys H7 => H7 = H6 ∧ ys = ((kept N (rms ws)).take i).map fun r => nv (N (t.getD r 0))) (by rw [List.length_map, sizeLine_eq]; omega) ⟨rfl, rfl⟩ (fun i ys H7 _ p => ?_) (fun i v ys H7 hv p => ?_) (fun ys H7 p c3 hc3 => ?_)⟩⟩
    · obtain ⟨rfl, rfl⟩ := p
      exact ⟨SqL.of e6, by rw [List.length_map, List.length_take]; omega⟩
    · obtain ⟨rfl, rfl⟩ := p
      rw [List.getElem?_map] at hv
      obtain ⟨r, er', rfl⟩ := Option.map_eq_some_iff.mp hv
      have rr := inK r (List.mem_of_getElem? er')
      refine ⟨keep_one, yes_of ⟨_, rfl, _, rfl, _, rfl, b, _, _, _, rfl, rfl, SqT.of (g6 _ _ (a3 _ b t eb et)), at_nv (by rw [f1]; exact ltr r rr), d, _, rfl, dg (clo r rr t tt) (g6 _ _ ed5), rfl, ?_⟩⟩
      rw [List.take_add_one, er', List.map_append]
      rfl
    · obtain ⟨rfl, rfl⟩ := p
      rw [List.length_map, List.take_length]
      have k3 := same_new hc3 (.lst ((kept N (rms ws)).map fun r => nv (N (t.getD r 0))))
      refine ⟨c3, _, rfl, .inl ⟨SqL.of upd_same, fun tp ntp => ?_⟩⟩
      have k4 := same_new ntp (.tup ((kept N (rms ws)).map fun r => nv (N (t.getD r 0))))
      have k34 := k3.trans k4
      refine ⟨g6.trans k34, bs ++ [tp], by rw [List.map_append]; rfl, by simp [lb], fun j b' x e1 e2 => ?_⟩
      by_cases hj : j < bs.length
      · rw [List.getElem?_append_left hj] at e1
        exact k34 _ _ (hb j b' x e1 e2)
      · have lj := (List.getElem?_eq_some_iff.mp e1).1
        rw [List.length_append] at lj
        have ej : j = i := by
          have : j < bs.length + 1 := lj
          omega
        subst ej
        rw [List.getElem?_append_right (by omega), show j - bs.length = 0 by omega] at e1
        cases e1
        rw [et] at e2
        cases e2
        rw [upd_same, List.map_map]
        rfl
  obtain ⟨g6, bs, rfl, lb, hb⟩ := p
  rw [List.length_map, a2] at lb
  have k6 := same_new hc2 (.lst (bs.map V.ref))
  refine ⟨_, rfl, c2, _, rfl, .inl ⟨SqL.of upd_same, fun tp ntp => ?_⟩⟩
  have k7 := same_new ntp (.tup (bs.map V.ref))
  have etp : upd (upd H6 c2 (.lst (bs.map V.ref))) tp (.tup (bs.map V.ref)) tp = some (.tup (bs.map V.ref)) := upd_same
  have g7 := g6.trans (k6.trans k7)
  have hb7 : ∀ (j : Nat) b t, bs[j]? = some b → ts[j]? = some t → upd (upd H6 c2 (.lst (bs.map V.ref))) tp (.tup (bs.map V.ref)) b = some (.tup (((kept N (rms ws)).map fun r => N (t.getD r 0)).map nv)) := fun j b t e1 e2 => (k6.trans k7) _ _ (hb j b t e1 e2)
  generalize upd (upd H6 c2 (.lst (bs.map V.ref))) tp (.tup (bs.map V.ref)) = H7 at etp g7 hb7 ⊢
  have e7 := g7 _ _ e5
  refine ⟨_, rfl, kp, rfl, ⟨_, SqL.of e7⟩, comp_list (xs := (kept N (rms ws)).map nv) (fun i ys H8 => H8 = H7 ∧ ys = ((kept N (rms ws)).take i).map fun r => V.int (zs.getD r 0)) (by rw [List.length_map, sizeLine_eq]; omega) ⟨rfl, rfl⟩ (fun i ys H8 _ p => ?_) (fun i v ys H8 hv p => ?_) (fun ys H8 p c3 hc3 => ?_)⟩
  · obtain ⟨rfl, rfl⟩ := p
    exact ⟨SqL.of e7, by rw [List.length_map, List.length_take]; omega⟩
  · obtain ⟨rfl, rfl⟩ := p
    rw [List.getElem?_map] at hv
    obtain ⟨r, er', rfl⟩ := Option.map_eq_some_iff.mp hv
    have rr := inK r (List.mem_of_getElem? er')
    refine ⟨keep_one, yes_of ⟨_, rfl, _, rfl, se, _, _, _, rfl, rfl, SqT.of (g7 _ _ hse5), at_int (by have := ltr r rr; omega), rfl, ?_⟩⟩
    rw [List.take_add_one, er', List.map_append]
    rfl
  obtain ⟨rfl, rfl⟩ := p
  rw [List.length_map, List.take_length]
  have k8 := same_new hc3 (.lst ((kept N (rms ws)).map fun r => V.int (zs.getD r 0)))
  refine ⟨c3, _, rfl, .inl ⟨SqL.of upd_same, fun vp nvp => ?_⟩⟩
  have k9 := same_new nvp (.tup ((kept N (rms ws)).map fun r => V.int (zs.getD r 0)))
  refine ⟨by show 2 ≤ sizeLine; decide, fun p np => ?_⟩
  have k10 := same_new np (.tup [.ref tp, .ref vp])
  have g10 := (k8.trans k9).trans k10
  have all : Same H2 _ := (g3.trans g5).trans (g7.trans g10)
  refine q p ws N _ (k2.trans all.keeps) (o2.same all) (T2.same all) TT Pn ⟨tp, vp, bs, upd_same, g10 _ _ etp, by rw [lb]; unfold told; rw [List.length_map], fun i r row e1 e2 => ?_, ?_⟩
  · unfold told at e2
    rw [List.getElem?_map] at e2
    obtain ⟨t, et, rfl⟩ := Option.map_eq_some_iff.mp e2
    exact g10 _ _ (hb7 i r t e1 et)
  · rw [k10 _ _ upd_same, List.map_map]
    rfl
end
section
variable {f : List Nat → Nat → List Nat} {L : Nat} {x0 : List Nat} {ws : L2.TW}
end
section
variable {ts : List (List Nat)} {sn : Nat → Int} {N : Nat → Nat}
theorem earlier {us vs : List Nat} {r c : Nat} (fc : ∀ x ∈ us ++ r :: vs, nb (us ++ r :: vs) N x = N x) (h : c < N r) : ∃ x ∈ us, N x = c := by
  have e := fs_range _ fc
  have sp : us ++ r :: vs = (us ++ [r]) ++ vs := by simp
  have e' := e
  rw [show fs ((us ++ r :: vs).map N) = fs (((us ++ [r]).map N) ++ vs.map N) by rw [sp, List.map_append]] at e'
  obtain ⟨zs, ez⟩ := fs_pre ((us ++ [r]).map N) (vs.map N)
  rw [ez] at e'
  have e1 : fs ((us ++ [r]).map N) = List.range (fs ((us ++ [r]).map N)).length := by
    refine List.ext_getElem (by rw [List.length_range]) fun i h1 h2 => ?_
    have z : (fs ((us ++ [r]).map N) ++ zs)[i]? = (List.range (cls N (us ++ r :: vs)))[i]? := by rw [e']
    rw [List.getElem?_append_left h1, List.getElem?_eq_getElem h1] at z
    rw [List.getElem_range]
    obtain ⟨_, z2⟩ := List.getElem?_eq_some_iff.mp z.symm
    rw [List.getElem_range] at z2
    exact z2.symm
  have mr : N r ∈ fs ((us ++ [r]).map N) := (mem_fs _).mpr (List.mem_map_of_mem (List.mem_append_right _ (List.mem_singleton.mpr rfl)))
  have mc : c ∈ fs ((us ++ [r]).map N) := by
    rw [e1] at mr ⊢
    have := List.mem_range.mp mr
    exact List.mem_range.mpr (by omega)
  obtain ⟨x, hx, ex⟩ := List.mem_map.mp ((mem_fs _).mp mc)
  rcases List.mem_append.mp hx with hx | hx
  · exact ⟨x, hx, ex⟩
  · rw [List.mem_singleton.mp hx] at ex
    omega
variable {start : Nat} {ws : L2.TW}
end
section
variable {ts : List (List Nat)} {sn : Nat → Int} {rs : List Nat} {N : Nat → Nat}
theorem kept_len : (kept N rs).length = cls N rs := by
  unfold kept
  rw [List.length_map, List.length_range]
theorem kept_at {k : Nat} (h : k < cls N rs) : (kept N rs)[k]? = some (fstOf N rs k) := by
  unfold kept
  rw [List.getElem?_map, List.getElem?_range h]
  rfl
theorem told_len : (told ts N rs).length = ts.length := by
  unfold told
  rw [List.length_map]
theorem told_row {l : Nat} (hl : l < ts.length) : (told ts N rs).getD l [] = (kept N rs).map fun r => N ((ts.getD l []).getD r 0) := by
  unfold told
  rw [List.getD_eq_getElem?_getD, List.getElem?_map, List.getD_eq_getElem?_getD, List.getElem?_eq_getElem hl]
  rfl
theorem told_at {l k : Nat} (hl : l < ts.length) (hk : k < cls N rs) : ((told ts N rs).getD l []).getD k 0 = N ((ts.getD l []).getD (fstOf N rs k) 0) := by
  rw [told_row hl, List.getD_eq_getElem?_getD, List.getElem?_map, kept_at hk]
  rfl
theorem in_ts {l : Nat} (hl : l < ts.length) : ts.getD l [] ∈ ts := by
  rw [List.getD_eq_getElem?_getD, List.getElem?_eq_getElem hl]
  exact List.getElem_mem hl
theorem told_step (P : Pd ts sn rs N) {l r : Nat} (hl : l < ts.length) (hr : r ∈ rs) : ((told ts N rs).getD l []).getD (N r) 0 = N ((ts.getD l []).getD r 0) := by
  have lt := N_lt P.toPt hr
  obtain ⟨a, b⟩ := kept_is P.toPt lt
  rw [told_at hl lt, P.stab _ a _ hr b _ (in_ts hl)]
theorem view_at (P : Pd ts sn rs N) {r : Nat} (hr : r ∈ rs) : ((kept N rs).map sn).getD (N r) 0 = sn r := by
  have lt := N_lt P.toPt hr
  obtain ⟨a, b⟩ := kept_is P.toPt lt
  rw [List.getD_eq_getElem?_getD, List.getElem?_map, kept_at lt]
  exact P.see _ a _ hr b
end
def unP (m : Nat) : List (Nat × Nat) := (List.range m).flatMap fun i => ((List.range m).erase i).map fun j => (i, j)
section
variable {ts : List (List Nat)} {sn : Nat → Int} {N : Nat → Nat} {start : Nat} {ws : L2.TW}
theorem gone_in (hc : ∀ r ∈ rms ws, ∀ t ∈ ts, t.getD r 0 ∈ rms ws) : ∀ (word : List Nat) (r : Nat), r ∈ rms ws → (∀ l ∈ word, l < ts.length) → gone ts r word ∈ rms ws
  | [], _, hr, _ => hr
  | l :: word, r, hr, hw => gone_in hc word _ (hc r hr _ (in_ts (hw l (List.mem_cons_self ..)))) fun x hx => hw x (List.mem_cons_of_mem _ hx)
theorem Pd.same (P : Pd ts sn (rms ws) N) (hc : ∀ r ∈ rms ws, ∀ t ∈ ts, t.getD r 0 ∈ rms ws) : ∀ (word : List Nat) (r r' : Nat), r ∈ rms ws → r' ∈ rms ws → N r = N r' → (∀ l ∈ word, l < ts.length) → sn (gone ts r word) = sn (gone ts r' word)
  | [], r, r', hr, hr', e, _ => P.see r hr r' hr' e
  | l :: word, r, r', hr, hr', e, hw => by
    have hl := hw l (List.mem_cons_self ..)
    exact Pd.same P hc word _ _ (hc r hr _ (in_ts hl)) (hc r' hr' _ (in_ts hl)) (P.stab r hr r' hr' e _ (in_ts hl)) fun x hx => hw x (List.mem_cons_of_mem _ hx)
variable {ts' : List (List Nat)} {sn' : Nat → Int} {N' : Nat → Nat} {start' : Nat} {ws' : L2.TW} {h : Nat → Nat}
end
theorem N_start {ts : List (List Nat)} {sn : Nat → Int} {N : Nat → Nat} {start : Nat} {ws : L2.TW} (T : L2.Told (stI ts) ts.length [start] ws) (P : Pt ts sn (rms ws) N) : N start = 0 := by
  obtain ⟨ws', e1⟩ : ∃ ws', ws = ([start], []) :: ws' := by
    have z := T.head
    cases ws with
    | nil => cases z
    | cons a b => exact ⟨b, by rw [List.getElem?_cons_zero] at z; rw [Option.some.inj z]⟩
  have e2 : rms ws = [] ++ start :: rms ws' := by rw [e1]; rfl
  by_cases c0 : N start = 0
  · exact c0
  · obtain ⟨x, hx, _⟩ := earlier (us := []) (vs := rms ws') (r := start) (c := 0) (N := N) (by rw [← e2]; exact P.fc) (by omega)
    nomatch hx
theorem first_some {ts : List (List Nat)} {zs : List Int} {x0 : List Nat} {ws : TW} (T : Told (beh2 ts) ts.length x0 ws) {u : List Nat} (h : firstW zs ws = some u) : (∀ l ∈ u, l < ts.length) ∧ unl zs (goes (beh2 ts) x0 u) = true ∧ ∀ v : List Nat, (∀ l ∈ v, l < ts.length) → unl zs (goes (beh2 ts) x0 v) = true → sle u v := by
  unfold firstW at h
  obtain ⟨p, hp, rfl⟩ := Option.map_eq_some_iff.mp h
  obtain ⟨hu, as, bs, ew, no⟩ := List.find?_eq_some_iff_append.mp hp
  have pw : p ∈ ws := by rw [ew]; exact List.mem_append_right _ (List.mem_cons_self ..)
  obtain ⟨r1, r2⟩ := T.run p pw
  refine ⟨r1, by rw [r2]; exact hu, fun v hv uv => ?_⟩
  obtain ⟨u', h1, h2⟩ := T.least _ v rfl hv
  refine sle_trans ?_ h2
  have up := T.up
  rw [ew] at h1 up
  rcases List.mem_append.mp h1 with m | m
  · have z := no _ m
    rw [uv] at z
    cases z
  · rcases List.mem_cons.mp m with m | m
    · exact .inl (by rw [← m])
    · exact .inr ((List.pairwise_cons.mp (List.pairwise_append.mp up).2.1).1 _ m)
theorem first_no {ts : List (List Nat)} {zs : List Int} {x0 : List Nat} {ws : TW} (T : Told (beh2 ts) ts.length x0 ws) (h : firstW zs ws = none) : ∀ v : List Nat, (∀ l ∈ v, l < ts.length) → unl zs (goes (beh2 ts) x0 v) = false := fun v hv => by
  unfold firstW at h
  have z := List.find?_eq_none.mp (Option.map_eq_none_iff.mp h)
  obtain ⟨u', h1, _⟩ := T.least _ v rfl hv
  have y := z _ h1
  cases e : unl zs (goes (beh2 ts) x0 v) with
  | false => rfl
  | true => exact absurd e y
theorem goes2 {ts : List (List Nat)} (word : List Nat) : ∀ a b : Nat, goes (beh2 ts) [a, b] word = [gone ts a word, gone ts b word] := by
  induction word with
  | nil => exact fun a b => rfl
  | cons l word ih => exact fun a b => ih ((ts.getD l []).getD a 0) ((ts.getD l []).getD b 0)
theorem first_eq {ts ts' : List (List Nat)} {zs zs' : List Int} {x0 x0' : List Nat} {ws ws' : TW} (T : Told (beh2 ts) ts.length x0 ws) (T' : Told (beh2 ts') ts'.length x0' ws') (el : ts'.length = ts.length) (h : ∀ v : List Nat, (∀ l ∈ v, l < ts.length) → unl zs (goes (beh2 ts) x0 v) = unl zs' (goes (beh2 ts') x0' v)) : firstW zs ws = firstW zs' ws' := by
  cases e : firstW zs ws with
  | none =>
    cases e' : firstW zs' ws' with
    | none => rfl
    | some u' =>
      obtain ⟨a1, a2, _⟩ := first_some T' e'
      have z := first_no T e u' fun l hl => el ▸ a1 l hl
      rw [h u' fun l hl => el ▸ a1 l hl, a2] at z
      cases z
  | some u =>
    obtain ⟨a1, a2, a3⟩ := first_some T e
    cases e' : firstW zs' ws' with
    | none =>
      have z := first_no T' e' u fun l hl => el.symm ▸ a1 l hl
      rw [← h u a1, a2] at z
      cases z
    | some u' =>
      obtain ⟨b1, b2, b3⟩ := first_some T' e'
      have b1' : ∀ l ∈ u', l < ts.length := fun l hl => el ▸ b1 l hl
      have s1 := a3 u' b1' (by rw [h u' b1']; exact b2)
      have s2 := b3 u (fun l hl => el.symm ▸ a1 l hl) (by rw [← h u a1]; exact a2)
      rw [sle_anti s1 s2]
theorem unl_gone {ts : List (List Nat)} {zs : List Int} {a b : Nat} {v : List Nat} : unl zs (goes (beh2 ts) [a, b] v) = !decide (zs.getD (gone ts a v) 0 = zs.getD (gone ts b v) 0) := by
  rw [goes2]
  rfl
theorem part_iff {ts : List (List Nat)} {zs : List Int} {ws ws2 : TW} {N : Nat → Nat} {a b : Nat} (P : Pd ts (fun r => zs.getD r 0) (rms ws) N) (hc : ∀ r ∈ rms ws, ∀ t ∈ ts, t.getD r 0 ∈ rms ws) (ha : a ∈ rms ws) (hb : b ∈ rms ws) (T : Told (beh2 ts) ts.length [a, b] ws2) : firstW zs ws2 = none ↔ N a = N b := by
  constructor
  · intro h
    refine P.coarse a ha b hb fun v hv => ?_
    have z := first_no T h v hv
    rw [unl_gone] at z
    exact of_decide_eq_true (by cases y : decide (zs.getD (gone ts a v) 0 = zs.getD (gone ts b v) 0) with | true => rfl | false => rw [y] at z; cases z)
  · intro e
    cases h : firstW zs ws2 with
    | none => rfl
    | some u =>
      obtain ⟨a1, a2, _⟩ := first_some T h
      rw [unl_gone, decide_eq_true (P.same hc u a b ha hb e a1)] at a2
      cases a2
theorem gone_told {ts : List (List Nat)} {sn : Nat → Int} {rs : List Nat} {N : Nat → Nat} (P : Pd ts sn rs N) (hc : ∀ r ∈ rs, ∀ t ∈ ts, t.getD r 0 ∈ rs) : ∀ (v : List Nat) (r : Nat), r ∈ rs → (∀ l ∈ v, l < ts.length) → gone (told ts N rs) (N r) v = N (gone ts r v)
  | [], _, _, _ => rfl
  | l :: v, r, hr, hv => by
    have hl := hv l (List.mem_cons_self ..)
    show gone (told ts N rs) (((told ts N rs).getD l []).getD (N r) 0) v = N (gone ts ((ts.getD l []).getD r 0) v)
    rw [told_step P hl hr]
    exact gone_told P hc v _ (hc r hr _ (in_ts hl)) fun x hx => hv x (List.mem_cons_of_mem _ hx)
theorem part_same {ts : List (List Nat)} {zs : List Int} {ws ws2 ws3 : TW} {N : Nat → Nat} {a b : Nat} (P : Pd ts (fun r => zs.getD r 0) (rms ws) N) (hc : ∀ r ∈ rms ws, ∀ t ∈ ts, t.getD r 0 ∈ rms ws) (ha : a ∈ rms ws) (hb : b ∈ rms ws) (T : Told (beh2 ts) ts.length [a, b] ws2)
    (T' : Told (beh2 (told ts N (rms ws))) (told ts N (rms ws)).length [N a, N b] ws3) : firstW ((kept N (rms ws)).map fun r => zs.getD r 0) ws3 = firstW zs ws2 := by
  refine (first_eq T T' told_len fun v hv => ?_).symm
  rw [unl_gone, unl_gone, gone_told P hc v a ha hv, gone_told P hc v b hb hv]
  have e1 := view_at P (gone_in hc v a ha hv)
  have e2 := view_at P (gone_in hc v b hb hv)
  rw [e1, e2]
theorem small_big {H : Hp} {sa : Addr} {sas : List Addr} {ts : List (List Nat)} {n start : Nat} {zs : List Int} {ws : TW} {N : Nat → Nat} (P : Pd ts (fun r => zs.getD r 0) (rms ws) N) (hc : ∀ r ∈ rms ws, ∀ t ∈ ts, t.getD r 0 ∈ rms ws) (hs : start ∈ rms ws) (nd : (rms ws).Nodup) (lt : ∀ r ∈ rms ws, r < n) (n60 : n ≤ 60) (s1 : 1 ≤ ts.length) (few : ts.length ≤ 4)
    (x2 : H sa = some (.tup (sas.map V.ref))) (x3 : sas.length = (told ts N (rms ws)).length) (x4 : ∀ (i : Nat) r row, sas[i]? = some r → (told ts N (rms ws))[i]? = some row → H r = some (.tup (row.map nv))) : Big H sa (told ts N (rms ws)) (cls N (rms ws)) := by
  refine ⟨⟨sas, x2, x3, x4⟩, by rw [told_len]; exact s1, by rw [told_len]; exact few, Nat.lt_of_le_of_lt (Nat.zero_le _) (N_lt P.toPt hs), ?_, fun t ht => ?_⟩
  · have z : cls N (rms ws) ≤ ((rms ws).map N).length := List.Nodup.length_le_of_subset (fs_nodup _) fun x hx => (mem_fs _).mp hx
    have y : (rms ws).length ≤ (List.range n).length := List.Nodup.length_le_of_subset nd fun x hx => List.mem_range.mpr (lt x hx)
    rw [List.length_map] at z
    rw [List.length_range] at y
    omega
  · unfold told at ht
    obtain ⟨t0, h0, rfl⟩ := List.mem_map.mp ht
    refine ⟨by rw [List.length_map, kept_len], fun x hx => ?_⟩
    obtain ⟨r, hr, rfl⟩ := List.mem_map.mp hx
    unfold kept at hr
    obtain ⟨k, hk, rfl⟩ := List.mem_map.mp hr
    obtain ⟨b1, _⟩ := kept_is P.toPt (List.mem_range.mp hk)
    exact N_lt P.toPt (hc _ b1 _ h0)
section
variable {P : Program} {w : World} {K : PySem.W.Frag} {mg : Str → Option Value} {base : Heap} {f : Addr} {fd : FuncData}
def spLinks : Sp := fun vs H Q _ => ∃ (m a : Addr) (ts : List (List Nat)) (n : Nat) (sn : Nat → Int) (start : Nat) (ws : TW) (N : Nat → Nat), vs = [.ref m, .ref a, nv start] ∧ Mch H m ts n ∧ start < n ∧ Told (stI ts) ts.length [start] ws ∧ Pd ts sn (rms ws) N ∧
  ∃ as : List Addr, H a = some (.tup (as.map V.ref)) ∧ as.length = (told ts N (rms ws)).length ∧ (∀ (i : Nat) r row, as[i]? = some r → (told ts N (rms ws))[i]? = some row → H r = some (.tup (row.map nv))) ∧
  ∀ d us H', Same H H' → H' d = some (.dK (numsK us N)) → us.Nodup → (∀ x ∈ us, x ∈ rms ws) → us ≠ [] → Q (.ref d) H'
theorem ok_links (F : Fun K "_law_links" "_law_links" sLawLinks f fd) (m_zip : mg "zip" = none) : FnOk P w K mg base CX0 1 f fd ["_law_turns", "_law_small", "_law_start"] spLinks := by
  refine F.ok scLawLinks (fun vs H Q E h => ?_) (fun cdv A outer s H vs Q E hr h => ?_)
  · obtain ⟨m, a, ts, n, sn, start, ws, N, rfl, _⟩ := h
    rfl
  obtain ⟨m, a, ts, n, sn, start, ws, N, rfl, M, hs, TT, Pn, as, h2, h3, h4, q⟩ := h
  have hu := hr.units
  have hu1 := hu_of hr
  refine ⟨_, (pss_cons (ps_set (i := 3) scLawLinks.nd rfl (Or.inl rfl) (pe_disp1B hu1 (pv 2) pe_int)) (pss_cons (ps_set (i := 4) scLawLinks.nd rfl (Or.inl rfl) (pe_lst (pa_cons (pv 2) pa_nil))) (pss_cons (ps_while PassesOwn.never (pt_cmpR (op_neD hu) (pv 4) (pe_lst pa_nil) (nomark _)) (pss_cons (ps_set (i := 5) scLawLinks.nd rfl (Or.inl rfl) (pe_bm0 PySem.F.plainAttrs_list PySem.F.slot_list_pop PySem.F.type_list_pop mt_pop (pv 4))) (pss_one (ps_for PassesOwn.never rfl (pi_zip rfl m_zip (pl_at (pl_cons (pv 0) (pl_cons (pv 1) pl_nil rfl) rfl))) (pg_tup rfl (pgs_cons (pg_name (i := 6) scLawLinks.nd rfl (Or.inl rfl)) (pgs_cons (pg_name (i := 7) scLawLinks.nd rfl (Or.inl rfl)) pgs_nil))) (pss_one (ps_if (pt_cmp (pc_dnotin hu1 (pe_ix ix_tup (pv 6) (pv 5) (fun _ _ => rfl)) (pv 3))) (pss_cons (ps_dput hu1 (pv 3) (pe_ix ix_tup (pv 6) (pv 5) (fun _ _ => rfl)) (pe_ix ix_tup (pv 7) (pe_dget hu1 (pv 3) (pv 5) (fun _ _ => rfl)) (fun _ _ => rfl)) rfl) (pss_one (ps_expr (pe_bm PySem.F.plainAttrs_list PySem.F.slot_list_append PySem.F.type_list_append mt_append (pv 4) (pa_cons (pe_ix ix_tup (pv 6) (pv 5) (fun _ _ => rfl)) pa_nil))))) pss_nil)))))) (pss_one (ps_ret (pv 3)))))), ?_⟩
  obtain ⟨ndr, ltr, clo, sin, fewr⟩ := told_rooms M hs TT
  have N0 := N_start TT Pn.toPt
  refine .inr fun D hD => ?_
  refine ⟨_, rfl, upd_same, [(Sum.inl (start : Int), .int 0)], rfl, by show 1 ≤ 15; decide, ?_⟩
  rw [upd_upd]
  have eD : (HO.dK (mergeK [] [(Sum.inl (start : Int), .int 0)])) = .dK (numsK [start] N) := by
    unfold numsK
    rw [List.map_singleton, N0]
    rfl
  rw [eD]
  have kD := same_new hD (.dK (numsK [start] N))
  refine ⟨_, rfl, by show 1 ≤ sizeLine; decide, fun wl nwl => ?_⟩
  have kw := same_new nwl (.lst [nv start])
  have wD : wl ≠ D := fun z => by
    rw [z, upd_same] at nwl
    cases nwl
  let Wv : Nat → L2.St → Hp → Prop := fun k σ H2 => ∃ (vs ss : List Nat) (o8 o9 o10 : Option V), vs.Nodup ∧ (∀ x ∈ vs, x ∈ rms ws) ∧ vs ≠ [] ∧ ss.Nodup ∧ (∀ x ∈ ss, x ∈ vs) ∧ H2 D = some (.dK (numsK vs N)) ∧ H2 wl = some (.lst (ss.map nv)) ∧ Same H H2 ∧ k = 2 * (120 - vs.length) + ss.length ∧ σ = [some (.ref m), some (.ref a), some (nv start), some (.ref D), some (.ref wl), o8, o9, o10]
  refine ⟨Wv, ⟨_, [start], [start], none, none, none, (by simp), (fun x hx => by rw [List.mem_singleton.mp hx]; exact sin), (by simp), (by simp), (fun x hx => hx), kw _ _ upd_same, upd_same, kD.trans kw, rfl, rfl⟩, fun k σ H2 pp => ?_⟩
  obtain ⟨vs, ss, o8, o9, o10, n1, i1, nev, n2, i2, e1, e2, g2, rfl, rfl⟩ := pp
  have lv120 : vs.length ≤ 120 := Nat.le_trans (List.Nodup.length_le_of_subset n1 i1) fewr
  have ls120 : ss.length ≤ 120 := Nat.le_trans (List.Nodup.length_le_of_subset n2 i2) lv120
  refine ⟨_, rfl, by show 0 ≤ sizeLine; decide, fun l0 nl0 => ?_⟩
  have k0 := same_new nl0 (.lst [])
  have e1' := k0 _ _ e1
  have e2' := k0 _ _ e2
  have g3 := g2.trans k0
  refine ⟨wl, l0, 0, _, _, rfl, rfl, repLn (SqL.of e2'), repLn (is := []) (SqL.of upd_same), by decide, fun bb hb => ⟨_, rfl, ?_⟩⟩
  generalize upd H2 l0 (.lst []) = H3 at e1' e2' g3 ⊢
  by_cases ce : ss = []
  · have z : bb = true := hb.mpr (by rw [ce])
    rw [z]
    exact iteF ⟨_, rfl, q D vs _ g3 e1' n1 i1 nev⟩
  have z : bb = false := by
    cases bb with
    | false => rfl
    | true =>
      have y := hb.mp rfl
      injection y with y
      have y' := congrArg List.length y
      rw [List.length_map, List.length_map] at y'
      exact absurd (List.length_eq_zero_iff.mp y') ce
  rw [z]
  refine iteT ⟨fun σ' H' => ∃ m', m' < 2 * (120 - vs.length) + ss.length ∧ Wv m' σ' H', fun σ' H' h => h, ?_⟩
  obtain ⟨ss', r, rfl⟩ : ∃ ss' r, ss = ss' ++ [r] := ⟨ss.dropLast, ss.getLast ce, (List.dropLast_concat_getLast ce).symm⟩
  have rv : r ∈ vs := i2 r (List.mem_append_right _ (List.mem_singleton.mpr rfl))
  have rr := i1 r rv
  have n2' := List.nodup_append.mp n2
  refine ⟨_, rfl, .inl ⟨rfl, _, SqL.of e2'⟩, wl, _, nv r, rfl, rfl, e2', by rw [List.map_append, List.length_append]; simp, ?_⟩
  have edl : ((ss' ++ [r]).map nv).dropLast = ss'.map nv := by rw [List.map_append, List.map_singleton, List.dropLast_concat]
  rw [edl]
  have e4 : upd H3 wl (.lst (ss'.map nv)) D = some (.dK (numsK vs N)) := by rw [upd_ne (Ne.symm wD)]; exact e1'
  have e5 : upd H3 wl (.lst (ss'.map nv)) wl = some (.lst (ss'.map nv)) := upd_same
  have g4 : Same H (upd H3 wl (.lst (ss'.map nv))) := same_upd g3 (kD.free nwl)
  generalize upd H3 wl (.lst (ss'.map nv)) = H4 at e4 e5 g4 ⊢
  have dg : ∀ {x : Nat} {vs : List Nat} {H5 : Hp}, x ∈ vs → H5 D = some (.dK (numsK vs N)) → DGet H5 D (nv x) (some (nv (N x))) := fun {x vs H5} h e => val_nums (N := N) h ▸ DGet.k (k := Sum.inl (x : Int)) e
  have cN := N_lt Pn.toPt rr
  obtain ⟨mr, a1, a2, a3⟩ := M.refs
  have h3' : as.length = ts.length := by rw [h3, told_len]
  let Pj : Nat → L2.St → Hp → Prop := fun j σ H5 => ∃ (us tt : List Nat) (o9 o10 : Option V), us.Nodup ∧ (∀ x ∈ us, x ∈ rms ws) ∧ tt.Nodup ∧ (∀ x ∈ tt, x ∈ us) ∧ r ∈ us ∧ H5 D = some (.dK (numsK us N)) ∧ H5 wl = some (.lst (tt.map nv)) ∧ Same H H5 ∧ (us.length + ss'.length = vs.length + tt.length ∧ vs.length ≤ us.length) ∧ σ = [some (.ref m), some (.ref a), some (nv start), some (.ref D), some (.ref wl), some (nv r), o9, o10]
  refine ⟨_, rfl, _, rfl, m, a, _, _, rfl, SqT.of (g4 _ _ a1), SqT.of (g4 _ _ h2), for_zip (xs := mr.map V.ref) (ys := as.map V.ref) Pj ⟨vs, ss', _, _, n1, i1, n2'.1, (fun x hx => i2 x (List.mem_append_left _ hx)), rv, e4, e5, g4, ⟨by omega, Nat.le_refl _⟩, rfl⟩ (fun j σ H5 pp => ?_) (fun j x y T σ H5 hx hy hT pp => ?_) (fun σ H5 pp => ?_)⟩
  · obtain ⟨_, _, _, _, _, _, _, _, _, _, _, g5, _⟩ := pp
    exact ⟨SqT.of (g5 _ _ a1), SqT.of (g5 _ _ h2)⟩
  · obtain ⟨us, tt, o9, o10, m1, j1, m2, j2, ru, d1, d2, g5, ln, rfl⟩ := pp
    rw [List.getElem?_map] at hx hy
    obtain ⟨b1, eb1, rfl⟩ := Option.map_eq_some_iff.mp hx
    obtain ⟨b2, eb2, rfl⟩ := Option.map_eq_some_iff.mp hy
    have jl : j < ts.length := by have := (List.getElem?_eq_some_iff.mp eb1).1; omega
    have etj : ts[j]? = some (ts.getD j []) := by rw [List.getD_eq_getElem?_getD, List.getElem?_eq_getElem jl]; rfl
    have erj : (told ts N (rms ws))[j]? = some ((told ts N (rms ws)).getD j []) := by rw [List.getD_eq_getElem?_getD, List.getElem?_eq_getElem (by rw [told_len]; exact jl)]; rfl
    have tj := List.mem_of_getElem? etj
    have kT := same_new hT (.tup [.ref b1, .ref b2])
    have eT : upd H5 T (.tup [.ref b1, .ref b2]) T = some (.tup [.ref b1, .ref b2]) := upd_same
    have d1' := kT _ _ d1
    have d2' := kT _ _ d2
    have g6 := g5.trans kT
    have hb1 := g6 _ _ (a3 j b1 _ eb1 etj)
    have hb2 := g6 _ _ (h4 j b2 _ eb2 erj)
    generalize upd H5 T (.tup [.ref b1, .ref b2]) = H6 at eT d1' d2' g6 hb1 hb2 ⊢
    have there := clo r rr _ tj
    have lus : us.length ≤ 120 := Nat.le_trans (List.Nodup.length_le_of_subset m1 j1) fewr
    have ltt : tt.length ≤ 120 := Nat.le_trans (List.Nodup.length_le_of_subset m2 j2) lus
    have atr : atI ((ts.getD j []).map nv) ((r : Nat) : Int) = some (nv ((ts.getD j []).getD r 0)) := at_nv (by rw [(M.each _ tj).1]; exact ltr r rr)
    have ato : atI (((told ts N (rms ws)).getD j []).map nv) ((N r : Nat) : Int) = some (nv (N ((ts.getD j []).getD r 0))) := by
      rw [← told_step Pn jl rr]
      exact at_nv (by rw [told_row jl, List.length_map, kept_len]; exact cN)
    refine ⟨T, _, rfl, SqT.of eT, rfl, _, _, rfl, _, _, rfl, rfl, ?_⟩
    refine ⟨_, rfl, _, rfl, b1, _, _, _, rfl, rfl, SqT.of hb1, atr, _, rfl, D, _, rfl, DGet.k (k := Sum.inl (((ts.getD j []).getD r 0 : Nat) : Int)) d1', _, rfl, ?_⟩
    by_cases cm : (ts.getD j []).getD r 0 ∈ us
    · rw [val_nums cm]
      exact iteF ⟨us, tt, _, _, m1, j1, m2, j2, ru, d1', d2', g6, ln, rfl⟩
    · rw [val_nums_no cm]
      refine iteT ⟨_, rfl, _, rfl, _, rfl, D, _, rfl, dg ru d1', b2, _, _, _, rfl, rfl, SqT.of hb2, ato, _, rfl, _, rfl, _, rfl, b1, _, _, _, rfl, rfl, SqT.of hb1, atr, D, _, rfl, DPut.k (k := Sum.inl (((ts.getD j []).getD r 0 : Nat) : Int)) d1' (by unfold numsK; rw [List.length_map, sizeLine_eq]; omega), ?_⟩
      rw [putK_new _ (val_nums_no cm)]
      have d3 : upd H6 D (.dK (numsK us N ++ [(Sum.inl (((ts.getD j []).getD r 0 : Nat) : Int), nv (N ((ts.getD j []).getD r 0)))])) wl = some (.lst (tt.map nv)) := by rw [upd_ne wD]; exact d2'
      have hb1' : upd H6 D (.dK (numsK us N ++ [(Sum.inl (((ts.getD j []).getD r 0 : Nat) : Int), nv (N ((ts.getD j []).getD r 0)))])) b1 = some (.tup ((ts.getD j []).map nv)) := by rw [upd_ne (ne_of hb1 d1' fun e => nomatch e)]; exact hb1
      refine ⟨_, rfl, .inl ⟨rfl, _, SqL.of d3⟩, _, rfl, _, rfl, b1, _, _, _, rfl, rfl, SqT.of hb1', atr, wl, _, _, rfl, rfl, d3, by rw [List.length_map, sizeLine_eq]; omega, ?_⟩
      refine ⟨us ++ [(ts.getD j []).getD r 0], tt ++ [(ts.getD j []).getD r 0], _, _, ?_, ?_, ?_, ?_, List.mem_append_left _ ru, ?_, ?_, same_upd (same_upd g6 hD) (kD.free nwl), by rw [List.length_append, List.length_append]; show us.length + 1 + _ = _ + (_ + 1) ∧ _ ≤ us.length + 1; omega, rfl⟩
      · rw [List.nodup_append]
        exact ⟨m1, by simp, fun x hx y hy e => cm (by rw [List.mem_singleton.mp hy] at e; exact e ▸ hx)⟩
      · intro x hx
        rcases List.mem_append.mp hx with h | h
        · exact j1 x h
        · rw [List.mem_singleton.mp h]
          exact there
      · rw [List.nodup_append]
        exact ⟨m2, by simp, fun x hx y hy e => cm (by rw [List.mem_singleton.mp hy] at e; exact j2 _ (e ▸ hx))⟩
      · intro x hx
        rcases List.mem_append.mp hx with h | h
        · exact List.mem_append_left _ (j2 x h)
        · exact List.mem_append_right _ h
      · rw [upd_ne (Ne.symm wD), upd_same]
        unfold numsK
        rw [List.map_append]
        rfl
      · rw [upd_same, List.map_append]
        rfl
  · obtain ⟨us, tt, o9, o10, m1, j1, m2, j2, ru, d1, d2, g5, ln, rfl⟩ := pp
    have lus : us.length ≤ 120 := Nat.le_trans (List.Nodup.length_le_of_subset m1 j1) fewr
    refine ⟨_, ?_, us, tt, _, _, _, m1, j1, List.ne_nil_of_mem ru, m2, j2, d1, d2, g5, rfl, rfl⟩
    rw [List.length_append]
    show 2 * (120 - us.length) + tt.length < 2 * (120 - vs.length) + (ss'.length + 1)
    omega
theorem _root_.L2.SqL.keeps {K : PySem.W.Frag} {H H' : Hp} {a : Addr} {xs : List V} (h : SqL K H a xs) (g : Keeps H H') : SqL K H' a xs := by
  rcases h with (h | ⟨o, h⟩) | h
  · exact .inl (.inl (g _ _ (noT_at h fun _ e => nomatch e)))
  · exact .inl (.inr ⟨o, g _ _ (noT_at h fun _ e => nomatch e)⟩)
  · exact .inr h
def spLaw (K : PySem.W.Frag) : Sp := fun vs H Q _ => ∃ (a : Addr) (ns : List Int), vs = [.ref a] ∧ SqL K H a (ns.map V.int) ∧ ns.length ≤ 63 ∧ Tabs H ∧ ∀ H', Q (.bl true) H'
theorem ok_law (F : Fun K "law" "law" sLaw f fd) (c__law_large : Callee P w K mg base "_law_large" 3 ["_law_script", "_law_start", "_law_most"] (spLarge K)) (c__law_seen : Callee P w K mg base "_law_seen" 3 ["_law_script", "_law_start", "_law_rooms"] (spSeen K)) (c__law_cell_at : Callee P w K mg base "_law_cell_at" 1 ["_law_script", "_law_k"] (spCellAt K)) (c_least : Callee P w K mg base "least" 10 ["turns", "seen", "start"] (spLeast 87 (⟨53, 44, 53, 84⟩ : Pos)))
    (c_parting : Callee P w K mg base "parting" 10 ["turns", "seen", "one", "other"] (spParting 68 (⟨33, 46, 33, 94⟩ : Pos))) (c__law_links : Callee P w K mg base "_law_links" 1 ["_law_turns", "_law_small", "_law_start"] spLinks) (m_len : mg "len" = none) (m_sorted : mg "sorted" = none) (m_range : mg "range" = none) : FnOk P w K mg base CX0 12 f fd ["_law_script"] (spLaw K) := by
  refine F.ok scLaw (fun vs H Q E h => ?_) (fun cdv A outer s H vs Q E hr h => ?_)
  · obtain ⟨a, ns, rfl, _⟩ := h
    rfl
  obtain ⟨a, ns, rfl, hS, h63, hTs, q⟩ := h
  have hT1 : TabOk "least.<locals>.<lambda>" (⟨53, 44, 53, 84⟩ : Pos) H 87 := hTs ("least.<locals>.<lambda>", (⟨53, 44, 53, 84⟩ : Pos), 87) (by simp [tabsL])
  have hT2 : TabOk "parting.<locals>.<lambda>" (⟨33, 46, 33, 94⟩ : Pos) H 68 := hTs ("parting.<locals>.<lambda>", (⟨33, 46, 33, 94⟩ : Pos), 68) (by simp [tabsL])
  have hu := hr.units
  have hu1 := hu_of hr
  refine ⟨_, (qss_at (qss_cons (qs_of (ps_set (i := 1) scLaw.nd rfl (Or.inl rfl) (pe_callD c__law_large (hr.mono (by decide)) rfl (pl_at (pl_cons (pv 0) (pl_cons pe_int (pl_cons pe_int pl_nil rfl) rfl) rfl))))) (qss_cons (qs_of (ps_set (i := 2) scLaw.nd rfl (Or.inl rfl) (pe_callB call_len_seq rfl m_len boot_len (pa_cons (pe_ix ix_tup (pv 1) pe_int (fun _ _ => rfl)) pa_nil)))) (qss_cons (qs_of (ps_set (i := 3) scLaw.nd rfl (Or.inl rfl) (pe_callD c__law_seen (hr.mono (by decide)) rfl (pl_at (pl_cons (pv 0) (pl_cons pe_int (pl_cons (pv 2) pl_nil rfl) rfl) rfl))))) (qss_cons (qs_of (ps_set (i := 4) scLaw.nd rfl (Or.inl rfl) (pe_op op_mod (pe_callD c__law_cell_at (hr.mono (by decide)) rfl (pl_at (pl_cons (pv 0) (pl_cons pe_int pl_nil rfl) rfl))) (pv 2)))) (qss_cons (qs_of (ps_asg (pe_callD c_least (hr.mono (by decide)) rfl (pl_at (pl_cons (pv 1) (pl_cons (pv 3) (pl_cons (pv 4) pl_nil rfl) rfl) rfl))) (pg_tup rfl (pgs_cons (pg_name (i := 5) scLaw.nd rfl (Or.inl rfl)) (pgs_cons (pg_name (i := 6) scLaw.nd rfl (Or.inl rfl)) pgs_nil))))) (qss_cons (qs_of (ps_set (i := 7) scLaw.nd rfl (Or.inl rfl) (pe_callD c__law_links (hr.mono (by decide)) rfl (pl_at (pl_cons (pv 1) (pl_cons (pv 5) (pl_cons (pv 4) pl_nil rfl) rfl) rfl))))) (qss_cons (qs_of (ps_set (i := 8) scLaw.nd rfl (Or.inl rfl) (pe_callB (call_sortDI rfl) rfl m_sorted boot_sorted (pa_cons (pv 7) pa_nil)))) (qss_cons (qs_set (i := 9) scLaw.nd rfl (Or.inl rfl) (qe_op op_catS (qe_of (pe_slice sl_list (pv 0) (po_some pe_int) (po_some pe_int))) (qe_lst (ql_cons (qe_of pe_int) (ql_cons (qe_of pe_int) pl_nil rfl) rfl))) rfl (by first | exact .inl rfl | exact .inr rfl | assumption)) (qss_cons (qs_of (ps_for PassesOwn.never rfl (pi_step2 rfl m_range (pa_cons pe_int (pa_cons (pe_op op_sub (pe_callB call_len_seq rfl m_len boot_len (pa_cons (pv 9) pa_nil)) pe_int) (pa_cons pe_int pa_nil)))) (pg_name (i := 10) scLaw.nd rfl (Or.inl rfl)) (pss_cons (ps_set (i := 11) scLaw.nd rfl (Or.inl rfl) (pe_ix ix_list (pv 8) (pe_op op_mod (pe_ix ix_list (pv 9) (pv 10) (fun _ _ => rfl)) (pe_callB call_len_seq rfl m_len boot_len (pa_cons (pv 8) pa_nil))) (fun _ _ => rfl))) (pss_cons (ps_set (i := 12) scLaw.nd rfl (Or.inl rfl) (pe_ix ix_list (pv 8) (pe_op op_mod (pe_ix ix_list (pv 9) (pe_op op_add (pv 10) pe_int) (fun _ _ => rfl)) (pe_callB call_len_seq rfl m_len boot_len (pa_cons (pv 8) pa_nil))) (fun _ _ => rfl))) (pss_cons (ps_set (i := 13) scLaw.nd rfl (Or.inl rfl) (pe_callD c_parting (hr.mono (by decide)) rfl (pl_at (pl_cons (pv 1) (pl_cons (pv 3) (pl_cons (pv 11) (pl_cons (pv 12) pl_nil rfl) rfl) rfl) rfl)))) (pss_cons (ps_if (pt_cmpR op_ne (pe_cmpR op_isN (pv 13) pe_non (nomark _)) (pe_cmpR op_eq (pe_dget hu1 (pv 7) (pv 11) (fun _ _ => rfl)) (pe_dget hu1 (pv 7) (pv 12) (fun _ _ => rfl)) (nomark _)) (nomark _)) (pss_one (ps_ret pe_bl)) pss_nil) (pss_one (ps_if (pt_cmpR (op_neW hu) (pv 13) (pe_callD c_parting (hr.mono (by decide)) rfl (pl_at (pl_cons (pv 5) (pl_cons (pv 6) (pl_cons (pe_dget hu1 (pv 7) (pv 11) (fun _ _ => rfl)) (pl_cons (pe_dget hu1 (pv 7) (pv 12) (fun _ _ => rfl)) pl_nil rfl) rfl) rfl) rfl))) (nomark _)) (pss_one (ps_ret pe_bl)) pss_nil)))))))) (qss_one (qs_of (ps_ret pe_bl))))))))))))), ?_⟩
  refine ⟨_, rfl, a, ns, 1, 24, rfl, by decide, by decide, hS, by decide, fun m ts n H1 g1 M => ?_⟩
  have t1 := M.some1
  have few := M.few
  have n1 := M.n1
  have n60 := M.n60
  have np : (0 : Int) < (n : Int) := by omega
  obtain ⟨_, r0, b1, b2, b3, b4, b5, b6⟩ := M.at (l := 0) (by omega)
  refine ⟨_, rfl, m, _, _, _, rfl, rfl, SqT.of b1, b3, r0, _, rfl, .inr (SqT.of b4), ?_⟩
  have elen : V.int ((((ts.getD 0 []).map nv).length : Nat) : Int) = nv n := by rw [List.length_map, b5]
  rw [elen]
  refine ⟨_, rfl, _, rfl, a, ns, 6, n, rfl, g1.seq hS, by decide, n1, n60, fun se zs H2 g2 ese lz => ?_⟩
  have g12 := g1.trans g2
  refine ⟨_, rfl, a, ns, 0, rfl, by decide, g12.seq hS, fun c => ?_⟩
  obtain ⟨m1, hs⟩ := L2.mod_nv c n1
  refine ⟨_, rfl, _, _, rfl, rfl, np, ?_⟩
  try dsimp only
  rw [m1]
  generalize (c % (n : Int)).toNat = start at hs
  have M2 := M.same g2
  refine ⟨_, rfl, _, rfl, _, rfl, m, se, ts, n, zs, start, rfl, M2.mch, ese, lz, hs, hT1.same g12, fun p ws N H3 k3 o3 T3 TT Pn MA => ?_⟩
  have M3 := M2.keeps k3
  have ese3 := k3 _ _ (noT_at ese fun _ e => nomatch e)
  have hS3 := (g12.seq hS).keeps k3
  have T23 : TabOk "parting.<locals>.<lambda>" (⟨33, 46, 33, 94⟩ : Pos) H3 68 := by
    rcases hT2 with t | ⟨cc, t1, t2⟩
    · exact .inl (o3 _ _ (by decide) (g12 _ _ t))
    · exact .inr ⟨cc, o3 _ _ (by decide) (g12 _ _ t1), k3 _ _ (noT_at (g12 _ _ t2) fun _ e => nomatch e)⟩
  obtain ⟨ndr, ltr, clo, sin, fewr⟩ := told_rooms M.mch hs TT
  obtain ⟨sa, sb, sas, x1, x2, x3, x4, x5⟩ := MA
  refine ⟨p, _, rfl, SqT.of x1, rfl, _, _, rfl, _, _, rfl, rfl, ?_⟩
  refine ⟨_, rfl, _, rfl, _, rfl, m, sa, ts, n, _, start, ws, N, rfl, M3.mch, hs, TT, Pn, sas, x2, x3, x4, fun D us H4 g4 eD ndu inu neu => ?_⟩
  have lu : us.length < 64 := by
    have z : us.length ≤ (List.range n).length := List.Nodup.length_le_of_subset ndu fun x hx => List.mem_range.mpr (ltr x (inu x hx))
    rw [List.length_range] at z
    omega
  refine ⟨_, rfl, D, _, us.map (fun (x : Nat) => (x : Int)), rfl, eD, by unfold numsK; rw [List.map_map, List.map_map]; rfl, by rw [List.length_map]; exact lu, fun cm js ncm pj _ => ?_⟩
  have kcm := same_new ncm (.lst (js.map V.int))
  have ecm : upd H4 cm (.lst (js.map V.int)) cm = some (.lst (js.map V.int)) := upd_same
  have g5 := g4.trans kcm
  have eD5 := kcm _ _ eD
  generalize upd H4 cm (.lst (js.map V.int)) = H5 at ecm g5 eD5 ⊢
  have eN : ∀ {x : Nat} {H' : Hp}, x ∈ us → H' D = some (.dK (numsK us N)) → DGet H' D (nv x) (some (nv (N x))) := fun {x H'} h e => val_nums (N := N) h ▸ DGet.k (k := Sum.inl (x : Int)) e
  have ljs : js.length = us.length := by rw [pj.length_eq, List.length_map]
  have lu1 : 1 ≤ us.length := by cases us with | nil => exact absurd rfl neu | cons => exact Nat.succ_pos _
  have come : ∀ j, j < us.length → ∃ x, x ∈ us ∧ atI (js.map V.int) ((j : Nat) : Int) = some (nv x) := fun j hj => by
    have hj' : j < js.length := by omega
    obtain ⟨x, hx, e⟩ := List.mem_map.mp (pj.mem_iff.mp (List.getElem_mem hj'))
    refine ⟨x, hx, atI_nat ?_⟩
    rw [List.getElem?_map, List.getElem?_eq_getElem hj', ← e]
    rfl
  have M5 := M3.same g5
  have S5 : Big H5 sa (told ts N (rms ws)) (cls N (rms ws)) := (small_big Pn clo sin ndr ltr n60 t1 few x2 x3 x4).same g5
  have ese5 := g5 _ _ ese3
  have x55 := g5 _ _ x5
  have T25 := T23.same g5
  have hS5 := g5.seq hS3
  refine ⟨_, rfl, _, rfl, _, rfl, a, _, rfl, hS5, fun sl nsl => ?_⟩
  obtain ⟨cs, ecs⟩ : ∃ cs : List Int, cutV (ns.map V.int) (some 10) (some 26) = cs.map V.int := by
    unfold cutV
    exact ⟨_, by rw [← List.map_drop, ← List.map_take]⟩
  have lcs : cs.length ≤ 63 := by
    have z := cutV_length (ns.map V.int) (some 10) (some 26)
    rw [ecs, List.length_map, List.length_map] at z
    omega
  rw [ecs]
  have ksl := same_new nsl (.lst (cs.map V.int))
  have esl : upd H5 sl (.lst (cs.map V.int)) sl = some (.lst (cs.map V.int)) := upd_same
  generalize upd H5 sl (.lst (cs.map V.int)) = H6 at ksl esl ⊢
  refine ⟨by show 2 ≤ sizeLine; decide, fun s2 ns2 => ?_⟩
  have ks2 := same_new ns2 (.lst [V.int 0, V.int 1])
  have es2 : upd H6 s2 (.lst [V.int 0, V.int 1]) s2 = some (.lst [V.int 0, V.int 1]) := upd_same
  have esl' := ks2 _ _ esl
  generalize upd H6 s2 (.lst [V.int 0, V.int 1]) = H7 at ks2 es2 esl' ⊢
  refine ⟨sl, s2, _, _, rfl, rfl, SqL.of esl', SqL.of es2, by rw [List.length_map, sizeLine_eq]; show _ + 2 ≤ _; omega, fun cl ncl => ?_⟩
  have ec2 : cs.map V.int ++ [V.int 0, V.int 1] = (cs ++ [0, 1]).map V.int := by rw [List.map_append]; rfl
  rw [ec2]
  have lc2 : (cs ++ [0, 1]).length = cs.length + 2 := by rw [List.length_append]; rfl
  have kcl := same_new ncl (.lst ((cs ++ [0, 1]).map V.int))
  have ecl : upd H7 cl (.lst ((cs ++ [0, 1]).map V.int)) cl = some (.lst ((cs ++ [0, 1]).map V.int)) := upd_same
  generalize upd H7 cl (.lst ((cs ++ [0, 1]).map V.int)) = H8 at kcl ecl ⊢
  generalize cs ++ [0, 1] = cc at ecl lc2
  have k58 := (ksl.trans ks2).trans kcl
  have M8 := M5.same k58
  have S8 := S5.same k58
  have ese8 := k58 _ _ ese5
  have x58 := k58 _ _ x55
  have T28 := T25.same k58
  have ecm8 := k58 _ _ ecm
  have eD8 := k58 _ _ eD5
  let Pv : Nat → L2.St → Hp → Prop := fun i σ H' => ∃ o10 o11 o12 o13 : Option V, Keeps H8 H' ∧ TabOk "parting.<locals>.<lambda>" (⟨33, 46, 33, 94⟩ : Pos) H' 68 ∧ σ = [some (.ref a), some (.ref m), some (nv n), some (.ref se), some (nv start), some (.ref sa), some (.ref sb), some (.ref D), some (.ref cm), some (.ref cl), o10, o11, o12, o13]
  refine ⟨_, rfl, cl, _, rfl, .inl (SqL.of ecl), _, _, rfl, rfl, cs.length + 1, by rw [List.length_map, lc2]; congr 3; show V.int _ = V.int _; congr 1; omega, by omega, for_step2 Pv ⟨none, none, none, none, fun _ _ h => (of_noT h).1, T28, rfl⟩ (fun i σ H9 hi pp => ?_) (fun σ H9 pp => ?_)⟩
  · obtain ⟨o10, o11, o12, o13, k9, T29, rfl⟩ := pp
    have M9 := M8.keeps k9
    have S9 := S8.keeps k9
    have ese9 := k9 _ _ (noT_at ese8 fun _ e => nomatch e)
    have ecl9 := k9 _ _ (noT_at ecl fun _ e => nomatch e)
    have ecm9 := k9 _ _ (noT_at ecm8 fun _ e => nomatch e)
    have eD9 := k9 _ _ (noT_at eD8 fun _ e => nomatch e)
    have sb9 := k9 _ _ (noT_at x58 fun _ e => nomatch e)
    have atc : ∀ k : Nat, k < cc.length → ∃ c : Int, atI (cc.map V.int) (k : Int) = some (.int c) := fun k hk => ⟨cc[k], atI_nat (by rw [List.getElem?_map, List.getElem?_eq_getElem hk]; rfl)⟩
    obtain ⟨c1, ac1⟩ := atc (2 * i) (by omega)
    obtain ⟨c2, ac2⟩ := atc (2 * i + 1) (by omega)
    have ac1' : atI (cc.map V.int) (2 * (i : Int)) = some (.int c1) := by rw [← ac1]; congr 1
    have ac2' : atI (cc.map V.int) (2 * (i : Int) + 1) = some (.int c2) := by rw [← ac2]; rfl
    have ljv : (js.map V.int).length = us.length := by rw [List.length_map, ljs]
    have ulp : (0 : Int) < ((js.map V.int).length : Int) := by rw [ljv]; omega
    have pick : ∀ c : Int, ∃ x, x ∈ us ∧ atI (js.map V.int) (c % ((js.map V.int).length : Int)) = some (nv x) := fun c => by
      obtain ⟨z1, z2⟩ := L2.mod_nv c lu1
      obtain ⟨x, hx, ex⟩ := come _ z2
      refine ⟨x, hx, ?_⟩
      rw [← ex, ljv]
      injection z1 with z1
      exact congrArg _ z1
    obtain ⟨x, hx, ax⟩ := pick c1
    obtain ⟨y, hy, ay⟩ := pick c2
    have xr := inu x hx
    have yr := inu y hy
    refine ⟨_, rfl, _, rfl, _, rfl, cl, _, _, _, rfl, rfl, SqL.of ecl9, ac1', _, rfl, cm, _, rfl, .inl (SqL.of ecm9), _, _, rfl, rfl, ulp, cm, _, _, _, rfl, rfl, SqL.of ecm9, ax, ?_⟩
    refine ⟨_, rfl, _, rfl, _, rfl, _, _, rfl, rfl, cl, _, _, _, rfl, rfl, SqL.of ecl9, ac2', _, rfl, cm, _, rfl, .inl (SqL.of ecm9), _, _, rfl, rfl, ulp, cm, _, _, _, rfl, rfl, SqL.of ecm9, ay, ?_⟩
    refine ⟨_, rfl, _, rfl, _, rfl, _, rfl, m, se, ts, n, zs, x, y, rfl, M9, ese9, lz, ltr x xr, ltr y yr, T29, fun v ws2 H10 k10 T210 TT2 W2 => ?_⟩
    have eD10 := k10 _ _ (noT_at eD9 fun _ e => nomatch e)
    have S10 := S9.keeps k10
    have sb10 := k10 _ _ (noT_at sb9 fun _ e => nomatch e)
    have pn := part_iff Pn clo xr yr TT2
    refine ⟨_, rfl, rfl, _, rfl, _, rfl, D, _, rfl, eN hx eD10, _, rfl, _, rfl, D, _, rfl, eN hy eD10, rfl, rfl, _, rfl, ?_⟩
    have ev : (v = V.non) ↔ firstW zs ws2 = none := by
      cases e : firstW zs ws2 with
      | none => rw [e] at W2; exact ⟨fun _ => rfl, fun _ => W2⟩
      | some u =>
        rw [e] at W2
        obtain ⟨c, rfl, _⟩ := W2
        exact ⟨(fun z => by cases z), (fun z => by cases z)⟩
    have ed : decide (v = V.non) = decide (nv (N x) = nv (N y)) := by
      rw [Bool.eq_iff_iff, decide_eq_true_iff, decide_eq_true_iff, ev, pn]
      constructor
      · intro e
        rw [e]
      · intro e
        injection e with e
        omega
    have et : (!decide (V.bl (decide (v = V.non)) = V.bl (decide (nv (N x) = nv (N y))))) = false := by
      rw [ed]
      simp
    rw [et]
    refine iteF ?_
    refine ⟨_, rfl, _, rfl, _, rfl, _, rfl, _, rfl, D, _, rfl, eN hx eD10, _, rfl, _, rfl, D, _, rfl, eN hy eD10, sa, sb, _, _, _, N x, N y, rfl, S10, sb10, by rw [List.length_map, kept_len], N_lt Pn.toPt xr, N_lt Pn.toPt yr, T210, fun v2 ws3 H11 k11 T211 TT3 W3 => ?_⟩
    rw [part_same Pn clo xr yr TT2 TT3] at W3
    have kk : Keeps H8 H11 := fun b o h => k11 _ _ (noT_at (k10 _ _ (noT_at (k9 _ _ h) (of_noT h).2)) (of_noT h).2)
    cases e : firstW zs ws2 with
    | none =>
      rw [e] at W2 W3
      obtain rfl : v = .non := W2
      obtain rfl : v2 = .non := W3
      exact .inl ⟨rfl, _, rfl, iteF ⟨_, _, _, _, kk, T211, rfl⟩⟩
    | some u =>
      rw [e] at W2 W3
      obtain ⟨w1, rfl, ew1, _, _⟩ := W2
      obtain ⟨w2, rfl, ew2, _, _⟩ := W3
      have ew1' := k11 _ _ (noT_at ew1 fun _ e => nomatch e)
      refine .inr ⟨w1, w2, 0, _, _, rfl, rfl, repLn (SqL.of ew1'), repLn (SqL.of ew2), by decide, fun b hb => ⟨_, rfl, ?_⟩⟩
      rw [hb.mpr rfl]
      exact iteF ⟨_, _, _, _, kk, T211, rfl⟩
  · obtain ⟨o10, o11, o12, o13, k9, T29, rfl⟩ := pp
    exact q _
end
theorem ln2 {α : Type} {P : List α → Prop} (h : ∀ a0 a1, P [a0, a1]) : ∀ us : List α, us.length = 2 → P us
  | [a0, a1], _ => h a0 a1
theorem ln3 {α : Type} {P : List α → Prop} (h : ∀ a0 a1 a2, P [a0, a1, a2]) : ∀ us : List α, us.length = 3 → P us
  | [a0, a1, a2], _ => h a0 a1 a2
theorem ln4 {α : Type} {P : List α → Prop} (h : ∀ a0 a1 a2 a3, P [a0, a1, a2, a3]) : ∀ us : List α, us.length = 4 → P us
  | [a0, a1, a2, a3], _ => h a0 a1 a2 a3
set_option maxHeartbeats 0 in
theorem all_mk {l : PySem.W.OpenLaw} {w : World} {K : PySem.W.Frag} {h : Heap} {mg : Str → Option Value} {fa f1 f2 f3 f4 f5 f6 f7 f8 f9 f10 f11 f12 dD2 cL4 cL7 : Addr} (X : K.In h) (G : h.Ns mainGlobals mg) (hfa : mg "law" = some (.ref fa))
    {od1 an1 od2 an2 od3 an3 od4 an4 od5 an5 od6 an6 od7 an7 od8 an8 od9 an9 od10 an10 od11 an11 od12 an12 : Option Addr} {sl1 sl2 sl3 sl4 sl5 sl6 sl7 sl8 sl9 sl10 sl11 sl12 : Array (Option Value)} {oc1 kV1 dc1 pm1 cd1 ct1 oc2 kV2 dc2 pm2 cd2 ct2 oc3 kV3 dc3 pm3 cd3 ct3 oc4 kV4 dc4 pm4 ct4 oc5 kV5 dc5 pm5 cd5 ct5 oc6 kV6 dc6 pm6 cd6 ct6 oc7 kV7 dc7 pm7 ct7 oc8 kV8 dc8 pm8 cd8 ct8 oc9 kV9 dc9 pm9 cd9 ct9 oc10 kV10 dc10 pm10 cd10 ct10 oc11 kV11 dc11 pm11 cd11 ct11 oc12 kV12 dc12 pm12 cd12 ct12 : Value} {oD2 : Obj} {nD2 : Nat}
    (a1 : PySem.W.nsIn K mainGlobals "refuse_more" = some (some (.ref f1))) (l1 : K.lookup f1 = some ⟨oc1, od1, .func (PySem.W.fnOf "refuse_more" "refuse_more" (defArgs sRefuseMore) (defBody sRefuseMore) (defScope sRefuseMore) .none kV1 dc1 pm1 an1 cd1 ct1), sl1⟩) (c1 : PySem.W.codeIn K cd1 "refuse_more" = true) (k1 : PySem.W.keepIn K (.ref f1) = true)
    (a2 : PySem.W.nsIn K mainGlobals "reached" = some (some (.ref f2))) (l2 : K.lookup f2 = some ⟨oc2, od2, .func (PySem.W.fnOf "reached" "reached" (defArgs sReached) (defBody sReached) (defScope sReached) (.ref dD2) kV2 dc2 pm2 an2 cd2 ct2), sl2⟩) (c2 : PySem.W.codeIn K cd2 "reached" = true) (k2 : PySem.W.keepIn K (.ref f2) = true)
    (lD2 : K.lookup dD2 = some oD2) (qD2 : oD2.data = .seq ([.none] : List Value).toArray nD2)
    (a3 : PySem.W.nsIn K mainGlobals "behind" = some (some (.ref f3))) (l3 : K.lookup f3 = some ⟨oc3, od3, .func (PySem.W.fnOf "behind" "behind" (defArgs sBehind) (defBody sBehind) (defScope sBehind) .none kV3 dc3 pm3 an3 cd3 ct3), sl3⟩) (c3 : PySem.W.codeIn K cd3 "behind" = true) (k3 : PySem.W.keepIn K (.ref f3) = true)
    (a4 : PySem.W.nsIn K mainGlobals "parting" = some (some (.ref f4))) (l4 : K.lookup f4 = some ⟨oc4, od4, .func (PySem.W.fnOf "parting" "parting" (defArgs sParting) (defBody sParting) (defScope sParting) .none kV4 dc4 pm4 an4 (.ref cL4) ct4), sl4⟩) (c4 : PySem.W.codeIn K (.ref cL4) "parting" = true) (k4 : PySem.W.keepIn K (.ref f4) = true)
    (hd4 : PySem.W.codeHdIn K cL4 68 = true)
    (a5 : PySem.W.nsIn K mainGlobals "numbered" = some (some (.ref f5))) (l5 : K.lookup f5 = some ⟨oc5, od5, .func (PySem.W.fnOf "numbered" "numbered" (defArgs sNumbered) (defBody sNumbered) (defScope sNumbered) .none kV5 dc5 pm5 an5 cd5 ct5), sl5⟩) (c5 : PySem.W.codeIn K cd5 "numbered" = true) (k5 : PySem.W.keepIn K (.ref f5) = true)
    (a6 : PySem.W.nsIn K mainGlobals "parted_rooms" = some (some (.ref f6))) (l6 : K.lookup f6 = some ⟨oc6, od6, .func (PySem.W.fnOf "parted_rooms" "parted_rooms" (defArgs sPartedRooms) (defBody sPartedRooms) (defScope sPartedRooms) .none kV6 dc6 pm6 an6 cd6 ct6), sl6⟩) (c6 : PySem.W.codeIn K cd6 "parted_rooms" = true) (k6 : PySem.W.keepIn K (.ref f6) = true)
    (a7 : PySem.W.nsIn K mainGlobals "least" = some (some (.ref f7))) (l7 : K.lookup f7 = some ⟨oc7, od7, .func (PySem.W.fnOf "least" "least" (defArgs sLeast) (defBody sLeast) (defScope sLeast) .none kV7 dc7 pm7 an7 (.ref cL7) ct7), sl7⟩) (c7 : PySem.W.codeIn K (.ref cL7) "least" = true) (k7 : PySem.W.keepIn K (.ref f7) = true)
    (hd7 : PySem.W.codeHdIn K cL7 87 = true)
    (a8 : PySem.W.nsIn K mainGlobals "_law_cell_at" = some (some (.ref f8))) (l8 : K.lookup f8 = some ⟨oc8, od8, .func (PySem.W.fnOf "_law_cell_at" "_law_cell_at" (defArgs sLawCellAt) (defBody sLawCellAt) (defScope sLawCellAt) .none kV8 dc8 pm8 an8 cd8 ct8), sl8⟩) (c8 : PySem.W.codeIn K cd8 "_law_cell_at" = true) (k8 : PySem.W.keepIn K (.ref f8) = true)
    (a9 : PySem.W.nsIn K mainGlobals "_law_large" = some (some (.ref f9))) (l9 : K.lookup f9 = some ⟨oc9, od9, .func (PySem.W.fnOf "_law_large" "_law_large" (defArgs sLawLarge) (defBody sLawLarge) (defScope sLawLarge) .none kV9 dc9 pm9 an9 cd9 ct9), sl9⟩) (c9 : PySem.W.codeIn K cd9 "_law_large" = true) (k9 : PySem.W.keepIn K (.ref f9) = true)
    (a10 : PySem.W.nsIn K mainGlobals "_law_seen" = some (some (.ref f10))) (l10 : K.lookup f10 = some ⟨oc10, od10, .func (PySem.W.fnOf "_law_seen" "_law_seen" (defArgs sLawSeen) (defBody sLawSeen) (defScope sLawSeen) .none kV10 dc10 pm10 an10 cd10 ct10), sl10⟩) (c10 : PySem.W.codeIn K cd10 "_law_seen" = true) (k10 : PySem.W.keepIn K (.ref f10) = true)
    (a11 : PySem.W.nsIn K mainGlobals "_law_links" = some (some (.ref f11))) (l11 : K.lookup f11 = some ⟨oc11, od11, .func (PySem.W.fnOf "_law_links" "_law_links" (defArgs sLawLinks) (defBody sLawLinks) (defScope sLawLinks) .none kV11 dc11 pm11 an11 cd11 ct11), sl11⟩) (c11 : PySem.W.codeIn K cd11 "_law_links" = true) (k11 : PySem.W.keepIn K (.ref f11) = true)
    (a12 : PySem.W.nsIn K mainGlobals "law" = some (some (.ref f12))) (l12 : K.lookup f12 = some ⟨oc12, od12, .func (PySem.W.fnOf "law" "law" (defArgs sLaw) (defBody sLaw) (defScope sLaw) .none kV12 dc12 pm12 an12 cd12 ct12), sl12⟩) (c12 : PySem.W.codeIn K cd12 "law" = true) (k12 : PySem.W.keepIn K (.ref f12) = true)
    (z_len : PySem.W.nsIn K mainGlobals "len" = some none) (z_tuple : PySem.W.nsIn K mainGlobals "tuple" = some none) (z_range : PySem.W.nsIn K mainGlobals "range" = some none) (z_zip : PySem.W.nsIn K mainGlobals "zip" = some none) (z_list : PySem.W.nsIn K mainGlobals "list" = some none) (z_min : PySem.W.nsIn K mainGlobals "min" = some none) (z_int : PySem.W.nsIn K mainGlobals "int" = some none) (z_sorted : PySem.W.nsIn K mainGlobals "sorted" = some none) :
    ∃ fd : FuncData, (∀ (s : Shared) (v : Value), BindsTo s fd ⟨[v], []⟩ [("_law_script", v)]) ∧ ∀ base : Heap, K.In base → base.Ns mainGlobals mg → BMain mg base → FnOk l.prog w K mg base CX0 12 fa fd ["_law_script"] (spLaw K) := by
  have e := hfa.symm.trans (PySem.W.mg_of X G a12)
  cases e
  have F1 := fun_mk (st := sRefuseMore) l1 c1 k1
  have F2 : DefAt K "reached" sReached f2 (PySem.W.fnOf "reached" "reached" (defArgs sReached) (defBody sReached) (defScope sReached) (.ref dD2) kV2 dc2 pm2 an2 cd2 ct2) (.ref dD2) cd2 := ⟨c2, ⟨_, _, _, _, _, rfl⟩, _, _, _, l2⟩
  have F3 := fun_mk (st := sBehind) l3 c3 k3
  have F4 : DefAt K "parting" sParting f4 (PySem.W.fnOf "parting" "parting" (defArgs sParting) (defBody sParting) (defScope sParting) .none kV4 dc4 pm4 an4 (.ref cL4) ct4) .none (.ref cL4) := ⟨c4, ⟨_, _, _, _, _, rfl⟩, _, _, _, l4⟩
  have F5 := fun_mk (st := sNumbered) l5 c5 k5
  have F6 := fun_mk (st := sPartedRooms) l6 c6 k6
  have F7 : DefAt K "least" sLeast f7 (PySem.W.fnOf "least" "least" (defArgs sLeast) (defBody sLeast) (defScope sLeast) .none kV7 dc7 pm7 an7 (.ref cL7) ct7) .none (.ref cL7) := ⟨c7, ⟨_, _, _, _, _, rfl⟩, _, _, _, l7⟩
  have F8 := fun_mk (st := sLawCellAt) l8 c8 k8
  have F9 := fun_mk (st := sLawLarge) l9 c9 k9
  have F10 := fun_mk (st := sLawSeen) l10 c10 k10
  have F11 := fun_mk (st := sLawLinks) l11 c11 k11
  have F12 := fun_mk (st := sLaw) l12 c12 k12
  have m_len := PySem.W.mg_none_of X G z_len
  have m_tuple := PySem.W.mg_none_of X G z_tuple
  have m_range := PySem.W.mg_none_of X G z_range
  have m_zip := PySem.W.mg_none_of X G z_zip
  have m_list := PySem.W.mg_none_of X G z_list
  have m_min := PySem.W.mg_none_of X G z_min
  have m_int := PySem.W.mg_none_of X G z_int
  have m_sorted := PySem.W.mg_none_of X G z_sorted
  refine ⟨PySem.W.fnOf "law" "law" (defArgs sLaw) (defBody sLaw) (defScope sLaw) .none kV12 dc12 pm12 an12 cd12 ct12, fun s v => .of_eq rfl, fun base KB _ hbm => ?_⟩
  have hC_parting := PySem.W.codeHd_of_K KB hd4
  have hC_least := PySem.W.codeHd_of_K KB hd7
  have c__law_cell_at : Callee l.prog w K mg base "_law_cell_at" _ _ _ := ⟨_, _, ok_cell_at (P := l.prog) (w := w) (base := base) F8 m_len, PySem.W.mg_of X G a8, k8, F8.binds (ps := ["_law_script", "_law_k"]) fun _ _ _ _ _ _ => ln2 (fun _ _ => rfl)⟩
  have c_behind : Callee l.prog w K mg base "behind" _ _ _ := ⟨_, _, ok_behind (P := l.prog) (w := w) (base := base) F3 m_tuple, PySem.W.mg_of X G a3, k3, F3.binds (ps := ["one", "other"]) fun _ _ _ _ _ _ => ln2 (fun _ _ => rfl)⟩
  have c_refuse_more : Callee l.prog w K mg base "refuse_more" _ _ _ := ⟨_, _, ok_refuse_more (P := l.prog) (w := w) (base := base) F1 m_len, PySem.W.mg_of X G a1, k1, F1.binds (ps := ["things", "most"]) fun _ _ _ _ _ _ => ln2 (fun _ _ => rfl)⟩
  have c_reached : CalleeD l.prog w K mg base "reached" _ _ _ [.non] := ⟨_, _, [.none], ok_reached (P := l.prog) (w := w) (base := base) F2 c_refuse_more m_range, PySem.W.mg_of X G a2, k2, (fun s us KX hl => by have hl3 : us.length = 3 := (by simpa using hl); clear hl; revert us; exact ln3 (fun _ _ _ => BindsTo.of_defaults rfl (KX _ _ lD2) qD2 rfl rfl)), .cons rfl .nil⟩
  have c_numbered : Callee l.prog w K mg base "numbered" _ _ _ := ⟨_, _, ok_numbered (P := l.prog) (w := w) (base := base) F5 m_zip m_len, PySem.W.mg_of X G a5, k5, F5.binds (ps := ["rooms", "marks"]) fun _ _ _ _ _ _ => ln2 (fun _ _ => rfl)⟩
  have c_parted_rooms : Callee l.prog w K mg base "parted_rooms" _ _ _ := ⟨_, _, ok_parted_rooms (P := l.prog) (w := w) (base := base) F6 c_numbered m_tuple, PySem.W.mg_of X G a6, k6, F6.binds (ps := ["turns", "seen", "rooms"]) fun _ _ _ _ _ _ => ln3 (fun _ _ _ => rfl)⟩
  have c_parting : Callee l.prog w K mg base "parting" _ _ _ := ⟨_, _, ok_parting (P := l.prog) (w := w) (base := base) F4 hC_parting hbm c_behind c_reached.l m_len, PySem.W.mg_of X G a4, k4, .all (ln4 (fun _ _ _ _ => rfl))⟩
  have c_least : Callee l.prog w K mg base "least" _ _ _ := ⟨_, _, ok_least (P := l.prog) (w := w) (base := base) F7 hC_least hbm c_reached.r c_parted_rooms m_len m_list m_tuple, PySem.W.mg_of X G a7, k7, .all (ln3 (fun _ _ _ => rfl))⟩
  have c__law_large : Callee l.prog w K mg base "_law_large" _ _ _ := ⟨_, _, ok_large (P := l.prog) (w := w) (base := base) F9 c__law_cell_at m_range m_tuple m_min, PySem.W.mg_of X G a9, k9, F9.binds (ps := ["_law_script", "_law_start", "_law_most"]) fun _ _ _ _ _ _ => ln3 (fun _ _ _ => rfl)⟩
  have c__law_seen : Callee l.prog w K mg base "_law_seen" _ _ _ := ⟨_, _, ok_seen (P := l.prog) (w := w) (base := base) F10 c__law_cell_at m_range m_tuple m_int, PySem.W.mg_of X G a10, k10, F10.binds (ps := ["_law_script", "_law_start", "_law_rooms"]) fun _ _ _ _ _ _ => ln3 (fun _ _ _ => rfl)⟩
  have c__law_links : Callee l.prog w K mg base "_law_links" _ _ _ := ⟨_, _, ok_links (P := l.prog) (w := w) (base := base) F11 m_zip, PySem.W.mg_of X G a11, k11, F11.binds (ps := ["_law_turns", "_law_small", "_law_start"]) fun _ _ _ _ _ _ => ln3 (fun _ _ _ => rfl)⟩
  exact ok_law (P := l.prog) (w := w) (base := base) F12 c__law_large c__law_seen c__law_cell_at c_least c_parting c__law_links m_len m_sorted m_range
def tabsW : List (Str × Addr) := [("parting", 68), ("least", 87)]
theorem walk {l : PySem.W.OpenLaw} {q : Program} {loose : List Str} {XP : (Str → Option Value) → Heap → Prop} {YP : World → Heap → Prop} {d : DefRec} {K : Params → PySem.W.Frag} (hn : l.most = some 63) (hdf : d.params.defaults = [])
    (hY : ∀ (w : World) (h : Heap), YP w h → (K w.params).In h) (hT : ∀ w : World, ∀ t ∈ tabsW, (K w.params).lookup t.2 = none ∧ (∃ c, PySem.W.tabIn (K w.params) t.1 = some (c, t.2)) ∧ ∃ e, (recsOf q).find? (fun r => r.name == t.1) = some e)
    (F : ∀ (w : World) (mg : Str → Option Value) (fa : Addr) (h : Heap), (K w.params).In h → h.Ns mainGlobals mg → mg d.name = some (.ref fa) →
      ∃ fd : FuncData, (∀ (s : Shared) (u : Value), BindsTo s fd ⟨[u], []⟩ [("_law_script", u)]) ∧ ∀ base : Heap, (K w.params).In base → base.Ns mainGlobals mg → BMain mg base → FnOk l.prog w (K w.params) mg base CX0 12 fa fd ["_law_script"] (spLaw (K w.params))) :
    PySem.W.WalkO q loose XP YP l.row.toRowW d [] (fun f vs => PySem.call f vs) :=
  L2.walk_ofT (n := 63) (k := 12) (x := "_law_script") (tabs := tabsW) (sp := fun w => spLaw (K w.params)) hn (by decide) hdf ⟨rfl, by decide, by decide⟩ hY hT F fun w H a ns hl ht hS => ⟨a, ns, rfl, hS, hl, (fun q hq => by
    have z : q.2.2 ∈ tabsW.map (·.2) := (show tabsL.map (·.2.2) = tabsW.map (·.2) from rfl) ▸ List.mem_map_of_mem hq
    obtain ⟨t, ht2, e⟩ := List.mem_map.mp z
    rw [← e]
    exact .inl (ht t ht2)), fun _ => rfl⟩
end My
open PySem PySem.W PyProof.Rows
set_option maxRecDepth 100000 in
set_option maxHeartbeats 0 in
theorem PySem.Challenge.cw_cascade_k75_parted_or_one_room_holds : PySem.Challenge.rw_cascade_k75_parted_or_one_room.Holds := by
  w_on; o_law; k_head; (case hw => w_witness2)
  k_fill
  refine' My.walk (l := PySem.Challenge.rw_cascade_k75_parted_or_one_room) rfl rfl (fun w h Y => PySem.W.km_in_of Y) ?hT ?F
  case hT =>
    intro w t ht
    simp only [My.tabsW, List.mem_cons, List.not_mem_nil, or_false] at ht
    rcases ht with rfl | rfl
    · exact ⟨by kernel_rfl, ⟨72, by kernel_rfl⟩, _, rfl⟩
    · exact ⟨by kernel_rfl, ⟨89, by kernel_rfl⟩, _, rfl⟩
  case F =>
    intro w mg fa h KX G hmg
    refine' My.all_mk KX G hmg ?a1 ?l1 ?c1 ?k1 ?a2 ?l2 ?c2 ?k2 ?lD2 ?qD2 ?a3 ?l3 ?c3 ?k3 ?a4 ?l4 ?c4 ?k4 ?hd4 ?a5 ?l5 ?c5 ?k5 ?a6 ?l6 ?c6 ?k6 ?a7 ?l7 ?c7 ?k7 ?hd7 ?a8 ?l8 ?c8 ?k8 ?a9 ?l9 ?c9 ?k9 ?a10 ?l10 ?c10 ?k10 ?a11 ?l11 ?c11 ?k11 ?a12 ?l12 ?c12 ?k12   ?z0 ?z1 ?z2 ?z3 ?z4 ?z5 ?z6 ?z7
    (case a1 => k_is); (case l1 => k_is); (case c1 => k_is); (case k1 => k_is)
    (case a2 => k_is); (case l2 => k_is); (case c2 => k_is); (case k2 => k_is)
    (case lD2 => k_is); (case qD2 => rfl)
    (case a3 => k_is); (case l3 => k_is); (case c3 => k_is); (case k3 => k_is)
    (case a4 => k_is); (case l4 => k_is); (case c4 => k_is); (case k4 => k_is)
    (case hd4 => kernel_rfl)
    (case a5 => k_is); (case l5 => k_is); (case c5 => k_is); (case k5 => k_is)
    (case a6 => k_is); (case l6 => k_is); (case c6 => k_is); (case k6 => k_is)
    (case a7 => k_is); (case l7 => k_is); (case c7 => k_is); (case k7 => k_is)
    (case hd7 => kernel_rfl)
    (case a8 => k_is); (case l8 => k_is); (case c8 => k_is); (case k8 => k_is)
    (case a9 => k_is); (case l9 => k_is); (case c9 => k_is); (case k9 => k_is)
    (case a10 => k_is); (case l10 => k_is); (case c10 => k_is); (case k10 => k_is)
    (case a11 => k_is); (case l11 => k_is); (case c11 => k_is); (case k11 => k_is)
    (case a12 => k_is); (case l12 => k_is); (case c12 => k_is); (case k12 => k_is)
    (case z0 => k_is)
    (case z1 => k_is)
    (case z2 => k_is)
    (case z3 => k_is)
    (case z4 => k_is)
    (case z5 => k_is)
    (case z6 => k_is)
    (case z7 => k_is)
