import PyProof.Rows.All
import Wide.All
import OpenK.AllK
import Wide.FinOn
import Lean
import PyProof.EqAt
import PyProof.EqKinds
import PyProof.TupleCall
import PyProof.NeKinds
import PySem.Challenge.RW_cascade_k24_whole_groups_are_groups
set_option Elab.async false
set_option linter.all false
set_option maxRecDepth 100000
namespace L2
open PySem PySem.Spec PyProof.Rows
abbrev Key := Sum Int Str
def keyIs : Key → Value → Bool
  | .inl k, v => Value.isInt k v
  | .inr x, v => Value.isStrOf x v
def keyH (w : World) : Key → Int
  | .inl k => hashInt k
  | .inr x => hashStr w x
theorem keyIs_shape : ∀ {k : Key} {v : Value}, keyIs k v = true → (∃ i t, k = Sum.inl i ∧ v = Value.int i t) ∨ (∃ x t, k = Sum.inr x ∧ v = Value.str x t)
  | .inl i, v, h => by
    obtain ⟨t, e⟩ := Value.isInt_shape (k := i) (v := v) h
    exact .inl ⟨i, t, rfl, e⟩
  | .inr x, v, h => by
    obtain ⟨t, e⟩ := Value.isStrOf_shape (x := x) (v := v) h
    exact .inr ⟨x, t, rfl, e⟩
theorem keyIs_int (i : Int) (t : Tok) : keyIs (.inl i) (.int i t) = true := by simp [keyIs, Value.isInt]
theorem keyIs_str (x : Str) (t : Tok) : keyIs (.inr x) (.str x t) = true := by simp [keyIs, Value.isStrOf]
theorem key_ll (a b : Int) : decide ((Sum.inl a : Key) = Sum.inl b) = (a == b) := by
  by_cases e : a = b
  · subst e; simp
  · have h : ¬ (Sum.inl a : Key) = Sum.inl b := fun q => e (Sum.inl.inj q)
    rw [decide_eq_false h]
    exact (beq_eq_false_iff_ne.mpr e).symm
theorem key_rr (a b : Str) : decide ((Sum.inr a : Key) = Sum.inr b) = decide (a = b) := by
  by_cases e : a = b
  · subst e; simp
  · have h : ¬ (Sum.inr a : Key) = Sum.inr b := fun q => e (Sum.inr.inj q)
    rw [decide_eq_false h, decide_eq_false e]
theorem key_lr (a : Int) (b : Str) : decide ((Sum.inl a : Key) = Sum.inr b) = false := decide_eq_false (fun q => nomatch q)
theorem key_rl (a : Str) (b : Int) : decide ((Sum.inr a : Key) = Sum.inl b) = false := decide_eq_false (fun q => nomatch q)
def mixKind (prog : Program) (w : World) : PySem.KeyKind prog w Key where
  is := keyIs
  hash := keyH w
  inj := fun v a b ha hb => by
    rcases keyIs_shape ha with ⟨i, t, rfl, rfl⟩ | ⟨x, t, rfl, rfl⟩
    · rcases keyIs_shape hb with ⟨j, u, rfl, e⟩ | ⟨y, u, rfl, e⟩
      · injection e with e1 _; rw [e1]
      · exact nomatch e
    · rcases keyIs_shape hb with ⟨j, u, rfl, e⟩ | ⟨y, u, rfl, e⟩
      · exact nomatch e
      · injection e with e1 _; rw [e1]
  byValue := fun k v h => by
    rcases keyIs_shape h with ⟨i, t, rfl, rfl⟩ | ⟨x, t, rfl, rfl⟩ <;> rfl
  pyHash := fun hv h => by
    rcases keyIs_shape hv with ⟨i, t, rfl, rfl⟩ | ⟨x, t, rfl, rfl⟩
    · exact wpAny_pyHash_int h
    · exact wpAny_pyHash_str h
  eqBool := fun hu hv h => by
    rcases keyIs_shape hu with ⟨i, t, rfl, rfl⟩ | ⟨x, t, rfl, rfl⟩
    · rcases keyIs_shape hv with ⟨j, u, rfl, rfl⟩ | ⟨y, u, rfl, rfl⟩
      · rw [key_ll] at h; exact wpAny_eqBool_int h
      · rw [key_lr] at h; exact SeqAt.EqAt.int_str i t y u _ _ _ _ h
    · rcases keyIs_shape hv with ⟨j, u, rfl, rfl⟩ | ⟨y, u, rfl, rfl⟩
      · rw [key_rl] at h; exact SeqAt.EqAt.str_int x t j u _ _ _ _ h
      · rw [key_rr] at h; exact wpAny_eqBool_str h
  «strs» := fun k x t v h => by
    rcases keyIs_shape h with ⟨i, u, rfl, e⟩ | ⟨y, u, rfl, e⟩
    · exact nomatch e
    · injection e with e1 _
      subst e1
      cases v <;> rfl
theorem mixKind_int (prog : Program) (w : World) (i : Int) (t : Tok) : (mixKind prog w).is (.inl i) (.int i t) = true := keyIs_int i t
theorem mixKind_str (prog : Program) (w : World) (x : Str) (t : Tok) : (mixKind prog w).is (.inr x) (.str x t) = true := keyIs_str x t
end L2
namespace L2
open PySem PySem.Spec PyProof.Rows
inductive V where
  | non | bl (b : Bool) | int (i : Int) | str (x : Str) | byt (b : Array UInt8) | flt (b : UInt64) | ref (a : Addr) | ty (n : String)
  deriving DecidableEq
def RelV : V → Value → Prop
  | .non, u => u = Value.none
  | .bl b, u => u = Value.bool b
  | .int i, u => ∃ t, u = Value.int i t
  | .str x, u => ∃ t, u = Value.str x t
  | .byt b, u => ∃ t, u = Value.bytes b t
  | .flt b, u => ∃ t, u = Value.float b t
  | .ref a, u => u = Value.ref a
  | .ty n, u => u = Value.type n
abbrev Vals : List V → List Value → Prop := Paired RelV
theorem Vals.length {xs : List V} {us : List Value} (r : Vals xs us) : xs.length = us.length := Paired.length r
theorem Vals.get : ∀ {xs : List V} {us : List Value} {i : Nat} {x : V}, Vals xs us → xs[i]? = some x → ∃ u, us[i]? = some u ∧ RelV x u
  | _, _, _, _, .nil, e => by simp at e
  | _, _, 0, _, .cons r _, e => by simp at e; subst e; exact ⟨_, rfl, r⟩
  | _, _, i + 1, x, .cons _ t, e => by
    obtain ⟨u, h1, h2⟩ := Vals.get (i := i) (x := x) t (by simpa using e)
    exact ⟨u, by simpa using h1, h2⟩
theorem Vals.set {x : V} {u : Value} (r : RelV x u) : ∀ {xs : List V} {us : List Value} (i : Nat), Vals xs us → Vals (xs.set i x) (us.set i u)
  | _, _, _, .nil => .nil
  | _, _, 0, .cons _ t => .cons r t
  | _, _, i + 1, .cons q t => .cons q (Vals.set r i t)
theorem Vals.append : ∀ {xs ys : List V} {us ws : List Value}, Vals xs us → Vals ys ws → Vals (xs ++ ys) (us ++ ws)
  | _, _, _, _, .nil, s => s
  | _, _, _, _, .cons r t, s => .cons r (Vals.append t s)
theorem Vals.take : ∀ {xs : List V} {us : List Value} (n : Nat), Vals xs us → Vals (xs.take n) (us.take n)
  | _, _, 0, _ => .nil
  | _, _, _ + 1, .nil => .nil
  | _, _, n + 1, .cons r t => .cons r (Vals.take n t)
theorem Vals.drop : ∀ {xs : List V} {us : List Value} (n : Nat), Vals xs us → Vals (xs.drop n) (us.drop n)
  | _, _, 0, r => r
  | _, _, _ + 1, .nil => .nil
  | _, _, n + 1, .cons _ t => Vals.drop n t
theorem Vals.none_of : ∀ {xs : List V} {us : List Value} {i : Nat}, Vals xs us → xs[i]? = none → us[i]? = none := fun {xs us i} r e => by
  have h1 := r.length
  have h2 : xs.length ≤ i := List.getElem?_eq_none_iff.mp e
  exact List.getElem?_eq_none_iff.mpr (by omega)
def RelO : Option V → Option Value → Prop
  | some v, some u => RelV v u
  | none, none => True
  | _, _ => False
def KV {κ : Type} : List (κ × V) → List (κ × Value) → Prop := Paired fun (p : κ × V) (q : κ × Value) => p.1 = q.1 ∧ RelV p.2 q.2
def kV : Key → V
  | .inl i => .int i
  | .inr x => .str x
inductive HO where
  | lst (xs : List V)
  | tup (xs : List V)
  | dK (kvs : List (Key × V)) | dT (kvs : List (List Key × V))
  | set (S : Int → Bool) (n : Nat)
  | ins (C dx : Addr) (fs : List (Str × V))
  | own (x : Addr)
  | xd (fs : List (Str × V))
  | met (f x : Addr)
  | rng (lo hi : Int)
  | frz (o : Obj) (u : HO)
  | tbl (ps : Array Value)
  | ext (φ : Heap → Prop)
abbrev Hp := Addr → Option HO
def upd (H : Hp) (a : Addr) (o : HO) : Hp := fun b => if b = a then some o else H b
theorem upd_same {H : Hp} {a : Addr} {o : HO} : upd H a o a = some o := by unfold upd; rw [if_pos rfl]
theorem upd_ne {H : Hp} {a b : Addr} {o : HO} (h : b ≠ a) : upd H a o b = H b := by unfold upd; rw [if_neg h]
theorem upd_upd {H : Hp} {a : Addr} {o u : HO} : upd (upd H a o) a u = upd H a u := by
  funext b; unfold upd; split <;> rfl
theorem ne_of {H : Hp} {a b : Addr} {o u : HO} (h : H a = some o) (h' : H b = some u) (d : o ≠ u) : a ≠ b := by
  intro e; subst e; rw [h] at h'; exact d (Option.some.inj h')
theorem ne_of_none {H : Hp} {a b : Addr} {o : HO} (h : H a = some o) (h' : H b = none) : a ≠ b := by
  intro e; subst e; rw [h] at h'; cases h'
section
variable (P : Program) (w : World)
def ObjOk (H : Hp) (h : Heap) (a : Addr) : HO → Prop
  | .lst xs => xs.length ≤ sizeLine ∧ ∃ (its : List Value) (n : Nat), Vals xs its ∧ h.get? a = some { cls := .type "list", data := .seq its.toArray n }
  | .tup xs => xs.length ≤ sizeLine ∧ ∃ its : List Value, Vals xs its ∧ IsTup h a its.toArray
  | .dK kvs => kvs.length ≤ sizeLine ∧ (a == sysModules) = false ∧ ∃ vs, KV kvs vs ∧ h.DictOf (mixKind P w) a vs
  | .dT kvs => kvs.length ≤ sizeLine ∧ (a == sysModules) = false ∧ ∃ xs : List (List Key × Addr × Value),
      Paired (fun (p : List Key × V) (q : List Key × Addr × Value) => p.1 = q.1 ∧ H q.2.1 = some (.tup (p.1.map kV)) ∧ RelV p.2 q.2.2) kvs xs ∧
      ∃ o es ep, h.get? a = some o ∧ o.ExactDict ∧ o.data = .dict es ep ∧ es.toList = xs.map (entryOfKey (tupleKind (mixKind P w))) ∧ (xs.map (·.1)).Nodup
  | .set S n => h.SetOf (intKind P w) a S n
  | .ins C dx fs => H dx = some (.own a) ∧ fs.length ≤ 1000 ∧ dx ≠ a ∧ h.get? a = some (PySem.W.instObj C dx) ∧
      ∃ mA, h.Ns1 dx mA ∧ (∀ f, RelO (fs.lookup f) (mA f)) ∧ PySem.Within mA (fs.map (·.1))
  | .own _ => ∃ o, h.get? a = some o
  | .xd fs => ∃ mA, h.Ns1 a mA ∧ ∀ f, RelO (fs.lookup f) (mA f)
  | .rng lo hi => ∃ t u v, h.get? a = some { cls := .type "range", data := .fields #[.int lo t, .int hi u, .int 1 v] }
  | .frz o u => h.get? a = some o ∧ ObjOk H h a u
  | .tbl ps => h.get? a = some { cls := .none, data := .fields ps }
  | .met f x => h.get? a = some (PySem.W.methodObj (.ref f) (.ref x))
  | .ext φ => φ h ∧ (∃ o, h.get? a = some o) ∧ ∀ h1 h2 : Heap, φ h1 → (∀ o, h1.get? a = some o → h2.get? a = some o) → φ h2
def HOk (H : Hp) (h : Heap) : Prop := ∀ a o, H a = some o → ObjOk P w H h a o
end
section
variable {P : Program} {w : World} {H H' : Hp} {h h' : Heap} {a : Addr} {o : HO}
theorem ObjOk.lt (x : ObjOk P w H h a o) : a < h.objs.size := by
  cases o with
  | lst xs => obtain ⟨_, _, _, _, e⟩ := x; exact Heap.lt_size e
  | tup xs => obtain ⟨_, _, _, p⟩ := x; exact p.lt
  | dK kvs => obtain ⟨_, _, _, _, o, _, _, e, _⟩ := x; exact Heap.lt_size e
  | dT kvs => obtain ⟨_, _, _, _, o, _, _, e, _⟩ := x; exact Heap.lt_size e
  | set S n => obtain ⟨o, _, _, _, e, _⟩ := x; exact Heap.lt_size e
  | ins C dx fs => obtain ⟨_, _, _, e, _⟩ := x; exact Heap.lt_size e
  | own y => obtain ⟨_, e⟩ := x; exact Heap.lt_size e
  | xd fs => obtain ⟨_, ⟨_, _, _, e, _⟩, _⟩ := x; exact Heap.lt_size e
  | rng lo hi => obtain ⟨_, _, _, e⟩ := x; exact Heap.lt_size e
  | frz ob u => obtain ⟨e, _⟩ := x; exact Heap.lt_size e
  | tbl ps => exact Heap.lt_size (show h.get? a = some _ from x)
  | met f y => exact Heap.lt_size (show h.get? a = some _ from x)
  | ext φ => obtain ⟨_, ⟨_, e⟩, _⟩ := x; exact Heap.lt_size e
theorem Paired.mapP {α β : Type} {F G : α → β → Prop} : ∀ {l₁ : List α} {l₂ : List β}, Paired F l₁ l₂ → (∀ a b, F a b → G a b) → Paired G l₁ l₂
  | _, _, .nil, _ => .nil
  | _, _, .cons r t, f => .cons (f _ _ r) (Paired.mapP t f)
theorem ObjOk.stay (x : ObjOk P w H h a o) (k : ∀ b u, (b = a ∨ H b = some (.own a)) → h.get? b = some u → h'.get? b = some u)
    (ho : ∀ b, H b = some (.own a) → H' b = some (.own a)) (ht : ∀ b xs, H b = some (.tup xs) → H' b = some (.tup xs)) : ObjOk P w H' h' a o := by
  induction o with
  | lst xs => obtain ⟨z, its, n, r, e⟩ := x; exact ⟨z, its, n, r, k _ _ (.inl rfl) e⟩
  | tup xs => obtain ⟨z, its, r, ob, e, c⟩ := x; exact ⟨z, its, r, ob, k _ _ (.inl rfl) e, c⟩
  | dK kvs => obtain ⟨z, y, vs, r, ob, es, ep, e, c⟩ := x; exact ⟨z, y, vs, r, ob, es, ep, k _ _ (.inl rfl) e, c⟩
  | dT kvs =>
    obtain ⟨z, y, xs, r, ob, es, ep, e, c⟩ := x
    exact ⟨z, y, xs, Paired.mapP r fun p q z => ⟨z.1, ht _ _ z.2.1, z.2.2⟩, ob, es, ep, k _ _ (.inl rfl) e, c⟩
  | set S n => obtain ⟨ob, es, ep, t, e, c⟩ := x; exact ⟨ob, es, ep, t, k _ _ (.inl rfl) e, c⟩
  | ins C dx fs =>
    obtain ⟨d, z, ne, e, mA, ⟨od, es, ep, e2, c⟩, r⟩ := x
    exact ⟨ho _ d, z, ne, k _ _ (.inl rfl) e, mA, ⟨od, es, ep, k _ _ (.inr d) e2, c⟩, r⟩
  | own y => obtain ⟨ob, e⟩ := x; exact ⟨ob, k _ _ (.inl rfl) e⟩
  | xd fs => obtain ⟨mA, ⟨od, es, ep, e, c⟩, r⟩ := x; exact ⟨mA, ⟨od, es, ep, k _ _ (.inl rfl) e, c⟩, r⟩
  | rng lo hi => obtain ⟨t, u, v, e⟩ := x; exact ⟨t, u, v, k _ _ (.inl rfl) e⟩
  | frz ob u ih => obtain ⟨e, q⟩ := x; exact ⟨k _ _ (.inl rfl) e, ih q⟩
  | tbl ps =>
    have e : h.get? a = some { cls := .none, data := .fields ps } := x
    show h'.get? a = some { cls := .none, data := .fields ps }
    exact k a _ (.inl rfl) e
  | met f y =>
    have e : h.get? a = some (PySem.W.methodObj (.ref f) (.ref y)) := x
    show h'.get? a = some (PySem.W.methodObj (.ref f) (.ref y))
    exact k a _ (.inl rfl) e
  | ext φ => obtain ⟨p, ⟨o, e⟩, st⟩ := x; exact ⟨st _ _ p fun o q => k _ _ (.inl rfl) q, ⟨o, k _ _ (.inl rfl) e⟩, st⟩
theorem HOk.lt (x : HOk P w H h) (e : H a = some o) : a < h.objs.size := (x a o e).lt
theorem HOk.fresh (x : HOk P w H h) (e : h.objs.size ≤ a) : H a = none := by
  cases q : H a with
  | none => rfl
  | some u => exact absurd (Nat.lt_of_lt_of_le (x.lt q) e) (Nat.lt_irrefl _)
theorem HOk.kept (x : HOk P w H h) (k : ∀ b u, h.get? b = some u → h'.get? b = some u) : HOk P w H h' := fun a o e =>
  (x a o e).stay (fun b u _ q => k b u q) (fun _ q => q) fun _ _ q => q
theorem HOk.laid (x : HOk P w H h) (k : ∀ b u, h.get? b = some u → h'.get? b = some u) (hp : h.objs.size ≤ a) (new : ObjOk P w (upd H a o) h' a o) : HOk P w (upd H a o) h' := fun b u e => by
  have hn := x.fresh hp
  by_cases hb : b = a
  · subst hb; rw [upd_same] at e; cases e; exact new
  · rw [upd_ne hb] at e
    exact (x b u e).stay (fun c v _ q => k c v q) (fun c q => by rw [upd_ne (ne_of_none q hn)]; exact q) fun c xs q => by rw [upd_ne (ne_of_none q hn)]; exact q
end
def Rd (H : Hp) (a : Addr) (u : HO) : Prop := H a = some u ∨ ∃ o, H a = some (.frz o u)
theorem Rd.of {H : Hp} {a : Addr} {u : HO} (h : H a = some u) : Rd H a u := .inl h
theorem Rd.ok {P : Program} {w : World} {H : Hp} {h : Heap} {a : Addr} {u : HO} (r : Rd H a u) (x : HOk P w H h) : ObjOk P w H h a u := by
  rcases r with r | ⟨o, r⟩
  · exact x a u r
  · obtain ⟨_, q⟩ := x a _ r
    exact q
def Mut : Option HO → Prop
  | some (.lst _) => True
  | some (.dK _) => True
  | some (.dT _) => True
  | some (.set _ _) => True
  | some (.ins _ _ _) => True
  | some (.ext _) => True
  | _ => False
section
variable {P : Program} {w : World} {H : Hp} {h h' : Heap} {x e : Addr} {o' : HO}
theorem HOk.write (ok : HOk P w H h) (mu : Mut (H x)) (he : e = x ∨ H e = some (.own x)) (k : ∀ b u, b ≠ e → h.get? b = some u → h'.get? b = some u) (heo : ∃ u, h'.get? e = some u)
    (new : ObjOk P w (upd H x o') h' x o') : HOk P w (upd H x o') h' := fun b u q => by
  have nown : ∀ c y, H c = some (.own y) → c ≠ x := fun c y r z => by subst z; rw [r] at mu; exact mu
  have ntup : ∀ c xs, H c = some (.tup xs) → c ≠ x := fun c xs r z => by subst z; rw [r] at mu; exact mu
  by_cases hb : b = x
  · subst hb; rw [upd_same] at q; cases q; exact new
  · rw [upd_ne hb] at q
    by_cases hbe : b = e
    · have q' : H b = some (.own x) := by
        rcases he with z | z
        · exact absurd (hbe.trans z) hb
        · rw [hbe]; exact z
      rw [q] at q'; cases q'
      obtain ⟨v, hv⟩ := heo
      exact ⟨v, by rw [hbe]; exact hv⟩
    · refine (ok b u q).stay (fun c v hc r => k c v ?_ r) (fun c r => by rw [upd_ne (nown c b r)]; exact r) fun c xs r => by rw [upd_ne (ntup c xs r)]; exact r
      rcases hc with rfl | hc
      · exact hbe
      · rintro rfl
        rcases he with z | z
        · exact nown c b hc z
        · rw [hc] at z; cases z; exact hb rfl
end
structure Un (fs ex : List Addr) (H H' : Hp) (h h' : Heap) : Prop where
  keep : ∀ b o, h.get? b = some o → H b = none → b ∉ fs → b ∉ ex → h'.get? b = some o
  slot : ∀ b o, h.get? b = some o → H b = none → b ∈ fs → b ∉ ex → ∃ sl, h'.get? b = some { o with slots := sl }
  free : ∀ b o, h.get? b = some o → H b = none → b ∉ ex → H' b = none
  there : ∀ b o, h.get? b = some o → b ∉ ex → ∃ o', h'.get? b = some o'
  tups : ∀ b xs, H b = some (.tup xs) → H' b = some (.tup xs)
  frzs : ∀ b o u, H b = some (.frz o u) → H' b = some (.frz o u)
  tbls : ∀ b ps, H b = some (.tbl ps) → ∃ more, H' b = some (.tbl (ps ++ more))
section
variable {fs fs' ex ex' : List Addr} {H H1 H2 : Hp} {h h1 h2 h' : Heap} {a x e : Addr} {o : HO}
theorem Un.any (u : Un fs ex H H1 h h1) {b : Addr} {ob : Obj} (q : h.get? b = some ob) (n : H b = none) (hx : b ∉ ex) : ∃ sl, h1.get? b = some { ob with slots := sl } := by
  by_cases hb : b ∈ fs
  · exact u.slot b ob q n hb hx
  · exact ⟨ob.slots, u.keep b ob q n hb hx⟩
theorem Un.trans (a : Un fs ex H H1 h h1) (b : Un fs ex H1 H2 h1 h2) : Un fs ex H H2 h h2 where
  keep := fun c ob q n hc hx => b.keep c ob (a.keep c ob q n hc hx) (a.free c ob q n hx) hc hx
  slot := fun c ob q n hc hx => by
    obtain ⟨sl, e1⟩ := a.slot c ob q n hc hx
    obtain ⟨sl', e2⟩ := b.slot c _ e1 (a.free c ob q n hx) hc hx
    exact ⟨sl', e2⟩
  free := fun c ob q n hx => by
    obtain ⟨o', e1⟩ := a.there c ob q hx
    exact b.free c o' e1 (a.free c ob q n hx) hx
  there := fun c ob q hx => by
    obtain ⟨o', e1⟩ := a.there c ob q hx
    exact b.there c o' e1 hx
  tups := fun c xs q => b.tups c xs (a.tups c xs q)
  frzs := fun c ob xs q => b.frzs c ob xs (a.frzs c ob xs q)
  tbls := fun c ps q => by
    obtain ⟨m1, e1⟩ := a.tbls c ps q
    obtain ⟨m2, e2⟩ := b.tbls c _ e1
    exact ⟨m1 ++ m2, by rw [e2, Array.append_assoc]⟩
theorem Un.kept (k : ∀ b u, h.get? b = some u → h'.get? b = some u) : Un fs ex H H h h' :=
  ⟨fun b ob q _ _ _ => k b ob q, fun b ob q _ _ _ => ⟨ob.slots, k b ob q⟩, fun _ _ _ n _ => n, fun b ob q _ => ⟨ob, k b ob q⟩, fun _ _ q => q, fun _ _ _ q => q, fun _ ps q => ⟨#[], by rw [q]; simp⟩⟩
theorem Un.refl : Un fs ex H H h h := Un.kept fun _ _ q => q
theorem Un.laid (k : ∀ b u, h.get? b = some u → h'.get? b = some u) (hp : h.objs.size ≤ a) (hn : H a = none) : Un fs ex H (upd H a o) h h' where
  keep := fun b u q _ _ _ => k b u q
  slot := fun b u q _ _ _ => ⟨u.slots, k b u q⟩
  free := fun b u q n _ => by rw [upd_ne (Nat.ne_of_lt (Nat.lt_of_lt_of_le (Heap.lt_size q) hp))]; exact n
  there := fun b u q _ => ⟨u, k b u q⟩
  tups := fun b xs q => by rw [upd_ne (ne_of_none q hn)]; exact q
  frzs := fun b u xs q => by rw [upd_ne (ne_of_none q hn)]; exact q
  tbls := fun b ps q => ⟨#[], by rw [upd_ne (ne_of_none q hn), q]; simp⟩
theorem Un.write (mu : Mut (H x)) (he : e = x ∨ H e = some (.own x)) (k : ∀ b u, b ≠ e → h.get? b = some u → h'.get? b = some u) (heo : ∃ u, h'.get? e = some u) : Un fs ex H (upd H x o) h h' := by
  have hx : ∀ b, H b = none → b ≠ x := fun b n z => by subst z; rw [n] at mu; exact mu
  have hb : ∀ b, H b = none → b ≠ e := fun b n z => by
    subst z
    rcases he with r | r
    · exact hx b n r
    · rw [n] at r; cases r
  have hm : ∀ b u, H b = some u → ¬ Mut (some u) → b ≠ x := fun b u q nm z => by subst z; rw [q] at mu; exact nm mu
  refine ⟨fun b u q n _ _ => k b u (hb b n) q, fun b u q n _ _ => ⟨u.slots, k b u (hb b n) q⟩, fun b u q n _ => by rw [upd_ne (hx b n)]; exact n, fun b u q _ => ?_,
    fun b xs q => by rw [upd_ne (hm b _ q fun z => z)]; exact q, fun b u xs q => by rw [upd_ne (hm b _ q fun z => z)]; exact q, fun b ps q => ⟨#[], by rw [upd_ne (hm b _ q fun z => z), q]; simp⟩⟩
  by_cases hbe : b = e
  · subst hbe; exact heo
  · exact ⟨u, k b u hbe q⟩
theorem Un.mono (u : Un fs ex H H1 h h1) (hs : ∀ b ∈ fs, b ∈ fs') (hx : ∀ b ∈ ex, b ∈ ex') : Un fs' ex' H H1 h h1 :=
  ⟨fun b ob q n hb he => u.keep b ob q n (fun z => hb (hs b z)) fun z => he (hx b z), fun _ _ q n _ he => u.any q n fun z => he (hx _ z), fun b ob q n he => u.free b ob q n fun z => he (hx b z), fun b ob q he => u.there b ob q fun z => he (hx b z), u.tups, u.frzs, u.tbls⟩
end
def trk (h : Heap) (H : Hp) : List Addr := (List.range h.objs.size).filter fun a => (H a).isSome
def hidT (h : Heap) (H : Hp) : Heap := PySem.W.hideAll h (trk h H)
theorem hidT_size (h : Heap) (H : Hp) : (hidT h H).objs.size = h.objs.size := PySem.W.hideAll_size _ _
theorem hidT_get {h : Heap} {H : Hp} {b : Addr} {o : Obj} (e : h.get? b = some o) (n : H b = none) : (hidT h H).get? b = some o :=
  PySem.W.hideAll_get _ e fun hm => by
    have q : (H b).isSome = true := (List.mem_filter.mp hm).2
    rw [n] at q; simp at q
theorem of_hidT {h : Heap} {H : Hp} {b : Addr} {o : Obj} (e : (hidT h H).get? b = some o) : h.get? b = some o ∧ H b = none := by
  have e' : h.get? b = some o := PySem.W.of_hideAll (trk h H) e
  refine ⟨e', ?_⟩
  cases q : H b with
  | none => rfl
  | some x =>
    have hm : b ∈ trk h H := List.mem_filter.mpr ⟨List.mem_range.mpr (Heap.lt_size e'), by simp [q]⟩
    have z : (hidT h H).get? b = none := PySem.W.hideAll_none (trk h H) hm
    rw [z] at e; cases e
def allNews (g h : Heap) (L : Addr) : List (Addr × Obj) := (List.range h.objs.size).filterMap fun a => if a = L ∨ (g.get? a).isSome = true then none else (h.get? a).map fun o => (a, o)
def rest (g h : Heap) (L d : Addr) : List (Addr × Obj) := (allNews g h L).filter fun p => decide (p.1 ≠ d)
end L2
namespace L2
open PySem PySem.Spec PyProof.Rows
structure Mod (K : PySem.W.Frag) (mg : Str → Option Value) (base : Heap) : Prop where
  kin : K.In base
  glob : base.Ns mainGlobals mg
  blt : ∃ mb, base.Ns builtinsNs mb ∧ ∀ x : Str, x ≠ "__name__" → mb x = bootBuiltins x
  nolimit : base.NoLimit
/-- the context: a def's body (or a comprehension's block) running. base: fixed through the whole law; s₀, H₀: the entry; outer: the frames whose slots others may change (a def's callers); stack: all frames that run;
   ex: iterators that were made ahead of the entry and are walked here (a comprehension's); fn: the names whose cells were made at the entry (a def: all; a comprehension's block: its own); calm: not within an except suite; pn: pins that every state bears; xe: what is wanted of an exception that leaves the code -/
structure Cx where
  prog : Program
  w : World
  K : PySem.W.Frag
  mg : Str → Option Value
  base : Heap
  A : Around
  N : List Str
  s₀ : Shared
  H₀ : Hp
  env : Env
  outer : List Env
  stack : List Env
  ex : List Addr
  fn : Str → Bool
  calm : Bool
  pn : List (Addr × Obj)
  xe : Value → Shared → Prop
def frs (l : List Env) : List Addr := l.filterMap (·.frame)
abbrev Cx.fs (X : Cx) : List Addr := frs X.outer
def Vis (sc : Scope) (x : Str) : Prop := sc.names.lookup x = some .local ∨ sc.names.lookup x = some .cell ∨ sc.names.lookup x = some .free
def Loc (sc : Scope) (x : Str) : Prop := sc.names.lookup x = some .local ∨ sc.names.lookup x = some .cell
def Look (env : Env) (h : Heap) (m : Str → Option Value) (x : Str) (u : Value) : Prop :=
  (env.kindOf x = some .local ∧ m x = some u) ∨ ((env.kindOf x = some .cell ∨ env.kindOf x = some .free) ∧ ∃ c, env.cells.lookup x = some c ∧ h.IsCell c (some u))
structure Cx.Ok (X : Cx) : Prop where
  mod : Mod X.K X.mg X.base
  kind : X.env.scope.kind = .function
  glob : X.env.globals = mainGlobals
  blt : X.env.builtins = builtinsNs
  above : X.s₀.heap.objs.size ≤ X.env.locals
  inj : ∀ x y c, X.env.cells.lookup x = some c → X.env.cells.lookup y = some c → x = y
  has : ∀ x, (X.env.kindOf x = some .cell ∨ X.env.kindOf x = some .free) → ∃ c, X.env.cells.lookup x = some c
  cab : ∀ x c, X.fn x = true → X.env.cells.lookup x = some c → X.s₀.heap.objs.size ≤ c
  hd : X.calm = true → X.A.handled = none
  frames : X.A.frames = some X.stack
  stk : X.stack = X.outer ∨ (X.stack = X.env :: X.outer ∧ X.env.frame = some X.env.locals)
  exf : ∀ b ∈ X.ex, b ≠ X.env.locals ∧ ∀ x c, X.env.cells.lookup x = some c → c ≠ b
  bs : ∀ b o, X.base.get? b = some o → X.s₀.heap.get? b = some o ∧ X.H₀ b = none
  bsz : X.base.objs.size ≤ X.s₀.heap.objs.size
  noex : ∀ b o, X.base.get? b = some o → b ∉ X.ex
  exfs : ∀ b ∈ X.ex, b ∉ X.fs
  funs : X.s₀.heap.FunFrames X.base X.outer
  frf : ∀ b ∈ X.fs, X.H₀ b = none
structure Inv (X : Cx) (pins : List (Addr × Obj)) (σ : List (Option V)) (H : Hp) (s : Shared) : Prop where
  ok : X.Ok
  os : s.os = X.s₀.os
  bare : AllBare s.gens
  base : Un X.fs X.ex X.H₀ H X.s₀.heap s.heap
  loc : ∃ m, s.heap.Ns X.env.locals m ∧ ∀ (i : Nat) (x : Str) (v : V), X.N[i]? = some x → σ[i]? = some (some v) → Vis X.env.scope x → ∃ u, RelV v u ∧ Look X.env s.heap m x u
  cell : ∀ x c, X.env.cells.lookup x = some c → ∃ v, s.heap.IsCell c v
  free : H X.env.locals = none
  freeC : ∀ x c, X.env.cells.lookup x = some c → H c = none
  pin : ∀ p ∈ X.pn ++ pins, s.heap.get? p.1 = some p.2 ∧ H p.1 = none ∧ p.1 ≠ X.env.locals ∧ p.1 ∉ X.fs ∧ ∀ v, p.2.data ≠ .cell v
  hok : HOk X.prog X.w H s.heap
  len : σ.length = X.N.length
section
variable {X : Cx} {pins : List (Addr × Obj)} {σ : List (Option V)} {H H' : Hp} {s : Shared} {h' : Heap}
theorem Cx.Ok.nofr (ok : X.Ok) {b : Addr} {o : Obj} (e : X.base.get? b = some o) : b ∉ X.fs := fun hb => by
  have := (ok.funs.mem hb).1
  rw [e] at this; cases this
theorem Inv.bs (I : Inv X pins σ H s) : ∀ b o, X.base.get? b = some o → s.heap.get? b = some o ∧ H b = none := fun b o e =>
  ⟨I.base.keep b o (I.ok.bs b o e).1 (I.ok.bs b o e).2 (I.ok.nofr e) (I.ok.noex b o e), I.base.free b o (I.ok.bs b o e).1 (I.ok.bs b o e).2 (I.ok.noex b o e)⟩
theorem Inv.bk (I : Inv X pins σ H s) : ∀ b o, X.base.get? b = some o → s.heap.get? b = some o := fun b o e => (I.bs b o e).1
theorem Inv.mod (I : Inv X pins σ H s) : Mod X.K X.mg X.base := I.ok.mod
theorem Inv.kIn (I : Inv X pins σ H s) : X.K.In s.heap := I.ok.mod.kin.keeps I.bk
theorem Inv.nolimit (I : Inv X pins σ H s) : s.heap.NoLimit := I.ok.mod.nolimit.keeps I.bk
theorem Inv.fr (I : Inv X pins σ H s) : ∃ m, Fr X.base X.env.locals s.heap m :=
  let ⟨m, hn, _⟩ := I.loc
  ⟨m, hn, I.bk, Nat.le_trans I.ok.bsz I.ok.above⟩
theorem Inv.lt (I : Inv X pins σ H s) : X.env.locals < s.heap.objs.size := let ⟨_, hn, _⟩ := I.loc; hn.lt
theorem Inv.sz (I : Inv X pins σ H s) : X.s₀.heap.objs.size ≤ s.heap.objs.size := Nat.le_trans I.ok.above (Nat.le_of_lt I.lt)
theorem Inv.nofs (I : Inv X pins σ H s) {a : Addr} (h : s.heap.objs.size ≤ a) : a ∉ X.fs := fun hb => by
  obtain ⟨_, o, ho, _⟩ := I.ok.funs.mem hb
  exact absurd (Nat.lt_of_lt_of_le (Heap.lt_size ho) (Nat.le_trans I.sz h)) (Nat.lt_irrefl _)
theorem Inv.cne (I : Inv X pins σ H s) : ∀ x c, X.env.cells.lookup x = some c → c ≠ X.env.locals := fun x c e z => by
  obtain ⟨v, o, ho, hd⟩ := I.cell x c e
  obtain ⟨m, ⟨o', es, ep, ho', hd', _⟩, _⟩ := I.loc
  rw [z, ho'] at ho; cases ho; rw [hd'] at hd; cases hd
theorem Inv.funs (I : Inv X pins σ H s) : s.heap.FunFrames X.base X.outer := by
  have all : ∀ (l : List Env), (∀ b ∈ frs l, b ∈ X.fs) → X.s₀.heap.FunFrames X.base l → s.heap.FunFrames X.base l := by
    intro l
    induction l with
    | nil => intro _ _; trivial
    | cons env r ih =>
      intro hs hl
      obtain ⟨hk, ⟨L, o, hf, hn, ho, hd⟩, hr⟩ := hl
      have hL : L ∈ X.fs := hs L (by unfold frs; rw [List.filterMap_cons, hf]; exact List.mem_cons_self)
      obtain ⟨sl, e⟩ := I.base.slot L o ho (I.ok.frf L hL) hL fun z => I.ok.exfs L z hL
      exact ⟨hk, ⟨L, _, hf, hn, e, hd⟩, ih (fun b hb => hs b (by unfold frs; rw [List.filterMap_cons, hf]; exact List.mem_cons_of_mem _ hb)) hr⟩
  exact all X.outer (fun _ hb => hb) I.ok.funs
theorem Inv.stack (I : Inv X pins σ H s) : s.heap.FunFrames X.base X.stack := by
  rcases I.ok.stk with e | ⟨e, hf⟩
  · rw [e]; exact I.funs
  · rw [e]
    obtain ⟨m, hn, _⟩ := I.loc
    refine .cons (by rw [I.ok.kind]; decide) hf hn ?_ I.funs
    exact Heap.get?_none_of_le (Nat.le_trans I.ok.bsz I.ok.above)
theorem Inv.stkSub (I : Inv X pins σ H s) : ∀ b ∈ frs X.stack, b ∈ X.env.locals :: X.fs := fun b hb => by
  rcases I.ok.stk with e | ⟨e, hf⟩
  · rw [e] at hb; exact List.mem_cons_of_mem _ hb
  · rw [e] at hb
    unfold frs at hb
    rw [List.filterMap_cons, hf] at hb
    exact hb
theorem Inv.stkFree (I : Inv X pins σ H s) : ∀ b ∈ frs X.stack, H b = none := fun b hb => by
  rcases List.mem_cons.mp (I.stkSub b hb) with e | hb
  · rw [e]; exact I.free
  · obtain ⟨_, o, ho, _⟩ := I.ok.funs.mem hb
    exact I.base.free b o ho (I.ok.frf b hb) fun z => I.ok.exfs b z hb
theorem Inv.step {g' : Array GenState} {t' : Nat} {d' : Drawn} {ch : List Addr} (I : Inv X pins σ H s)
    (hch : ∀ b ∈ ch, (b ∈ X.ex ∨ X.s₀.heap.objs.size ≤ b) ∧ b ≠ X.env.locals ∧ (∀ x c, X.env.cells.lookup x = some c → c ≠ b) ∧ ∀ p ∈ X.pn ++ pins, p.1 ≠ b)
    (keep : ∀ b o, b ≠ X.env.locals → b ∉ X.fs → b ∉ ch → s.heap.get? b = some o → H b = none → h'.get? b = some o)
    (slot : ∀ b o, b ≠ X.env.locals → b ∈ X.fs → b ∉ ch → s.heap.get? b = some o → H b = none → ∃ sl, h'.get? b = some { o with slots := sl }) (free : ∀ b o, b ∉ ch → s.heap.get? b = some o → H b = none → H' b = none)
    (there : ∀ b o, b ∉ ch → s.heap.get? b = some o → ∃ o', h'.get? b = some o')
    (tups : ∀ b xs, H b = some (.tup xs) → H' b = some (.tup xs)) (frzs : ∀ b o u, H b = some (.frz o u) → H' b = some (.frz o u)) (tbls : ∀ b ps, H b = some (.tbl ps) → ∃ more, H' b = some (.tbl (ps ++ more)))
    (ns : ∀ m, s.heap.Ns X.env.locals m → h'.Ns X.env.locals m) (hok : HOk X.prog X.w H' h') (hg : AllBare g') :
    Inv X pins σ H' { s with heap := h', gens := g', drawn := d', toks := t' } := by
  have neL : ∀ b o, X.s₀.heap.get? b = some o → b ≠ X.env.locals := fun b o e => Nat.ne_of_lt (Nat.lt_of_lt_of_le (Heap.lt_size e) I.ok.above)
  have neC : ∀ b o, X.s₀.heap.get? b = some o → b ∉ X.ex → b ∉ ch := fun b o e hx hb => by
    rcases (hch b hb).1 with z | z
    · exact hx z
    · exact absurd (Nat.lt_of_lt_of_le (Heap.lt_size e) z) (Nat.lt_irrefl _)
  have cellK : ∀ x c, X.env.cells.lookup x = some c → ∀ v, s.heap.IsCell c v → h'.IsCell c v := fun x c e v ⟨o, ho, hd⟩ => by
    have nch : c ∉ ch := fun z => (hch c z).2.2.1 x c e rfl
    by_cases hc : c ∈ X.fs
    · obtain ⟨sl, q⟩ := slot c o (I.cne x c e) hc nch ho (I.freeC x c e)
      exact ⟨_, q, hd⟩
    · exact ⟨o, keep c o (I.cne x c e) hc nch ho (I.freeC x c e), hd⟩
  refine ⟨I.ok, I.os, hg, ⟨fun b o e n hb hx => ?_, fun b o e n hb hx => ?_, fun b o e n hx => ?_, fun b o e hx => ?_, fun b xs e => tups b xs (I.base.tups b xs e), fun b o xs e => frzs b o xs (I.base.frzs b o xs e), fun b ps e => ?_⟩, ?_, fun x c e => ?_, ?_, fun x c e => ?_, fun p hp => ?_, hok, I.len⟩
  · exact keep b o (neL b o e) hb (neC b o e hx) (I.base.keep b o e n hb hx) (I.base.free b o e n hx)
  · obtain ⟨sl, e1⟩ := I.base.slot b o e n hb hx
    obtain ⟨sl', e2⟩ := slot b _ (neL b o e) hb (neC b o e hx) e1 (I.base.free b o e n hx)
    exact ⟨sl', e2⟩
  · obtain ⟨o', e1⟩ := I.base.there b o e hx
    exact free b o' (neC b o e hx) e1 (I.base.free b o e n hx)
  · obtain ⟨o', e1⟩ := I.base.there b o e hx
    exact there b o' (neC b o e hx) e1
  · obtain ⟨m1, e1⟩ := I.base.tbls b ps e
    obtain ⟨m2, e2⟩ := tbls b _ e1
    exact ⟨m1 ++ m2, by rw [e2, Array.append_assoc]⟩
  · obtain ⟨m, hn, hl⟩ := I.loc
    refine ⟨m, ns m hn, fun i x v e1 e2 e3 => ?_⟩
    obtain ⟨u, r, l⟩ := hl i x v e1 e2 e3
    refine ⟨u, r, ?_⟩
    rcases l with l | ⟨k, c, e, z⟩
    · exact .inl l
    · exact .inr ⟨k, c, e, cellK x c e _ z⟩
  · obtain ⟨v, z⟩ := I.cell x c e
    exact ⟨v, cellK x c e v z⟩
  · obtain ⟨m, ⟨o, _, _, ho, _⟩, _⟩ := I.loc
    exact free _ o (fun z => (hch _ z).2.1 rfl) ho I.free
  · obtain ⟨v, o, ho, hd⟩ := I.cell x c e
    exact free c o (fun z => (hch c z).2.2.1 x c e rfl) ho (I.freeC x c e)
  · obtain ⟨e, n, ne, nf, d⟩ := I.pin p hp
    have nch : p.1 ∉ ch := fun z => (hch p.1 z).2.2.2 p hp rfl
    exact ⟨keep p.1 p.2 ne nf nch e n, free p.1 p.2 nch e n, ne, nf, d⟩
theorem Inv.un {t' : Nat} (I : Inv X pins σ H s) (u : Un X.fs [] H H' s.heap h') (hok : HOk X.prog X.w H' h') : Inv X pins σ H' { s with heap := h', toks := t' } := by
  obtain ⟨m, ⟨o, es, ep, ho, r⟩, _⟩ := id I.loc
  obtain ⟨sl, hL⟩ := u.any ho I.free (by simp)
  exact I.step (g' := s.gens) (d' := s.drawn) (ch := []) (fun _ z => nomatch z) (fun b o _ hb _ e n => u.keep b o e n hb (by simp)) (fun b o _ hb _ e n => u.slot b o e n hb (by simp)) (fun b o _ e n => u.free b o e n (by simp)) (fun b o _ e => u.there b o e (by simp)) u.tups u.frzs u.tbls (fun m' hm => by
    obtain ⟨o', es', ep', ho', r'⟩ := hm
    rw [ho] at ho'; cases ho'
    exact ⟨_, es', ep', hL, r'⟩) hok I.bare
theorem Inv.call {g' : Array GenState} {t' : Nat} {d' : Drawn} {ch : List Addr} (I : Inv X pins σ H s) (u : Un (frs X.stack) ch H H' s.heap h') (hok : HOk X.prog X.w H' h') (hg : AllBare g')
    (hch : ∀ b ∈ ch, (b ∈ X.ex ∨ X.s₀.heap.objs.size ≤ b) ∧ b ≠ X.env.locals ∧ (∀ x c, X.env.cells.lookup x = some c → c ≠ b) ∧ ∀ p ∈ X.pn ++ pins, p.1 ≠ b) :
    Inv X pins σ H' { s with heap := h', gens := g', drawn := d', toks := t' } := by
  obtain ⟨m, ⟨o, es, ep, ho, r⟩, _⟩ := id I.loc
  obtain ⟨sl, hL⟩ := u.any ho I.free fun z => (hch _ z).2.1 rfl
  exact I.step (ch := ch) hch (fun b o hL hb hc e n => u.keep b o e n (fun z => (List.mem_cons.mp (I.stkSub b z)).elim hL hb) hc) (fun b o _ _ hc e n => u.any e n hc) (fun b o hc e n => u.free b o e n hc) (fun b o hc e => u.there b o e hc) u.tups u.frzs u.tbls (fun m' hm => by
    obtain ⟨o', es', ep', ho', r'⟩ := hm
    rw [ho] at ho'; cases ho'
    exact ⟨_, es', ep', hL, r'⟩) hok hg
theorem Inv.turned {t' : Nat} {it : Addr} (I : Inv X pins σ H s) (k : ∀ b o, b ≠ it → s.heap.get? b = some o → h'.get? b = some o) (hn : H it = none) (hL : it ≠ X.env.locals)
    (h1 : it ∈ X.ex ∨ X.s₀.heap.objs.size ≤ it) (h2 : ∀ x c, X.env.cells.lookup x = some c → c ≠ it) (h3 : ∀ p ∈ X.pn ++ pins, p.1 ≠ it) : Inv X pins σ H { s with heap := h', toks := t' } := by
  have nit : ∀ b u, H b = some u → b ≠ it := fun b u e z => by rw [z, hn] at e; cases e
  refine I.step (g' := s.gens) (d' := s.drawn) (ch := [it]) (fun b hb => ?_) (fun b o _ _ hc e _ => k b o (fun z => hc (by simp [z])) e) (fun b o _ _ hc e _ => ⟨o.slots, k b o (fun z => hc (by simp [z])) e⟩) (fun _ _ _ _ n => n)
    (fun b o hc e => ⟨o, k b o (fun z => hc (by simp [z])) e⟩) (fun _ _ e => e) (fun _ _ _ e => e) (fun b ps e => ⟨#[], by rw [e]; simp⟩) (fun m hm => ?_) (fun b u e => ?_) I.bare
  · have e : b = it := by simpa using hb
    subst e
    exact ⟨h1, hL, h2, h3⟩
  · obtain ⟨o, es, ep, ho, r⟩ := hm
    exact ⟨o, es, ep, k _ o (Ne.symm hL) ho, r⟩
  · refine (I.hok b u e).stay (fun c v hc q => k c v ?_ q) (fun _ q => q) fun _ _ q => q
    rcases hc with z | z
    · rw [z]; exact nit b u e
    · exact nit c _ z
theorem Inv.tok (I : Inv X pins σ H s) (t : Nat) : Inv X pins σ H { s with toks := t } := I.un (h' := s.heap) (t' := t) Un.refl I.hok
theorem Inv.kept {t' : Nat} (I : Inv X pins σ H s) (k : ∀ b u, s.heap.get? b = some u → h'.get? b = some u) : Inv X pins σ H { s with heap := h', toks := t' } := I.un (Un.kept k) (I.hok.kept k)
theorem Inv.laid {a : Addr} {o : HO} {t' : Nat} (I : Inv X pins σ H s) (k : ∀ b u, s.heap.get? b = some u → h'.get? b = some u) (hp : s.heap.objs.size ≤ a) (new : ObjOk X.prog X.w (upd H a o) h' a o) :
    Inv X pins σ (upd H a o) { s with heap := h', toks := t' } := I.un (Un.laid k hp (I.hok.fresh hp)) (I.hok.laid k hp new)
theorem Inv.write {x e : Addr} {o : HO} {t' : Nat} (I : Inv X pins σ H s) (mu : Mut (H x)) (he : e = x ∨ H e = some (.own x)) (k : ∀ b u, b ≠ e → s.heap.get? b = some u → h'.get? b = some u) (heo : ∃ u, h'.get? e = some u)
    (new : ObjOk X.prog X.w (upd H x o) h' x o) : Inv X pins σ (upd H x o) { s with heap := h', toks := t' } := I.un (Un.write mu he k heo) (I.hok.write mu he k heo new)
theorem Inv.weak {σ' : List (Option V)} (I : Inv X pins σ H s) (hl : σ'.length = σ.length) (w : ∀ (i : Nat) v, σ'[i]? = some (some v) → σ[i]? = some (some v)) : Inv X pins σ' H s :=
  ⟨I.ok, I.os, I.bare, I.base, let ⟨m, hn, hl'⟩ := I.loc; ⟨m, hn, fun i x v e1 e2 e3 => hl' i x v e1 (w i v e2) e3⟩, I.cell, I.free, I.freeC, I.pin, I.hok, hl.trans I.len⟩
theorem Inv.pins_of {pins' : List (Addr × Obj)} (I : Inv X pins σ H s) (h : ∀ p ∈ pins', s.heap.get? p.1 = some p.2 ∧ H p.1 = none ∧ p.1 ≠ X.env.locals ∧ p.1 ∉ X.fs ∧ ∀ v, p.2.data ≠ .cell v) : Inv X pins' σ H s :=
  ⟨I.ok, I.os, I.bare, I.base, I.loc, I.cell, I.free, I.freeC, fun p hp => (List.mem_append.mp hp).elim (fun z => I.pin p (List.mem_append_left _ z)) (h p), I.hok, I.len⟩
theorem nodup_ix {N : List Str} (hN : N.Nodup) {i j : Nat} {x : Str} (a : N[i]? = some x) (b : N[j]? = some x) : i = j := by
  obtain ⟨h1, e1⟩ := List.getElem?_eq_some_iff.mp a
  obtain ⟨h2, e2⟩ := List.getElem?_eq_some_iff.mp b
  exact (List.getElem_inj hN).mp (e1.trans e2.symm)
theorem store_ok2 {M : Model} {A : Around} {E : Value → Shared → Prop} {i : Nat} {x : Str} {v : V} {u : Value} {Q : Unit → Shared → Prop} (I : Inv X pins σ H s) (hN : X.N.Nodup) (hi : X.N[i]? = some x) (hx : Loc X.env.scope x) (r : RelV v u)
    (h : ∀ s', Inv X pins (σ.set i (some v)) H s' → (∃ a, Heap.SameBut a s.heap s'.heap ∧ (a = X.env.locals ∨ X.env.cells.lookup x = some a)) → Q () s') (hf : X.fn x = true ∨ X.env.scope.names.lookup x = some .local := by first | exact .inl rfl | exact .inr rfl | assumption) : wpAny M A (storeName X.env x u) Q E s := by
  obtain ⟨m, hn, hl⟩ := id I.loc
  have hcls : (X.env.scope.kind == .class || (X.env.scope.kind == .module && X.env.locals != X.env.globals)) = false := by rw [I.ok.kind]; rfl
  have hiσ : i < σ.length := by rw [I.len]; exact (List.getElem?_eq_some_iff.mp hi).1
  have cne := I.cne
  have tracked : ∀ {a : Addr} {h' : Heap}, (∃ o, s.heap.get? a = some o ∧ H a = none) → Heap.SameBut a s.heap h' → HOk X.prog X.w H h' := fun {a h'} ha hs b ob e => by
    obtain ⟨_, _, hfree⟩ := ha
    refine (I.hok b ob e).stay (fun c w' hc q => (hs.2 c ?_).trans q) (fun _ q => q) fun _ _ q => q
    rintro rfl
    rcases hc with rfl | hc
    · rw [hfree] at e; cases e
    · rw [hfree] at hc; cases hc
  rcases hx with hk | hk
  · refine wpAny_storeName_local hk hn (fun h' hn' hs => ?_) hcls
    obtain ⟨oL, _, _, hoL, _⟩ := id hn
    refine h _ ⟨I.ok, I.os, I.bare, ⟨fun b o e n hb hx => ?_, fun b o e n hb hx => ?_, I.base.free, fun b o e hx => ?_, I.base.tups, I.base.frzs, I.base.tbls⟩, ⟨_, hn', fun j y v' e1 e2 e3 => ?_⟩, fun y c e => ?_, I.free, I.freeC, fun p hp => ?_, tracked ⟨oL, hoL, I.free⟩ hs, by simpa using I.len⟩ ⟨_, hs, .inl rfl⟩
    · exact (hs.2 b (Nat.ne_of_lt (Nat.lt_of_lt_of_le (Heap.lt_size e) I.ok.above))).trans (I.base.keep b o e n hb hx)
    · obtain ⟨sl, e1⟩ := I.base.slot b o e n hb hx
      exact ⟨sl, (hs.2 b (Nat.ne_of_lt (Nat.lt_of_lt_of_le (Heap.lt_size e) I.ok.above))).trans e1⟩
    · obtain ⟨o', e1⟩ := I.base.there b o e hx
      exact ⟨o', (hs.2 b (Nat.ne_of_lt (Nat.lt_of_lt_of_le (Heap.lt_size e) I.ok.above))).trans e1⟩
    · by_cases hj : j = i
      · subst hj
        rw [hi] at e1; cases e1
        rw [List.getElem?_set_self hiσ] at e2
        cases e2
        exact ⟨u, r, .inl ⟨hk, by simp⟩⟩
      · rw [List.getElem?_set_ne (Ne.symm hj)] at e2
        obtain ⟨u', r', q⟩ := hl j y v' e1 e2 e3
        refine ⟨u', r', ?_⟩
        rcases q with ⟨k, e⟩ | ⟨k, c, e, z⟩
        · refine .inl ⟨k, ?_⟩
          have : y ≠ x := fun e => hj (nodup_ix hN e1 (e ▸ hi))
          simp [this, e]
        · exact .inr ⟨k, c, e, z.sameBut hs (cne y c e)⟩
    · obtain ⟨w', z⟩ := I.cell y c e
      exact ⟨w', z.sameBut hs (cne y c e)⟩
    · obtain ⟨e, n, ne, nf, d⟩ := I.pin p hp
      exact ⟨(hs.2 p.1 ne).trans e, n, ne, nf, d⟩
  · have hfn : X.fn x = true := by
      rcases hf with z | z
      · exact z
      · rw [z] at hk; cases hk
    obtain ⟨c, hc⟩ := I.ok.has x (.inl hk)
    obtain ⟨w', z⟩ := I.cell x c hc
    refine wpAny_storeName_cell I.ok.kind hk hc z (fun h' hc' hs => ?_)
    obtain ⟨oc, hoc, hocd⟩ := id z
    refine h { s with heap := h' } ⟨I.ok, I.os, I.bare, ⟨fun b o e n hb hx => ?_, fun b o e n hb hx => ?_, I.base.free, fun b o e hx => ?_, I.base.tups, I.base.frzs, I.base.tbls⟩, ⟨m, hn.sameBut hs (Ne.symm (cne x c hc)), fun j y v' e1 e2 e3 => ?_⟩, fun y c' e => ?_, I.free, I.freeC, fun p hp => ?_, tracked ⟨oc, hoc, I.freeC x c hc⟩ hs, by simpa using I.len⟩ ⟨c, hs, .inr hc⟩
    · exact (hs.2 b (Nat.ne_of_lt (Nat.lt_of_lt_of_le (Heap.lt_size e) (I.ok.cab x c hfn hc)))).trans (I.base.keep b o e n hb hx)
    · obtain ⟨sl, e1⟩ := I.base.slot b o e n hb hx
      exact ⟨sl, (hs.2 b (Nat.ne_of_lt (Nat.lt_of_lt_of_le (Heap.lt_size e) (I.ok.cab x c hfn hc)))).trans e1⟩
    · obtain ⟨o', e1⟩ := I.base.there b o e hx
      exact ⟨o', (hs.2 b (Nat.ne_of_lt (Nat.lt_of_lt_of_le (Heap.lt_size e) (I.ok.cab x c hfn hc)))).trans e1⟩
    · by_cases hj : j = i
      · subst hj
        rw [hi] at e1; cases e1
        rw [List.getElem?_set_self hiσ] at e2
        cases e2
        exact ⟨u, r, .inr ⟨.inl hk, c, hc, hc'⟩⟩
      · rw [List.getElem?_set_ne (Ne.symm hj)] at e2
        obtain ⟨u', r', q⟩ := hl j y v' e1 e2 e3
        refine ⟨u', r', ?_⟩
        rcases q with q | ⟨k, c', e, z'⟩
        · exact .inl q
        · refine .inr ⟨k, c', e, z'.sameBut hs ?_⟩
          rintro rfl
          exact hj (nodup_ix hN e1 (I.ok.inj _ _ _ e hc ▸ hi))
    · by_cases hcc : c' = c
      · subst hcc; exact ⟨_, hc'⟩
      · obtain ⟨w2, z2⟩ := I.cell y c' e
        exact ⟨w2, z2.sameBut hs hcc⟩
    · obtain ⟨e, n, ne, nf, d⟩ := I.pin p hp
      refine ⟨(hs.2 p.1 ?_).trans e, n, ne, nf, d⟩
      intro q
      rw [q, hoc] at e
      have q' : oc = p.2 := Option.some.inj e
      exact d w' (by rw [← q']; exact hocd)
theorem store_ok {M : Model} {A : Around} {E : Value → Shared → Prop} {i : Nat} {x : Str} {v : V} {u : Value} {Q : Unit → Shared → Prop} (I : Inv X pins σ H s) (hN : X.N.Nodup) (hi : X.N[i]? = some x) (hx : Loc X.env.scope x) (r : RelV v u)
    (h : ∀ s', Inv X pins (σ.set i (some v)) H s' → Q () s') (hf : X.fn x = true ∨ X.env.scope.names.lookup x = some .local := by first | exact .inl rfl | exact .inr rfl | assumption) : wpAny M A (storeName X.env x u) Q E s :=
  store_ok2 I hN hi hx r (fun s' I' _ => h s' I') hf
theorem Inv.call' {s' : Shared} {ch : List Addr} (I : Inv X pins σ H s) (ho : s'.os = s.os) (u : Un (frs X.stack) ch H H' s.heap s'.heap) (hok : HOk X.prog X.w H' s'.heap) (hg : AllBare s'.gens)
    (hch : ∀ b ∈ ch, (b ∈ X.ex ∨ X.s₀.heap.objs.size ≤ b) ∧ b ≠ X.env.locals ∧ (∀ x c, X.env.cells.lookup x = some c → c ≠ b) ∧ ∀ p ∈ X.pn ++ pins, p.1 ≠ b) : Inv X pins σ H' s' := by
  obtain ⟨h', g', d', t', o'⟩ := s'
  have e : o' = s.os := ho
  subst e
  exact I.call (g' := g') (t' := t') (d' := d') u hok hg hch
end
abbrev XK := Value → Option Addr → Hp → Prop
abbrev St := List (Option V)
abbrev VK := V → Hp → Prop
abbrev TE := St → Hp → VK → Prop
abbrev TT := St → Hp → (Bool → Hp → Prop) → Prop
abbrev TA := St → Hp → (List V → Hp → Prop) → Prop
structure Ends where
  nx : St → Hp → Prop
  rt : VK
  bk : St → Hp → Prop := fun _ _ => False
  ct : St → Hp → Prop := fun _ _ => False
abbrev TS := Ends → St → Hp → Prop
def EP (X : Cx) (pins : List (Addr × Obj)) (σ : St) (Q : VK) (u : Value) (s' : Shared) : Prop := ∃ v H', Inv X pins σ H' s' ∧ RelV v u ∧ Q v H'
def TP (X : Cx) (pins : List (Addr × Obj)) (σ : St) (Q : Bool → Hp → Prop) (b : Bool) (s' : Shared) : Prop := ∃ H', Inv X pins σ H' s' ∧ Q b H'
def AP (X : Cx) (pins : List (Addr × Obj)) (σ : St) (Q : List V → Hp → Prop) (us : List Value) (s' : Shared) : Prop := ∃ vs H', Inv X pins σ H' s' ∧ Vals vs us ∧ Q vs H'
def SP (X : Cx) (pins : List (Addr × Obj)) (D : Ends) (f : Flow) (s' : Shared) : Prop :=
  match f with
  | .next => ∃ σ' H', Inv X pins σ' H' s' ∧ D.nx σ' H'
  | .brk => ∃ σ' H', Inv X pins σ' H' s' ∧ D.bk σ' H'
  | .cont => ∃ σ' H', Inv X pins σ' H' s' ∧ D.ct σ' H'
  | .ret u => ∃ v σ' H', Inv X pins σ' H' s' ∧ RelV v u ∧ D.rt v H'
def PE (X : Cx) (e : Expr) (t : TE) : Prop :=
  ∀ (pins : List (Addr × Obj)) (s : Shared) (σ : St) (H : Hp) (Q : VK), Inv X pins σ H s → t σ H Q → wpAny (model X.prog X.w) X.A (eval e X.env) (EP X pins σ Q) X.xe s
def PT (X : Cx) (e : Expr) (t : TT) : Prop :=
  ∀ (pins : List (Addr × Obj)) (s : Shared) (σ : St) (H : Hp) (Q : Bool → Hp → Prop), Inv X pins σ H s → t σ H Q → wpAny (model X.prog X.w) X.A (isTrue e X.env (eval e X.env)) (TP X pins σ Q) X.xe s
def PW (X : Cx) (e : Expr) (t : TT) : Prop :=
  ∀ (whole : Sem Value) (pins : List (Addr × Obj)) (s : Shared) (σ : St) (H : Hp) (Q : Bool → Hp → Prop), Inv X pins σ H s → t σ H Q → wpAny (model X.prog X.w) X.A (isTrue e X.env whole) (TP X pins σ Q) X.xe s
theorem PW.pt {X : Cx} {e : Expr} {t : TT} (h : PW X e t) : PT X e t := h _
def PA (X : Cx) (es : List Expr) (t : TA) : Prop :=
  ∀ (pos : Pos) (pins : List (Addr × Obj)) (s : Shared) (σ : St) (H : Hp) (Q : List V → Hp → Prop), Inv X pins σ H s → t σ H Q → wpAny (model X.prog X.w) X.A (spliced (backTo pos (starEach es X.env))) (AP X pins σ Q) X.xe s
def PS (X : Cx) (st : Stmt) (t : TS) : Prop :=
  ∀ (pins : List (Addr × Obj)) (s : Shared) (σ : St) (H : Hp) (D : Ends), Inv X pins σ H s → t D σ H → wpAny (model X.prog X.w) X.A (exec st X.env) (SP X pins D) X.xe s
def PSs (X : Cx) (st : List Stmt) (t : TS) : Prop :=
  ∀ (pins : List (Addr × Obj)) (s : Shared) (σ : St) (H : Hp) (D : Ends), Inv X pins σ H s → t D σ H → wpAny (model X.prog X.w) X.A (execs st X.env) (SP X pins D) X.xe s
theorem thn {α : Type} {t : Sem α} {Q Q' : α → Shared → Prop} {M : Model} {A : Around} {E : Value → Shared → Prop} {s : Shared} (h : wpAny M A t Q E s) (hQ : ∀ a s, Q a s → Q' a s) : wpAny M A t Q' E s := wpAny_mono h hQ fun _ _ x => x
end L2
namespace L2
open PySem PySem.Spec PyProof.Rows
section
variable {X : Cx}
def tVar (i : Nat) : TE := fun σ H Q => ∃ v, σ[i]? = some (some v) ∧ Q v H
def tC (v : V) : TE := fun _ H Q => Q v H
theorem pe_var {i : Nat} {x : Str} {pos : Pos} (hN : X.N[i]? = some x) (hv : Vis X.env.scope x) (hd : (x == ("__debug__" : Str)) = false := by decide) (hcd : (x == ("__classdict__" : Str)) = false := by decide) : PE X (.Name x pos) (tVar i) := by
  intro pins s σ H Q I h
  obtain ⟨v, e, h⟩ := h
  obtain ⟨m, hn, hl⟩ := I.loc
  obtain ⟨u, r, l⟩ := hl i x v hN e hv
  have fin : EP X pins σ Q u s := ⟨v, H, I, r, h⟩
  rcases l with ⟨hk, hm⟩ | ⟨hk, c, hc, hcell⟩
  · exact wpAny_Name (wpAny_loadName_local I.ok.kind hk hn hm fin) hd
  · rcases hk with hk | hk
    · exact wpAny_Name (wpAny_loadName_cell I.ok.kind hk hc hcell fin) hd
    · exact wpAny_Name (wpAny_loadName_free I.ok.kind hk hc hcell fin hcd) hd
theorem pe_int {i j pos} : PE X (.Constant (.int i) j pos) (tC (.int i)) := fun _ _ _ H _ I h => wpAny_Constant_int ⟨.int i, H, I.tok _, ⟨_, rfl⟩, h⟩
theorem pe_bl {b j pos} : PE X (.Constant (.bool b) j pos) (tC (.bl b)) := fun _ _ _ H _ I h => Constant_bool ⟨.bl b, H, I, rfl, h⟩
theorem pe_non {j pos} : PE X (.Constant .none j pos) (tC .non) := fun _ _ _ H _ I h => Constant_none ⟨.non, H, I, rfl, h⟩
def Gl (X : Cx) (x : Str) : Prop := X.env.kindOf x = some .globalImplicit
theorem ld_glob {E : Value → Shared → Prop} {pins : List (Addr × Obj)} {s : Shared} {σ : St} {H : Hp} {x : Str} {u : Value} {pos : Pos} {Q : Value → Shared → Prop} (I : Inv X pins σ H s) (hg : Gl X x) (hm : X.mg x = some u) (h : Q u s)
    (hd : (x == ("__debug__" : Str)) = false := by decide) : wpAny (model X.prog X.w) X.A (eval (.Name x pos) X.env) Q E s :=
  Calls.Name_function_global I.ok.kind hg (Calls.loadGlobal_global (by rw [I.ok.glob]; exact I.mod.glob.keeps I.bk) hm h) hd
theorem ld_blt {E : Value → Shared → Prop} {pins : List (Addr × Obj)} {s : Shared} {σ : St} {H : Hp} {x : Str} {u : Value} {pos : Pos} {Q : Value → Shared → Prop} (I : Inv X pins σ H s) (hg : Gl X x) (hm : X.mg x = none) (hv : bootBuiltins x = some u) (h : Q u s)
    (hn : x ≠ "__name__" := by decide) (hd : (x == ("__debug__" : Str)) = false := by decide) : wpAny (model X.prog X.w) X.A (eval (.Name x pos) X.env) Q E s := by
  obtain ⟨mb, h1, h2⟩ := I.mod.blt
  exact Calls.Name_function_global I.ok.kind hg (Calls.loadGlobal_builtin (by rw [I.ok.glob]; exact I.mod.glob.keeps I.bk) hm (by rw [I.ok.blt]; exact h1.keeps I.bk) ((h2 x hn).trans hv) h) hd
def t2I (ta tb : TE) (k : Int → Int → Hp → Prop) : St → Hp → Prop := fun σ H => ta σ H fun x H1 => tb σ H1 fun y H2 => ∃ i j, x = .int i ∧ y = .int j ∧ k i j H2
def tAdd (ta tb : TE) : TE := fun σ H Q => t2I ta tb (fun i j H2 => Q (.int (i + j)) H2) σ H
def tSub (ta tb : TE) : TE := fun σ H Q => t2I ta tb (fun i j H2 => Q (.int (i - j)) H2) σ H
def tMul (ta tb : TE) : TE := fun σ H Q => t2I ta tb (fun i j H2 => (-(2 ^ 64) < i ∧ i < 2 ^ 64) ∧ Q (.int (i * j)) H2) σ H
variable {a b : Expr} {ta tb : TE} {pos : Pos}
def PC (X : Cx) (op : CmpOp) (a b : Expr) (t : TE) : Prop :=
  ∀ (pins : List (Addr × Obj)) (s : Shared) (σ : St) (H : Hp) (Q : VK), Inv X pins σ H s → t σ H Q →
    wpAny (model X.prog X.w) X.A (eval a X.env) (fun v s₁ => wpAny (model X.prog X.w) X.A (eval b X.env) (fun u s₂ => wpAny (model X.prog X.w) X.A (compareOp op v u) (EP X pins σ Q) X.xe s₂) X.xe s₁) X.xe s
theorem nobehind (b : Expr) {op : CmpOp} (h : op ≠ .In) (h2 : op ≠ .NotIn) : behindInMarks op b = false := by
  have e1 : (op == CmpOp.In) = false := by cases op <;> first | rfl | exact absurd rfl h
  have e2 : (op == CmpOp.NotIn) = false := by cases op <;> first | rfl | exact absurd rfl h2
  cases b <;> simp [behindInMarks, e1, e2]
def tCmp (p : Int → Int → Bool) (ta tb : TE) : TE := fun σ H Q => t2I ta tb (fun i j H2 => Q (.bl (p i j)) H2) σ H
abbrev tLt : TE → TE → TE := tCmp fun i j => decide (i < j)
abbrev tLe : TE → TE → TE := tCmp fun i j => decide (i ≤ j)
abbrev tGt : TE → TE → TE := tCmp fun i j => decide (j < i)
abbrev tGe : TE → TE → TE := tCmp fun i j => decide (j ≤ i)
abbrev tEqI : TE → TE → TE := tCmp fun i j => decide (i = j)
abbrev tNeI : TE → TE → TE := tCmp fun i j => !decide (i = j)
def tIsN (ta : TE) : TE := fun σ H Q => ta σ H fun x H1 => Q (.bl (decide (x = .non))) H1
def tNotN (ta : TE) : TE := fun σ H Q => ta σ H fun x H1 => Q (.bl (!decide (x = .non))) H1
def tB (t : TE) : TT := fun σ H Q => t σ H fun x H1 => ∃ c, x = .bl c ∧ Q c H1
theorem pe_cmp {op : CmpOp} {t : TE} (h : PC X op a b t) (h1 : behindInMarks op b = false := by first | exact nobehind _ (by decide) (by decide) | rfl) : PE X (.Compare a [op] [b] pos) t := fun pins s σ H Q I hw => wpAny_Compare1 (h pins s σ H Q I hw) h1
theorem pt_cmp {op : CmpOp} {t : TE} (h : PC X op a b t) (h1 : behindInMarks op b = false := by first | exact nobehind _ (by decide) (by decide) | rfl) : PT X (.Compare a [op] [b] pos) (tB t) := by
  intro pins s σ H Q I hw
  refine wpAny_isTrue_Compare1 (thn (h pins s σ H _ I hw) fun v s1 h1 => thn h1 fun u s2 h2 => thn h2 fun c s3 ⟨x, H1, I1, r1, q1⟩ => ?_) h1
  obtain ⟨d, rfl, q⟩ := q1
  cases r1
  exact wpAny_truthy_bool ⟨H1, I1, q⟩
theorem pt_val {e : Expr} {t : TE} (h : PE X e t) (he : ∀ whole, isTrue e X.env whole = (do let v ← whole; standAt e.pos; holding [v] (truthy v)) := by intro _; rfl) : PT X e (tB t) := by
  intro pins s σ H Q I hw
  refine isTrue_plain (thn (h pins s σ H _ I hw) fun v s1 ⟨x, H1, I1, r1, q1⟩ => ?_) (he _)
  obtain ⟨d, rfl, q⟩ := q1
  cases r1
  exact wpAny_truthy_bool ⟨H1, I1, q⟩
variable {tA tB' : TT} {rest : List Expr}
def tAnd (t u : TT) : TT := fun σ H Q => t σ H fun c H1 => if c = true then u σ H1 Q else Q false H1
def tOr (t u : TT) : TT := fun σ H Q => t σ H fun c H1 => if c = true then Q true H1 else u σ H1 Q
def tNot (t : TT) : TT := fun σ H Q => t σ H fun c H1 => Q (!c) H1
theorem pw_and1 (ha : PT X a tA) : PW X (.BoolOp .And [a] pos) tA := by
  intro wh pins s σ H Q I h
  refine isTrue_and (thn (ha pins s σ H Q I h) fun c s1 e => ?_)
  cases c with
  | true => exact isTrue_and_nil e
  | false => exact e
theorem pw_or1 (ha : PT X a tA) : PW X (.BoolOp .Or [a] pos) tA := by
  intro wh pins s σ H Q I h
  refine isTrue_or (thn (ha pins s σ H Q I h) fun c s1 e => ?_)
  cases c with
  | false => exact isTrue_or_nil e
  | true => exact e
theorem pw_and (ha : PT X a tA) (hb : PW X (.BoolOp .And (b :: rest) pos) tB') : PW X (.BoolOp .And (a :: b :: rest) pos) (tAnd tA tB') := by
  intro wh pins s σ H Q I h
  refine isTrue_and (thn (ha pins s σ H _ I h) fun c s1 ⟨H1, I1, q1⟩ => ?_)
  cases c with
  | true => exact hb wh pins s1 σ H1 Q I1 q1
  | false => exact ⟨H1, I1, q1⟩
theorem pw_or (ha : PT X a tA) (hb : PW X (.BoolOp .Or (b :: rest) pos) tB') : PW X (.BoolOp .Or (a :: b :: rest) pos) (tOr tA tB') := by
  intro wh pins s σ H Q I h
  refine isTrue_or (thn (ha pins s σ H _ I h) fun c s1 ⟨H1, I1, q1⟩ => ?_)
  cases c with
  | true => exact ⟨H1, I1, q1⟩
  | false => exact hb wh pins s1 σ H1 Q I1 q1
theorem pt_not (ha : PT X a tA) : PT X (.UnaryOp .Not a pos) (tNot tA) := by
  intro pins s σ H Q I h
  exact isTrue_not (ha pins s σ H (fun c H1 => Q (!c) H1) I h)
def tAndV (ta tb : TE) : TE := fun σ H Q => ta σ H fun x H1 => ∃ c, x = .bl c ∧ if c = true then tb σ H1 Q else Q (.bl false) H1
def tOrV (ta tb : TE) : TE := fun σ H Q => ta σ H fun x H1 => ∃ c, x = .bl c ∧ if c = true then Q (.bl true) H1 else tb σ H1 Q
def tNotV (ta : TE) : TE := fun σ H Q => ta σ H fun x H1 => ∃ c, x = .bl c ∧ Q (.bl (!c)) H1
theorem pe_one {op} {t : TE} (h : PE X a t) : PE X (.BoolOp op [a] pos) t := fun pins s σ H Q I hw => BoolOp_one (h pins s σ H Q I hw)
theorem pe_and (ha : PE X a ta) (hb : PE X (.BoolOp .And (b :: rest) pos) tb) : PE X (.BoolOp .And (a :: b :: rest) pos) (tAndV ta tb) := by
  intro pins s σ H Q I h
  refine BoolOp_and (thn (ha pins s σ H _ I h) fun v s1 ⟨x, H1, I1, r1, q1⟩ => ?_)
  obtain ⟨c, rfl, q1⟩ := q1
  cases r1
  refine wpAny_truthy_bool ?_
  cases c with
  | true => exact hb pins s1 σ H1 Q I1 q1
  | false => exact ⟨.bl false, H1, I1, rfl, q1⟩
def tIf (t : TT) (ta tb : TE) : TE := fun σ H Q => t σ H fun c H1 => if c = true then ta σ H1 Q else tb σ H1 Q
end
end L2
namespace L2
open PySem PySem.Spec PyProof.Rows
def SqL (K : PySem.W.Frag) (H : Hp) (a : Addr) (xs : List V) : Prop :=
  Rd H a (.lst xs) ∨
    ∃ (o : Obj) (its : Array Value) (n : Nat), K.lookup a = some o ∧ o.cls = .type "list" ∧ o.dict = none ∧ o.data = .seq its n ∧ its.size ≤ sizeLine ∧ Vals xs its.toList
def SqT (K : PySem.W.Frag) (H : Hp) (a : Addr) (xs : List V) : Prop :=
  Rd H a (.tup xs) ∨
    ∃ (o : Obj) (its : Array Value) (n : Nat), K.lookup a = some o ∧ o.cls = .type "tuple" ∧ o.data = .seq its n ∧ its.size ≤ sizeLine ∧ Vals xs its.toList
def absV : Value → Option V
  | .none => some .non
  | .bool b => some (.bl b)
  | .int i _ => some (.int i)
  | .str x _ => some (.str x)
  | .bytes b _ => some (.byt b)
  | .float b _ => some (.flt b)
  | .ref a => some (.ref a)
  | .type n => some (.ty n)
  | _ => none
theorem RelV.abs {x : V} {u : Value} (r : RelV x u) : absV u = some x := by
  cases x with
  | non => cases r; rfl
  | bl _ => cases r; rfl
  | int _ => obtain ⟨t, rfl⟩ := r; rfl
  | str _ => obtain ⟨t, rfl⟩ := r; rfl
  | byt _ => obtain ⟨t, rfl⟩ := r; rfl
  | flt _ => obtain ⟨t, rfl⟩ := r; rfl
  | ref _ => cases r; rfl
  | ty _ => cases r; rfl
theorem RelV.inj {x y : V} {u : Value} (r : RelV x u) (q : RelV y u) : x = y := Option.some.inj (r.abs.symm.trans q.abs)
theorem Vals.inj : ∀ {xs ys : List V} {us : List Value}, Vals xs us → Vals ys us → xs = ys
  | _, _, _, .nil, .nil => rfl
  | _, _, _, .cons r t, .cons r' t' => by rw [r.inj r', Vals.inj t t']
section
variable {X : Cx} {pins : List (Addr × Obj)} {σ : St} {H : Hp} {s : Shared} {a : Addr} {xs ys : List V}
theorem SqL.of {K : PySem.W.Frag} (h : H a = some (.lst xs)) : SqL K H a xs := .inl (.inl h)
theorem SqT.of {K : PySem.W.Frag} (h : H a = some (.tup xs)) : SqT K H a xs := .inl (.inl h)
theorem Inv.list (I : Inv X pins σ H s) (h : SqL X.K H a xs) : ∃ its : List Value, Vals xs its ∧ PlainL s.heap a its.toArray ∧ xs.length ≤ sizeLine := by
  rcases h with h | ⟨o, its, n, hk, hc, hd, hs, hz, r⟩
  · obtain ⟨z, its, n, r, e⟩ := h.ok I.hok
    exact ⟨its, r, ⟨_, n, e, rfl, rfl, rfl⟩, z⟩
  · refine ⟨its.toList, r, ⟨o, n, I.kIn a o hk, hc, hd, by simpa using hs⟩, ?_⟩
    have e := r.length
    simp only [Array.length_toList] at e
    omega
theorem Inv.tuple (I : Inv X pins σ H s) (h : SqT X.K H a xs) : ∃ its : List Value, Vals xs its ∧ IsTup s.heap a its.toArray ∧ xs.length ≤ sizeLine := by
  rcases h with h | ⟨o, its, n, hk, hc, hs, hz, r⟩
  · obtain ⟨z, its, r, p⟩ := h.ok I.hok
    exact ⟨its, r, p, z⟩
  · refine ⟨its.toList, r, ⟨o, I.kIn a o hk, hc, n, by simpa using hs⟩, ?_⟩
    have e := r.length
    simp only [Array.length_toList] at e
    omega
theorem Inv.list_inj (I : Inv X pins σ H s) (h : SqL X.K H a xs) (h' : SqL X.K H a ys) : xs = ys := by
  obtain ⟨its, r, ⟨o, n, e, _, _, d⟩, _⟩ := I.list h
  obtain ⟨its', r', ⟨o', n', e', _, _, d'⟩, _⟩ := I.list h'
  rw [e] at e'; cases e'
  rw [d] at d'
  injection d' with d1 _
  have : its = its' := by simpa using congrArg Array.toList d1
  subst this
  exact r.inj r'
theorem Inv.tuple_inj (I : Inv X pins σ H s) (h : SqT X.K H a xs) (h' : SqT X.K H a ys) : xs = ys := by
  obtain ⟨its, r, ⟨o, e, _, n, d⟩, _⟩ := I.tuple h
  obtain ⟨its', r', ⟨o', e', _, n', d'⟩, _⟩ := I.tuple h'
  rw [e] at e'; cases e'
  rw [d] at d'
  injection d' with d1 _
  have : its = its' := by simpa using congrArg Array.toList d1
  subst this
  exact r.inj r'
end
abbrev Cx.wish (X : Cx) (E : Value → Shared → Prop) : Cx := { X with xe := E }
abbrev Cx.nox (X : Cx) : Cx := X.wish fun _ _ => False
theorem Cx.Ok.wish {X : Cx} (ok : X.Ok) (E : Value → Shared → Prop) : (X.wish E).Ok :=
  ⟨ok.mod, ok.kind, ok.glob, ok.blt, ok.above, ok.inj, ok.has, ok.cab, ok.hd, ok.frames, ok.stk, ok.exf, ok.bs, ok.bsz, ok.noex, ok.exfs, ok.funs, ok.frf⟩
theorem Cx.Ok.unwish {X : Cx} {E : Value → Shared → Prop} (ok : (X.wish E).Ok) : X.Ok :=
  ⟨ok.mod, ok.kind, ok.glob, ok.blt, ok.above, ok.inj, ok.has, ok.cab, ok.hd, ok.frames, ok.stk, ok.exf, ok.bs, ok.bsz, ok.noex, ok.exfs, ok.funs, ok.frf⟩
section
variable {X : Cx} {pins : List (Addr × Obj)} {σ : St} {H : Hp} {s : Shared} {E : Value → Shared → Prop}
theorem Inv.wish (I : Inv X pins σ H s) (E : Value → Shared → Prop) : Inv (X.wish E) pins σ H s := ⟨I.ok.wish E, I.os, I.bare, I.base, I.loc, I.cell, I.free, I.freeC, I.pin, I.hok, I.len⟩
theorem Inv.unwish (I : Inv (X.wish E) pins σ H s) : Inv X pins σ H s := ⟨I.ok.unwish, I.os, I.bare, I.base, I.loc, I.cell, I.free, I.freeC, I.pin, I.hok, I.len⟩
theorem SP.unwish {D : Ends} {f : Flow} {s' : Shared} (h : SP (X.wish E) pins D f s') : SP X pins D f s' := by
  cases f with
  | next => obtain ⟨σ', H', I, q⟩ := h; exact ⟨σ', H', I.unwish, q⟩
  | brk => obtain ⟨σ', H', I, q⟩ := h; exact ⟨σ', H', I.unwish, q⟩
  | cont => obtain ⟨σ', H', I, q⟩ := h; exact ⟨σ', H', I.unwish, q⟩
  | ret u => obtain ⟨v, σ', H', I, r, q⟩ := h; exact ⟨v, σ', H', I.unwish, r, q⟩
theorem PE.nox {e : Expr} {t : TE} (h : PE X.nox e t) : PE X e t := fun pins s σ H Q I hw =>
  wpAny_mono (h pins s σ H Q (I.wish _) hw) (fun _ _ ⟨v, H', I', r, q⟩ => ⟨v, H', I'.unwish, r, q⟩) fun _ _ z => False.elim z
theorem PT.nox {e : Expr} {t : TT} (h : PT X.nox e t) : PT X e t := fun pins s σ H Q I hw =>
  wpAny_mono (h pins s σ H Q (I.wish _) hw) (fun _ _ ⟨H', I', q⟩ => ⟨H', I'.unwish, q⟩) fun _ _ z => False.elim z
theorem PSs.nox {st : List Stmt} {t : TS} (h : PSs X.nox st t) : PSs X st t := fun pins s σ H D I hw =>
  wpAny_mono (h pins s σ H D (I.wish _) hw) (fun _ _ q => q.unwish) fun _ _ z => False.elim z
end
section
variable {X : Cx} {st : Stmt} {rest : List Stmt} {t u : TS} {e : Expr} {te : TE} {pos : Pos}
def tNext : TS := fun D σ H => D.nx σ H
def tSeq (t u : TS) : TS := fun D σ H => t { D with nx := u D } σ H
theorem pss_nil : PSs X [] tNext := fun _ _ σ H _ I h => wpAny_execs_nil ⟨σ, H, I, h⟩
theorem pss_cons (h1 : PS X st t) (h2 : PSs X rest u) : PSs X (st :: rest) (tSeq t u) := by
  intro pins s σ H D I h
  refine wpAny_execs_cons (thn (h1 pins s σ H { D with nx := u D } I h) fun f s1 q => ?_)
  cases f with
  | next =>
    obtain ⟨σ', H', I', q⟩ := q
    exact h2 pins s1 σ' H' D I' q
  | ret v => exact q
  | brk => exact q
  | cont => exact q
theorem pss_one (h1 : PS X st t) : PSs X [st] t := by
  intro pins s σ H D I h
  refine wpAny_execs_cons (thn (h1 pins s σ H D I h) fun f s1 q => ?_)
  cases f with
  | next => exact wpAny_execs_nil q
  | ret v => exact q
  | brk => exact q
  | cont => exact q
def tBreak : TS := fun D σ H => D.bk σ H
def tCont : TS := fun D σ H => D.ct σ H
theorem Inv.quiet {pins : List (Addr × Obj)} {σ : St} {H : Hp} {s : Shared} (I : Inv X pins σ H s) : interactive X.env = false := by simp [interactive, I.ok.kind]
def tDrop (te : TE) : TS := fun D σ H => te σ H fun _ H1 => D.nx σ H1
theorem ps_expr (he : PE X e te) (hs : swapsWith e none pos.line X.env = pure false := by rfl) : PS X (.Expr e pos) (tDrop te) := by
  intro pins s σ H D I h
  exact wpAny_Expr_any (thn (he pins s σ H _ I h) fun v s1 ⟨x, H1, I1, r1, q1⟩ => ⟨σ, H1, I1, q1⟩) I.quiet hs
def tRet (te : TE) : TS := fun D σ H => te σ H D.rt
theorem ps_ret (he : PE X e te) : PS X (.Return (some e) pos) (tRet te) := by
  intro pins s σ H D I h
  exact wpAny_Return_some (thn (he pins s σ H _ I h) fun v s1 ⟨x, H1, I1, r1, q1⟩ => ⟨x, σ, H1, I1, r1, q1⟩)
def tRetN : TS := fun D _ H => D.rt .non H
def tIfS (c : TT) (t u : TS) : TS := fun D σ H => c σ H fun b H1 => if b = true then t D σ H1 else u D σ H1
theorem ps_if {c : Expr} {a b : List Stmt} {tc : TT} (hc : PT X c tc) (ha : PSs X a t) (hb : PSs X b u) : PS X (.If c a b pos) (tIfS tc t u) := by
  intro pins s σ H D I h
  refine wpAny_If (thn (hc pins s σ H _ I h) fun d s1 ⟨H1, I1, q1⟩ => ?_)
  cases d with
  | true => exact ha pins s1 σ H1 D I1 q1
  | false => exact hb pins s1 σ H1 D I1 q1
def tNever : TS := fun _ _ _ => False
end
abbrev TG := V → St → Hp → (St → Hp → Prop) → Prop
abbrev TGs := List V → St → Hp → (St → Hp → Prop) → Prop
def PG (X : Cx) (target : Expr) (t : TG) : Prop :=
  ∀ (pins : List (Addr × Obj)) (s : Shared) (σ : St) (H : Hp) (v : V) (u : Value) (Q : St → Hp → Prop), Inv X pins σ H s → RelV v u → t v σ H Q →
    wpAny (model X.prog X.w) X.A (assign target X.env u) (fun _ s' => ∃ σ' H', Inv X pins σ' H' s' ∧ Q σ' H') X.xe s
def PGs (X : Cx) (ts : List Expr) (t : TGs) : Prop :=
  ∀ (pins : List (Addr × Obj)) (s : Shared) (σ : St) (H : Hp) (vs : List V) (us : List Value) (Q : St → Hp → Prop), Inv X pins σ H s → Vals vs us → t vs σ H Q →
    wpAny (model X.prog X.w) X.A (assignInOrder ((assignEach ts X.env).map (·.2)) us) (fun _ s' => ∃ σ' H', Inv X pins σ' H' s' ∧ Q σ' H') X.xe s
abbrev TSet := V → V → V → Hp → (Hp → Prop) → Prop
def PSet (X : Cx) (t : TSet) : Prop :=
  ∀ (pins : List (Addr × Obj)) (s : Shared) (σ : St) (H : Hp) (o i v : V) (ov iv u : Value) (Q : Hp → Prop), Inv X pins σ H s → RelV o ov → RelV i iv → RelV v u → t o i v H Q →
    wpAny (model X.prog X.w) X.A (setItem ov iv u) (fun _ s' => ∃ H', Inv X pins σ H' s' ∧ Q H') X.xe s
abbrev TIp := V → V → Hp → VK → Prop
def PIp (X : Cx) (op : Operator) (t : TIp) : Prop :=
  ∀ (pins : List (Addr × Obj)) (s : Shared) (σ : St) (H : Hp) (x y : V) (v u : Value) (Q : VK), Inv X pins σ H s → RelV x v → RelV y u → t x y H Q →
    wpAny (model X.prog X.w) X.A (inplaceOp op v u) (EP X pins σ Q) X.xe s
section
variable {X : Cx} {pos : Pos}
def gName (i : Nat) : TG := fun v σ H Q => Q (σ.set i (some v)) H
theorem pg_name {i : Nat} {x : Str} (hN : X.N.Nodup) (hi : X.N[i]? = some x) (hx : Loc X.env.scope x) (hf : X.fn x = true ∨ X.env.scope.names.lookup x = some .local := by first | exact .inl rfl | exact .inr rfl | assumption) : PG X (.Name x pos) (gName i) := by
  intro pins s σ H v u Q I r h
  exact wpAny_assign_Name (store_ok I hN hi hx r (fun s' I' => ⟨_, H, I', h⟩) hf)
def gNil : TGs := fun vs σ H Q => vs = [] ∧ Q σ H
def gCons (t : TG) (u : TGs) : TGs := fun vs σ H Q => ∃ v r, vs = v :: r ∧ t v σ H fun σ' H' => u r σ' H' Q
theorem pgs_nil : PGs X [] gNil := by
  intro pins s σ H vs us Q I r h
  obtain ⟨e, h⟩ := h
  subst e
  cases r
  exact assignInOrder_nil ⟨σ, H, I, h⟩
theorem pgs_cons {e : Expr} {es : List Expr} {t : TG} {u : TGs} (h1 : PG X e t) (h2 : PGs X es u)
    (hs : (assignEach (e :: es) X.env).map (·.2) = assign e X.env :: (assignEach es X.env).map (·.2) := by rfl) : PGs X (e :: es) (gCons t u) := by
  intro pins s σ H vs us Q I r h
  obtain ⟨v, vr, e1, h⟩ := h
  subst e1
  cases r with
  | cons r rr =>
    rw [hs]
    refine assignInOrder_cons (thn (h1 pins s σ H _ _ _ I r h) fun _ s1 ⟨σ1, H1, I1, q1⟩ => ?_)
    exact h2 pins s1 σ1 H1 _ _ Q I1 rr q1
def gTup (K : PySem.W.Frag) (n : Nat) (t : TGs) : TG := fun v σ H Q => ∃ a xs, v = .ref a ∧ SqT K H a xs ∧ xs.length = n ∧ t xs σ H Q
theorem pg_tup {es : List Expr} {k : Nat} {t : TGs} {n : Nat} (hc : X.calm = true) (h : PGs X es t)
    (hn : (assignEach es X.env).length = n := by rfl) (hst : (assignEach es X.env).findIdx? (·.1) = none := by rfl) : PG X (.Tuple es k pos) (gTup X.K n t) := by
  intro pins s σ H v u Q I r hw
  obtain ⟨a, xs, e1, hq, hl, hw⟩ := hw
  subst e1
  cases r
  obtain ⟨its, rv, ht, hz⟩ := I.tuple hq
  refine assign_Tuple_tuple (I.ok.hd hc) ht (by simp [hn, ← hl, rv.length]) hst fun h' hx => ?_
  have I1 : Inv X pins σ H { s with heap := h' } := I.kept (t' := s.toks) fun b o e => hx b o (Nat.ne_of_lt (Heap.lt_size e)) e
  exact h pins _ σ H xs _ Q I1 (by simpa using rv) hw
def gSub (to ti : TE) (t : TSet) : TG := fun v σ H Q => to σ H fun o H1 => ti σ H1 fun i H2 => t o i v H2 fun H3 => Q σ H3
theorem pg_sub {o i : Expr} {to ti : TE} {t : TSet} (ho : PE X o to) (hi : PE X i ti) (hs : PSet X t)
    (ha : ∀ v, assign (.Subscript o i pos) X.env v = (do
      let ov ← holding [v] (eval o X.env)
      let iv ← holding [v, ov] (eval i X.env)
      standAt pos
      holding [v, ov, iv] (setItem ov iv v)
      release [v, ov, iv] []) := by intro _; rfl) : PG X (.Subscript o i pos) (gSub to ti t) := by
  intro pins s σ H v u Q I r h
  rw [ha]
  refine wpAny_bind (wpAny_holding (thn (ho pins s σ H _ I h) fun ov s1 ⟨x, H1, I1, r1, q1⟩ => ?_))
  refine wpAny_bind (wpAny_holding (thn (hi pins s1 σ H1 _ I1 q1) fun iv s2 ⟨y, H2, I2, r2, q2⟩ => ?_))
  refine wpAny_bind (wpAny_standAt (wpAny_bind (wpAny_holding (thn (hs pins s2 σ H2 x y v ov iv u _ I2 r1 r2 r q2) fun _ s3 ⟨H3, I3, q3⟩ => ?_))))
  exact wpAny_release ⟨σ, H3, I3, q3⟩
def tAsg (te : TE) (g : TG) : TS := fun D σ H => te σ H fun x H1 => g x σ H1 D.nx
theorem ps_asg {tg e : Expr} {te : TE} {g : TG} (he : PE X e te) (hg : PG X tg g) (hs : swapsWithSole [tg] e pos.line X.env = pure false := by rfl) (hw : swappedStores [tg] e X.env = pure none := by rfl)
    (h1 : (assignEach [tg] X.env).map (·.2) = [assign tg X.env] := by rfl) : PS X (.Assign [tg] e pos) (tAsg te g) := by
  intro pins s σ H D I h
  refine wpAny_Assign_stores (thn (he pins s σ H _ I h) fun v s1 ⟨x, H1, I1, r1, q1⟩ => ?_) hs hw
  rw [h1]
  exact thn (hg pins s1 σ H1 x v _ I1 r1 q1) fun _ s2 q => q
theorem ps_set {i : Nat} {x : Str} {e : Expr} {te : TE} {pos' : Pos} (hN : X.N.Nodup) (hi : X.N[i]? = some x) (hx : Loc X.env.scope x) (he : PE X e te) (hs : swapsWith e (some (.Name x pos')) pos.line X.env = pure false := by rfl) (hf : X.fn x = true ∨ X.env.scope.names.lookup x = some .local := by first | exact .inl rfl | exact .inr rfl | assumption) :
    PS X (.Assign [.Name x pos'] e pos) (tAsg te (gName i)) := by
  intro pins s σ H D I h
  refine wpAny_Assign_Name (thn (he pins s σ H _ I h) fun v s1 ⟨y, H1, I1, r1, q1⟩ => ?_) hs
  exact store_ok I1 hN hi hx r1 (fun s2 I2 => ⟨_, H1, I2, q1⟩) hf
def tPar (i j : Nat) (ta : TA) : TS := fun D σ H => ta σ H fun vs H1 => ∃ v w, vs = [v, w] ∧ D.nx ((σ.set i (some v)).set j (some w)) H1
def tAug (i : Nat) (te : TE) (ti : TIp) : TS := fun D σ H => ∃ x, σ[i]? = some (some x) ∧ te σ H fun y H1 => ti x y H1 fun z H2 => D.nx (σ.set i (some z)) H2
def tAugS (to ti te : TE) (tget : V → V → Hp → VK → Prop) (tip : TIp) (tset : TSet) : TS := fun D σ H => to σ H fun o H1 => ti σ H1 fun i H2 => tget o i H2 fun x H3 => te σ H3 fun y H4 => tip x y H4 fun z H5 => tset o i z H5 fun H6 => D.nx σ H6
def PGet (X : Cx) (t : V → V → Hp → VK → Prop) : Prop :=
  ∀ (pins : List (Addr × Obj)) (s : Shared) (σ : St) (H : Hp) (o i : V) (ov iv : Value) (Q : VK), Inv X pins σ H s → RelV o ov → RelV i iv → t o i H Q →
    wpAny (model X.prog X.w) X.A (getItem ov iv) (EP X pins σ Q) X.xe s
def ipI (f : Int → Int → Int) : TIp := fun x y H Q => ∃ i j, x = .int i ∧ y = .int j ∧ Q (.int (f i j)) H
end
section
variable {X : Cx} {pos : Pos}
def tWhile (c : TT) (tb : TS) : TS := fun D σ H => ∃ W : Nat → St → Hp → Prop, (∃ m, W m σ H) ∧ ∀ m σ H, W m σ H →
  c σ H fun b H1 => if b = true then ∃ N : St → Hp → Prop, (∀ σ' H', N σ' H' → ∃ m', m' < m ∧ W m' σ' H') ∧ tb { D with nx := N, ct := N, bk := D.nx } σ H1 else D.nx σ H1
theorem ps_while {c : Expr} {body : List Stmt} {tc : TT} {tb : TS} (hp : PassesOwn (model X.prog X.w) X.A X.env X.xe) (hc : PT X c tc) (hb : PSs X body tb) : PS X (.While c body [] pos) (tWhile tc tb) := by
  intro pins s σ H D I h
  obtain ⟨W, ⟨m0, w0⟩, turn⟩ := h
  refine wpAny_While (codeAny_whileLoop (fun n s' => ∃ σ' H', Inv X pins σ' H' s' ∧ W n σ' H') ?_ m0 ⟨σ, H, I, w0⟩)
  rintro n s1 ⟨σ1, H1, I1, w1⟩
  refine wpAny_passesOwn hp (thn (hc pins s1 σ1 H1 _ I1 (turn n σ1 H1 w1)) fun b s2 ⟨H2, I2, q2⟩ => ?_)
  cases b with
  | true =>
    obtain ⟨N, hN, q2⟩ := q2
    rw [if_pos rfl]
    refine wpAny_passesOwn hp (thn (hb pins s2 σ1 H2 _ I2 q2) fun f s3 q3 => ?_)
    cases f with
    | next =>
      obtain ⟨σ3, H3, I3, n3⟩ := q3
      obtain ⟨m', hm, w3⟩ := hN σ3 H3 n3
      exact ⟨m', hm, σ3, H3, I3, w3⟩
    | cont =>
      obtain ⟨σ3, H3, I3, n3⟩ := q3
      obtain ⟨m', hm, w3⟩ := hN σ3 H3 n3
      exact ⟨m', hm, σ3, H3, I3, w3⟩
    | brk => exact q3
    | ret v => exact q3
  | false =>
    rw [if_neg Bool.false_ne_true]
    exact wpAny_execs_nil ⟨σ1, H2, I2, q2⟩
end
structure It where
  go : Nat → Hp → Prop
  yld : Nat → Hp → V → Hp → Prop
  stop : Nat → Hp → Prop
def FpOk (X : Cx) (pins : List (Addr × Obj)) (H : Hp) (b : Addr) : Prop :=
  H b = none ∧ b ≠ X.env.locals ∧ b ∉ X.fs ∧ (b ∈ X.ex ∨ X.s₀.heap.objs.size ≤ b) ∧ (∀ x c, X.env.cells.lookup x = some c → c ≠ b) ∧ ∀ p ∈ X.pn ++ pins, p.1 ≠ b
theorem Inv.fpOk {X : Cx} {pins : List (Addr × Obj)} {σ : St} {H H' : Hp} {s : Shared} {b : Addr} (I : Inv X pins σ H s) (hb : s.heap.objs.size ≤ b) (hn : H' b = none) : FpOk X pins H' b := by
  refine ⟨hn, Nat.ne_of_gt (Nat.lt_of_lt_of_le I.lt hb), I.nofs hb, .inr (Nat.le_trans I.sz hb), fun x c e z => ?_, fun p hp z => ?_⟩
  · obtain ⟨v, q⟩ := I.cell x c e
    exact absurd (Nat.lt_of_lt_of_le q.lt (by rw [z]; exact hb)) (Nat.lt_irrefl _)
  · exact absurd (Nat.lt_of_lt_of_le (Heap.lt_size (I.pin p hp).1) (by rw [z]; exact hb)) (Nat.lt_irrefl _)
structure Turn (P : Program) (w : World) (K : PySem.W.Frag) (tg : Expr) (J : It) (fp : List Addr) (it : Addr) (tn : Nat → Heap → Prop) : Prop where
  mem : it ∈ fp
  obj : ∀ i h, tn i h → ∀ b ∈ fp, ∃ o, h.get? b = some o ∧ ∀ v, o.data ≠ .cell v
  keep : ∀ i h h', tn i h → (∀ b ∈ fp, ∀ o, h.get? b = some o → h'.get? b = some o) → tn i h'
  item : ∀ (X : Cx), X.prog = P → X.w = w → X.K = K → X.calm = true → ∀ (i : Nat) (pins : List (Addr × Obj)) (s : Shared) (σ : St) (H : Hp) (E : Value → Shared → Prop), Inv X pins σ H s → (∀ b ∈ fp, FpOk X pins H b) → tn i s.heap → J.go i H →
    wpAny (model P w) X.A (pyNext (.ref it)) (fun r s1 => ∃ u, r = some u ∧
      wpAny (model P w) X.A (letOwnedTupleGo tg (.ref it) u) (fun _ s2 => ∃ x H', Inv X pins σ H' s2 ∧ RelV x u ∧ J.yld i H x H' ∧ tn (i + 1) s2.heap ∧ ∀ b ∈ fp, H' b = none) E s1) E s
  done : ∀ (X : Cx), X.prog = P → X.w = w → X.K = K → X.calm = true → ∀ (i : Nat) (pins : List (Addr × Obj)) (s : Shared) (σ : St) (H : Hp) (E : Value → Shared → Prop), Inv X pins σ H s → (∀ b ∈ fp, FpOk X pins H b) → tn i s.heap → J.stop i H →
    wpAny (model P w) X.A (pyNext (.ref it)) (fun r s1 => r = none ∧ Inv X pins σ H s1) E s
  self : ∀ (A : Around) (i : Nat) (s : Shared) (Q : Value → Shared → Prop) (E : Value → Shared → Prop), tn i s.heap → Q (.ref it) s → wpAny (model P w) A (pyIter (.ref it)) Q E s
abbrev TI := St → Hp → (It → Hp → Prop) → Prop
def PIE (X : Cx) (pins : List (Addr × Obj)) (σ : St) (tg : Expr) (R : It → Hp → Prop) (itv : Value) (s2 : Shared) : Prop :=
  ∃ (it : Addr) (fp : List Addr) (tn : Nat → Heap → Prop) (J : It) (H' : Hp), itv = .ref it ∧ Inv X pins σ H' s2 ∧ Turn X.prog X.w X.K tg J fp it tn ∧ tn 0 s2.heap ∧ (∀ b ∈ fp, FpOk X pins H' b) ∧ R J H'
def PI (X : Cx) (tg iter : Expr) (wi : TI) : Prop :=
  ∀ (pins : List (Addr × Obj)) (s : Shared) (σ : St) (H : Hp) (R : It → Hp → Prop), Inv X pins σ H s → wi σ H R →
    wpAny (model X.prog X.w) X.A (eval iter X.env) (fun v s1 => wpAny (model X.prog X.w) X.A (pyIter v) (PIE X pins σ tg R) X.xe s1) X.xe s
theorem go_of {M : Model} {A : Around} {E : Value → Shared → Prop} {s : Shared} {tg : Expr} {it : Addr} {u : Value} {o : Obj} {n : String} {vs : Array Value} {Q : Unit → Shared → Prop} (ho : s.heap.get? it = some o) (hc : o.cls = .type n) (hd : o.data = .fields vs)
    (hn : ["enumerate", "zip", "dict_itemiterator", "dict_reverseitemiterator", "odict_iterator", "itertools.zip_longest", "itertools.pairwise"].contains n = false) (hQ : Q () s) : wpAny M A (letOwnedTupleGo tg (.ref it) u) Q E s := by
  unfold letOwnedTupleGo
  cases tg <;> first
    | exact wpAny_pure hQ
    | (cases u <;> first
        | exact wpAny_pure hQ
        | (refine wpAny_bind (wpAny_load ho ?_)
           rw [hc, hd]
           show wpAny M A (if (["enumerate", "zip", "dict_itemiterator", "dict_reverseitemiterator", "odict_iterator", "itertools.zip_longest", "itertools.pairwise"].contains n && vs[0]? == some (rawInt _)) = true then _ else _) Q E s
           rw [if_neg (by intro h; rw [hn, Bool.false_and] at h; cases h)]
           exact wpAny_pure hQ))
def Itl (K : PySem.W.Frag) (a : Addr) : It :=
  ⟨fun i H => ∃ xs x, SqL K H a xs ∧ xs[i]? = some x, fun i H x H' => H' = H ∧ ∀ xs, SqL K H a xs → xs[i]? = some x, fun i H => ∃ xs, SqL K H a xs ∧ xs.length ≤ i⟩
def Itt (K : PySem.W.Frag) (a : Addr) : It :=
  ⟨fun i H => ∃ xs x, SqT K H a xs ∧ xs[i]? = some x, fun i H x H' => H' = H ∧ ∀ xs, SqT K H a xs → xs[i]? = some x, fun i H => ∃ xs, SqT K H a xs ∧ xs.length ≤ i⟩
def Itr (lo : Int) (n : Nat) : It := ⟨fun i _ => i < n, fun i H x H' => H' = H ∧ x = .int (lo + i), fun i _ => n ≤ i⟩
theorem turn_list {P : Program} {w : World} {K : PySem.W.Frag} {tg : Expr} (a it : Addr) : Turn P w K tg (Itl K a) [it] it (fun i h => h.IsListIter it a i) where
  mem := by simp
  obj := fun i h st b hb => by
    have e : b = it := by simpa using hb
    subst e
    obtain ⟨o, e, c, d⟩ := st
    exact ⟨o, e, fun v z => by rw [d] at z; cases z⟩
  keep := fun i h h' st k => st.at fun o e => k it (by simp) o e
  item := by
    intro X hP hw hK hc i pins s σ H E I hf st hg
    subst hP hw hK
    obtain ⟨xs, x, hq, hx⟩ := hg
    obtain ⟨its, rv, p, hz⟩ := I.list hq
    obtain ⟨u, hu, ru⟩ := rv.get hx
    obtain ⟨f0, f1, f2, f3, f4, f5⟩ := hf it (by simp)
    refine wpAny_pyNext_list_item st p.isList (x := u) (by simpa using hu) fun h' st' sb => ?_
    have I1 : Inv X pins σ H { s with heap := h' } := I.turned (t' := s.toks) (fun b o hb e => (sb.2 b hb).trans e) f0 f1 f3 f4 f5
    obtain ⟨o, e, c, d⟩ := id st'
    exact ⟨u, rfl, go_of (s := { s with heap := h' }) e c d (by decide) ⟨x, H, I1, ru, ⟨rfl, fun ys hy => by rw [I.list_inj hy hq]; exact hx⟩, st', fun b hb => (hf b hb).1⟩⟩
  done := by
    intro X hP hw hK hc i pins s σ H E I hf st hg
    subst hP hw hK
    obtain ⟨xs, hq, hx⟩ := hg
    obtain ⟨its, rv, p, hz⟩ := I.list hq
    obtain ⟨f0, f1, f2, f3, f4, f5⟩ := hf it (by simp)
    have hl := rv.length
    exact wpAny_pyNext_list_end (I.ok.hd hc) st p.isList (by simp; omega) fun h' eb => ⟨rfl, I.turned (t' := s.toks) (fun b o hb e => eb b o hb e) f0 f1 f3 f4 f5⟩
  self := fun _ _ _ _ _ st h => wpAny_pyIter_listiter st h
theorem turn_tuple {P : Program} {w : World} {K : PySem.W.Frag} {tg : Expr} (a it : Addr) : Turn P w K tg (Itt K a) [it] it (fun i h => h.IsTupleIter it a i) where
  mem := by simp
  obj := fun i h st b hb => by
    have e : b = it := by simpa using hb
    subst e
    obtain ⟨o, e, c, d⟩ := st
    exact ⟨o, e, fun v z => by rw [d] at z; cases z⟩
  keep := fun i h h' st k => st.at fun o e => k it (by simp) o e
  item := by
    intro X hP hw hK hc i pins s σ H E I hf st hg
    subst hP hw hK
    obtain ⟨xs, x, hq, hx⟩ := hg
    obtain ⟨its, rv, p, hz⟩ := I.tuple hq
    obtain ⟨u, hu, ru⟩ := rv.get hx
    obtain ⟨f0, f1, f2, f3, f4, f5⟩ := hf it (by simp)
    refine wpAny_pyNext_tuple_item st (show s.heap.IsTuple a its.toArray from p) (x := u) (by simpa using hu) fun h' st' sb => ?_
    have I1 : Inv X pins σ H { s with heap := h' } := I.turned (t' := s.toks) (fun b o hb e => (sb.2 b hb).trans e) f0 f1 f3 f4 f5
    obtain ⟨o, e, c, d⟩ := id st'
    exact ⟨u, rfl, go_of (s := { s with heap := h' }) e c d (by decide) ⟨x, H, I1, ru, ⟨rfl, fun ys hy => by rw [I.tuple_inj hy hq]; exact hx⟩, st', fun b hb => (hf b hb).1⟩⟩
  done := by
    intro X hP hw hK hc i pins s σ H E I hf st hg
    subst hP hw hK
    obtain ⟨xs, hq, hx⟩ := hg
    obtain ⟨its, rv, p, hz⟩ := I.tuple hq
    obtain ⟨f0, f1, f2, f3, f4, f5⟩ := hf it (by simp)
    have hl := rv.length
    exact wpAny_pyNext_tuple_end (I.ok.hd hc) st (show s.heap.IsTuple a its.toArray from p) (by simp; omega) fun h' eb => ⟨rfl, I.turned (t' := s.toks) (fun b o hb e => eb b o hb e) f0 f1 f3 f4 f5⟩
  self := fun _ _ _ _ _ st h => wpAny_pyIter_tupleiter st h
theorem turn_range {P : Program} {w : World} {K : PySem.W.Frag} {tg : Expr} (it : Addr) (lo : Int) (n : Nat) : Turn P w K tg (Itr lo n) [it] it (fun i h => IsRangeIter h it (lo + (i : Nat) * 1) ((n : Int) - (i : Nat)) 1) where
  mem := by simp
  obj := fun i h st b hb => by
    have e : b = it := by simpa using hb
    subst e
    exact ⟨_, st, fun v z => by
      have z' : Data.fields _ = Data.cell v := z
      cases z'⟩
  keep := fun i h h' st k => k it (by simp) _ st
  item := by
    intro X hP hw hK hc i pins s σ H E I hf st hg
    subst hP hw hK
    obtain ⟨f0, f1, f2, f3, f4, f5⟩ := hf it (by simp)
    have W := Walks.range (prog := X.prog) (w := X.w) (I.ok.hd hc) it lo 1 n
    refine W.item i s _ _ hg st fun v h' tk hv st' kk => ?_
    obtain ⟨t, rfl⟩ := hv
    have I1 : Inv X pins σ H { s with heap := h', toks := tk } := I.turned (fun b o hb e => kk b o (by simpa using hb) e) f0 f1 f3 f4 f5
    refine ⟨_, rfl, go_of (s := { s with heap := h', toks := tk }) (n := "range_iterator") st' rfl rfl (by decide) ⟨.int (lo + i), H, I1, ⟨t, ?_⟩, ⟨rfl, rfl⟩, st', fun b hb => (hf b hb).1⟩⟩
    rw [Int.mul_one]
  done := by
    intro X hP hw hK hc i pins s σ H E I hf st hg
    subst hP hw hK
    obtain ⟨f0, f1, f2, f3, f4, f5⟩ := hf it (by simp)
    exact wpAny_pyNext_range_end (I.ok.hd hc) st (by have : n ≤ i := hg; omega) fun h' eb => ⟨rfl, I.turned (t' := s.toks) (fun b o hb e => eb b o hb e) f0 f1 f3 f4 f5⟩
  self := fun _ _ _ _ _ st h => wpAny_pyIter_rangeiter st h
end L2
namespace L2
open PySem PySem.Spec PyProof.Rows
section
variable {X : Cx} {tg : Expr}
def iList (K : PySem.W.Frag) (tl : TE) : TI := fun σ H R => tl σ H fun x H1 => ∃ a, x = .ref a ∧ (∃ xs, SqL K H1 a xs) ∧ R (Itl K a) H1
def iTup (K : PySem.W.Frag) (tl : TE) : TI := fun σ H R => tl σ H fun x H1 => ∃ a, x = .ref a ∧ (∃ xs, SqT K H1 a xs) ∧ R (Itt K a) H1
theorem pi_list {l : Expr} {tl : TE} (hl : PE X l tl) : PI X tg l (iList X.K tl) := by
  intro pins s σ H R I h
  refine thn (hl pins s σ H _ I h) fun v s1 ⟨x, H1, I1, r1, q1⟩ => ?_
  obtain ⟨a, e, ⟨xs, hq⟩, q⟩ := q1
  subst e
  cases r1
  obtain ⟨its, rv, p, hz⟩ := I1.list hq
  refine wpAny_pyIter_list p.isList ?_
  refine ⟨s1.heap.objs.size, [s1.heap.objs.size], _, _, H1, rfl, I1.kept (t' := s1.toks) fun b o e => Heap.get?_push_of_some _ e, turn_list a _, ⟨_, Heap.get?_push_size _ rfl, rfl, rfl⟩, fun b hb => ?_, q⟩
  have e : b = s1.heap.objs.size := by simpa using hb
  subst e
  exact I1.fpOk (Nat.le_refl _) (I1.hok.fresh (Nat.le_refl _))
theorem pi_tup {l : Expr} {tl : TE} (hl : PE X l tl) : PI X tg l (iTup X.K tl) := by
  intro pins s σ H R I h
  refine thn (hl pins s σ H _ I h) fun v s1 ⟨x, H1, I1, r1, q1⟩ => ?_
  obtain ⟨a, e, ⟨xs, hq⟩, q⟩ := q1
  subst e
  cases r1
  obtain ⟨its, rv, p, hz⟩ := I1.tuple hq
  refine wpAny_pyIter_tuple (show s1.heap.IsTuple a its.toArray from p) ?_
  refine ⟨s1.heap.objs.size, [s1.heap.objs.size], _, _, H1, rfl, I1.kept (t' := s1.toks) fun b o e => Heap.get?_push_of_some _ e, turn_tuple a _, ⟨_, Heap.get?_push_size _ rfl, rfl, rfl⟩, fun b hb => ?_, q⟩
  have e : b = s1.heap.objs.size := by simpa using hb
  subst e
  exact I1.fpOk (Nat.le_refl _) (I1.hok.fresh (Nat.le_refl _))
theorem range_it {pins : List (Addr × Obj)} {σ : St} {H : Hp} {s : Shared} {R : It → Hp → Prop} {E : Value → Shared → Prop} {lo hi : Int} {t u v : Tok} {tk : Nat} (I : Inv X pins σ H s) (h1 : -(2 ^ 62) ≤ lo) (h2 : lo < 2 ^ 62) (h3 : -(2 ^ 62) ≤ hi) (h4 : hi < 2 ^ 62)
    (q : R (Itr lo (hi - lo).toNat) H) : wpAny (model X.prog X.w) X.A (pyIter (.ref s.heap.objs.size)) (PIE X pins σ tg R) E { s with heap := s.heap.push { cls := .type "range", data := .fields #[.int lo t, .int hi u, .int 1 v] }, toks := tk } := by
  refine wpAny_pyIter_range (IsRange.new ..) (small_one h1 h2 h3 h4) ?_
  have I1 : Inv X pins σ H { s with heap := s.heap.push { cls := .type "range", data := .fields #[.int lo t, .int hi u, .int 1 v] }, toks := tk } := I.kept fun b o e => Heap.get?_push_of_some _ e
  refine ⟨(s.heap.push { cls := .type "range", data := .fields #[.int lo t, .int hi u, .int 1 v] }).objs.size, [(s.heap.push { cls := .type "range", data := .fields #[.int lo t, .int hi u, .int 1 v] }).objs.size], _, _, H, rfl,
    I1.kept (t' := tk) fun b o e => Heap.get?_push_of_some _ e, turn_range _ lo (hi - lo).toNat, ?_, fun b hb => ?_, q⟩
  · have e1 : lo + ((0 : Nat) : Int) * 1 = lo := by simp
    have e2 : (((hi - lo).toNat : Nat) : Int) - ((0 : Nat) : Int) = Builtin.Range.rangeSize lo hi 1 := by rw [rangeSize_one]; split <;> omega
    show IsRangeIter _ _ (lo + ((0 : Nat) : Int) * 1) ((((hi - lo).toNat : Nat) : Int) - ((0 : Nat) : Int)) 1
    rw [e1, e2]
    exact Heap.get?_push_size _ rfl
  · have e : b = (s.heap.push { cls := .type "range", data := .fields #[.int lo t, .int hi u, .int 1 v] }).objs.size := by simpa using hb
    subst e
    exact I1.fpOk (Nat.le_refl _) (I1.hok.fresh (Nat.le_refl _))
def iRng1 (ta : TA) : TI := fun σ H R => ta σ H fun vs H1 => ∃ j : Int, vs = [.int j] ∧ -(2 ^ 62) ≤ j ∧ j < 2 ^ 62 ∧ R (Itr 0 j.toNat) H1
def iRng2 (ta : TA) : TI := fun σ H R => ta σ H fun vs H1 => ∃ i j : Int, vs = [.int i, .int j] ∧ (-(2 ^ 62) ≤ i ∧ i < 2 ^ 62 ∧ -(2 ^ 62) ≤ j ∧ j < 2 ^ 62) ∧ R (Itr i (j - i).toNat) H1
theorem pi_range1 {a : Expr} {ta : TA} {p pos : Pos} (hg : Gl X "range") (hm : X.mg "range" = none) (ha : PA X [a] ta) (hs : starEach [a] X.env = [(false, eval a X.env)] := by rfl) : PI X tg (.Call (.Name "range" p) [a] [] pos) (iRng1 ta) := by
  intro pins s σ H R I h
  refine Call_ (ld_blt I hg hm boot_range (PyProof.Rows.callWith_type1 (thn (ha pos pins s σ H _ I h) fun us s1 ⟨vs, H1, I1, r1, q1⟩ => ?_) hs rfl))
  obtain ⟨j, e, q1, q2, q⟩ := q1
  subst e
  cases r1 with
  | cons r rr =>
    cases rr
    obtain ⟨t, rfl⟩ := r
    exact call_range_1 (range_it I1 (by omega) (by omega) q1 q2 (by simpa using q))
def tFor (wi : TI) (g : TG) (tb : TS) : TS := fun D σ H => wi σ H fun J H1 => ∃ W : Nat → Nat → St → Hp → Prop, (∃ m, W 0 m σ H1) ∧ ∀ i m σ H, W i m σ H →
  (J.stop i H ∧ D.nx σ H) ∨ (J.go i H ∧ ∃ N : St → Hp → Prop, (∀ σ' H', N σ' H' → ∃ m', m' < m ∧ W (i + 1) m' σ' H') ∧ ∀ x H', J.yld i H x H' → g x σ H' fun σ2 H2 => tb { D with nx := N, ct := N, bk := D.nx } σ2 H2)
def pinsAt (fp : List Addr) (h : Heap) : List (Addr × Obj) := fp.filterMap fun b => (h.get? b).map fun o => (b, o)
theorem mem_pinsAt {fp : List Addr} {h : Heap} {b : Addr} {o : Obj} (hb : b ∈ fp) (e : h.get? b = some o) : (b, o) ∈ pinsAt fp h := List.mem_filterMap.mpr ⟨b, hb, by rw [e]; rfl⟩
theorem of_pinsAt {fp : List Addr} {h : Heap} {p : Addr × Obj} (hp : p ∈ pinsAt fp h) : p.1 ∈ fp ∧ h.get? p.1 = some p.2 := by
  obtain ⟨b, hb, e⟩ := List.mem_filterMap.mp hp
  cases q : h.get? b with
  | none => rw [q] at e; cases e
  | some o =>
    rw [q] at e
    have e' : (b, o) = p := Option.some.inj e
    subst e'
    exact ⟨hb, q⟩
theorem Inv.pinned {pins : List (Addr × Obj)} {σ : St} {H : Hp} {s : Shared} {fp : List Addr} (I : Inv X pins σ H s) (hf : ∀ b ∈ fp, FpOk X pins H b) (ho : ∀ b ∈ fp, ∃ o, s.heap.get? b = some o ∧ ∀ v, o.data ≠ .cell v) : Inv X (pins ++ pinsAt fp s.heap) σ H s :=
  I.pins_of fun p hp => (List.mem_append.mp hp).elim (fun z => I.pin p (List.mem_append_right _ z)) fun z => by
    obtain ⟨hb, e⟩ := of_pinsAt z
    obtain ⟨f0, f1, f2, _⟩ := hf p.1 hb
    obtain ⟨o, e', d⟩ := ho p.1 hb
    rw [e] at e'; cases e'
    exact ⟨e, f0, f1, f2, d⟩
theorem Inv.unpinned {pins pl : List (Addr × Obj)} {σ : St} {H : Hp} {s : Shared} (I : Inv X (pins ++ pl) σ H s) : Inv X pins σ H s := I.pins_of fun p hp => I.pin p (List.mem_append_right _ (List.mem_append_left _ hp))
theorem ps_for {iter : Expr} {body : List Stmt} {wi : TI} {g : TG} {tb : TS} {pos : Pos} (hp : PassesOwn (model X.prog X.w) X.A X.env X.xe) (hc : X.calm = true) (hi : PI X tg iter wi) (hg : PG X tg g) (hb : PSs X body tb)
    (hs : ∀ x, foldedSetIterable iter X.env x = pure x := by intro _; rfl) : PS X (.For tg iter body [] pos) (tFor wi g tb) := by
  intro pins s σ H D I h
  refine wpAny_For (thn (hi pins s σ H _ I h) fun v s1 h1 => thn h1 fun itv s2 h2 => ?_) hs
  obtain ⟨it, fp, tn, J, H2, e, I2, T, st2, f2, W, ⟨m0, w0⟩, turn⟩ := h2
  subst e
  -- what stays true of the iterator's objects through the loop
  have stat : ∀ {H' : Hp}, (∀ b ∈ fp, H' b = none) → ∀ b ∈ fp, FpOk X pins H' b := fun hn b hb => ⟨hn b hb, (f2 b hb).2⟩
  refine codeAny_forLoop_any (fun n s' => ∃ i σ' H', Inv X pins σ' H' s' ∧ tn i s'.heap ∧ (∀ b ∈ fp, H' b = none) ∧ W i n σ' H') ?_ m0 ⟨0, σ, H2, I2, st2, fun b hb => (f2 b hb).1, w0⟩
  rintro n s3 ⟨i, σ3, H3, I3, st3, fr3, w3⟩
  rcases turn i n σ3 H3 w3 with ⟨stop, qn⟩ | ⟨go, N, hN, step⟩
  · refine wpAny_passesOwn hp (thn (T.done X rfl rfl rfl hc i pins s3 σ3 H3 X.xe I3 (stat fr3) st3 stop) fun r s4 ⟨hr, I4⟩ => ?_)
    subst hr
    exact wpAny_execs_nil ⟨σ3, H3, I4, qn⟩
  · refine wpAny_passesOwn hp (thn (T.item X rfl rfl rfl hc i pins s3 σ3 H3 X.xe I3 (stat fr3) st3 go) fun r s4 ⟨u, hr, h4⟩ => ?_)
    subst hr
    refine wpAny_passesOwn hp (thn h4 fun _ s5 ⟨x, H5, I5, r5, y5, st5, fr5⟩ => ?_)
    have I5' := I5.pinned (stat fr5) (T.obj _ _ st5)
    refine wpAny_passesOwn hp (thn (hg _ s5 σ3 H5 x u _ I5' r5 (step x H5 y5)) fun _ s6 ⟨σ6, H6, I6, q6⟩ => ?_)
    refine wpAny_passesOwn hp (thn (hb _ s6 σ6 H6 _ I6 q6) fun f s7 q7 => ?_)
    have again : ∀ {σ7 : St} {H7 : Hp}, Inv X (pins ++ pinsAt fp s5.heap) σ7 H7 s7 → N σ7 H7 → ∃ m, m < n ∧ ∃ i σ' H', Inv X pins σ' H' s7 ∧ tn i s7.heap ∧ (∀ b ∈ fp, H' b = none) ∧ W i m σ' H' := fun {σ7 H7} I7 n7 => by
      obtain ⟨m', hm, w7⟩ := hN σ7 H7 n7
      refine ⟨m', hm, i + 1, σ7, H7, I7.unpinned, T.keep _ _ _ st5 fun b hb o e => (I7.pin (b, o) (List.mem_append_right _ (List.mem_append_right _ (mem_pinsAt hb e)))).1, fun b hb => ?_, w7⟩
      obtain ⟨o, e, d⟩ := T.obj _ _ st5 b hb
      exact (I7.pin (b, o) (List.mem_append_right _ (List.mem_append_right _ (mem_pinsAt hb e)))).2.1
    cases f with
    | next => obtain ⟨σ7, H7, I7, n7⟩ := q7; exact again I7 n7
    | cont => obtain ⟨σ7, H7, I7, n7⟩ := q7; exact again I7 n7
    | brk => obtain ⟨σ7, H7, I7, q7⟩ := q7; exact ⟨σ7, H7, I7.unpinned, q7⟩
    | ret v => obtain ⟨x7, σ7, H7, I7, r7, q7⟩ := q7; exact ⟨x7, σ7, H7, I7.unpinned, r7, q7⟩
end
theorem for_list {K : PySem.W.Frag} {a : Addr} {xs : List V} {g : TG} {tb : TS} {D : Ends} {σ : St} {H : Hp} (Pv : Nat → St → Hp → Prop) (h0 : Pv 0 σ H) (hl : ∀ i σ H, i ≤ xs.length → Pv i σ H → SqL K H a xs)
    (hs : ∀ i x σ H, xs[i]? = some x → Pv i σ H → g x σ H fun σ2 H2 => tb { D with nx := Pv (i + 1), ct := Pv (i + 1), bk := D.nx } σ2 H2) (hd : ∀ σ H, Pv xs.length σ H → D.nx σ H) :
    ∃ W : Nat → Nat → St → Hp → Prop, (∃ m, W 0 m σ H) ∧ ∀ i m σ H, W i m σ H →
      ((Itl K a).stop i H ∧ D.nx σ H) ∨ ((Itl K a).go i H ∧ ∃ N : St → Hp → Prop, (∀ σ' H', N σ' H' → ∃ m', m' < m ∧ W (i + 1) m' σ' H') ∧ ∀ x H', (Itl K a).yld i H x H' → g x σ H' fun σ2 H2 => tb { D with nx := N, ct := N, bk := D.nx } σ2 H2) := by
  refine ⟨fun i m σ H => m = xs.length - i ∧ i ≤ xs.length ∧ Pv i σ H, ⟨xs.length, by simp, Nat.zero_le _, h0⟩, ?_⟩
  rintro i m σ H ⟨rfl, hi, p⟩
  have q := hl i σ H hi p
  by_cases hlt : i < xs.length
  · refine .inr ⟨⟨xs, xs[i], q, by simp [hlt]⟩, Pv (i + 1), fun σ' H' p' => ⟨xs.length - (i + 1), by omega, rfl, hlt, p'⟩, fun x H' y => ?_⟩
    obtain ⟨e, y⟩ := y
    subst e
    exact hs i x σ _ (y xs q) p
  · have e : i = xs.length := by omega
    subst e
    exact .inl ⟨⟨xs, q, Nat.le_refl _⟩, hd σ H p⟩
theorem for_range {lo : Int} {n : Nat} {g : TG} {tb : TS} {D : Ends} {σ : St} {H : Hp} (Pv : Nat → St → Hp → Prop) (h0 : Pv 0 σ H)
    (hs : ∀ i σ H, i < n → Pv i σ H → g (.int (lo + i)) σ H fun σ2 H2 => tb { D with nx := Pv (i + 1), ct := Pv (i + 1), bk := D.nx } σ2 H2) (hd : ∀ σ H, Pv n σ H → D.nx σ H) :
    ∃ W : Nat → Nat → St → Hp → Prop, (∃ m, W 0 m σ H) ∧ ∀ i m σ H, W i m σ H →
      ((Itr lo n).stop i H ∧ D.nx σ H) ∨ ((Itr lo n).go i H ∧ ∃ N : St → Hp → Prop, (∀ σ' H', N σ' H' → ∃ m', m' < m ∧ W (i + 1) m' σ' H') ∧ ∀ x H', (Itr lo n).yld i H x H' → g x σ H' fun σ2 H2 => tb { D with nx := N, ct := N, bk := D.nx } σ2 H2) := by
  refine ⟨fun i m σ H => m = n - i ∧ i ≤ n ∧ Pv i σ H, ⟨n, by simp, Nat.zero_le _, h0⟩, ?_⟩
  rintro i m σ H ⟨rfl, hi, p⟩
  by_cases hlt : i < n
  · refine .inr ⟨hlt, Pv (i + 1), fun σ' H' p' => ⟨n - (i + 1), by omega, rfl, hlt, p'⟩, fun x H' y => ?_⟩
    obtain ⟨e, y⟩ := y
    subst e y
    exact hs i σ _ hlt p
  · have e : i = n := by omega
    subst e
    exact .inl ⟨Nat.le_refl _, hd σ H p⟩
end L2
namespace L2
open PySem PySem.Spec PyProof.Rows
abbrev R2 := V → V → Hp → VK → Prop
def OpR (X : Cx) (f : Value → Value → Sem Value) (r : R2) : Prop :=
  ∀ (pins : List (Addr × Obj)) (s : Shared) (σ : St) (H : Hp) (x y : V) (v u : Value) (Q : VK), Inv X pins σ H s → RelV x v → RelV y u → r x y H Q →
    wpAny (model X.prog X.w) X.A (f v u) (EP X pins σ Q) X.xe s
def UnR (X : Cx) (f : Value → Sem Value) (r : V → Hp → VK → Prop) : Prop :=
  ∀ (pins : List (Addr × Obj)) (s : Shared) (σ : St) (H : Hp) (x : V) (v : Value) (Q : VK), Inv X pins σ H s → RelV x v → r x H Q →
    wpAny (model X.prog X.w) X.A (f v) (EP X pins σ Q) X.xe s
def CallR (X : Cx) (f : Value) (r : List V → Hp → VK → Prop) : Prop :=
  ∀ (pins : List (Addr × Obj)) (s : Shared) (σ : St) (H : Hp) (xs : List V) (us : List Value) (Q : VK), Inv X pins σ H s → Vals xs us → r xs H Q →
    wpAny (model X.prog X.w) X.A (call f us) (EP X pins σ Q) X.xe s
def TruR (X : Cx) (r : V → Hp → (Bool → Hp → Prop) → Prop) : Prop :=
  ∀ (pins : List (Addr × Obj)) (s : Shared) (σ : St) (H : Hp) (x : V) (v : Value) (Q : Bool → Hp → Prop), Inv X pins σ H s → RelV x v → r x H Q →
    wpAny (model X.prog X.w) X.A (truthy v) (TP X pins σ Q) X.xe s
def tOp (r : R2) (ta tb : TE) : TE := fun σ H Q => ta σ H fun x H1 => tb σ H1 fun y H2 => r x y H2 Q
def tUn (r : V → Hp → VK → Prop) (ta : TE) : TE := fun σ H Q => ta σ H fun x H1 => r x H1 Q
def rI (C : Int → Int → Prop) (g : Int → Int → V) : R2 := fun x y H Q => ∃ i j, x = .int i ∧ y = .int j ∧ C i j ∧ Q (g i j) H
def rI0 (g : Int → Int → V) : R2 := fun x y H Q => ∃ i j, x = .int i ∧ y = .int j ∧ Q (g i j) H
def rU (g : Int → V) : V → Hp → VK → Prop := fun x H Q => ∃ i, x = .int i ∧ Q (g i) H
section
variable {X : Cx} {a b c : Expr} {ta tb tc : TE} {pos : Pos}
theorem binT (ha : PE X a ta) (hb : PE X b tb) {pins : List (Addr × Obj)} {s : Shared} {σ : St} {H : Hp} {R : V → V → Hp → Prop} (I : Inv X pins σ H s)
    (h : ta σ H fun x H1 => tb σ H1 fun y H2 => R x y H2) {Q : Value → Shared → Prop} {f : Value → Value → Sem Value}
    (hf : ∀ v u s2 x y H2, Inv X pins σ H2 s2 → RelV x v → RelV y u → R x y H2 → wpAny (model X.prog X.w) X.A (f v u) Q X.xe s2) :
    wpAny (model X.prog X.w) X.A (eval a X.env) (fun v s₁ => wpAny (model X.prog X.w) X.A (eval b X.env) (fun u s₂ => wpAny (model X.prog X.w) X.A (f v u) Q X.xe s₂) X.xe s₁) X.xe s := by
  refine thn (ha pins s σ H _ I h) fun v s1 ⟨x, H1, I1, r1, q1⟩ => ?_
  refine thn (hb pins s1 σ H1 _ I1 q1) fun u s2 ⟨y, H2, I2, r2, q2⟩ => ?_
  exact hf v u s2 x y H2 I2 r1 r2 q2
theorem pe_op {op : Operator} {r : R2} (ho : OpR X (binaryOp op) r) (ha : PE X a ta) (hb : PE X b tb) : PE X (.BinOp a op b pos) (tOp r ta tb) := by
  intro pins s σ H Q I h
  exact wpAny_BinOp (binT ha hb I h fun v u s2 x y H2 I2 rx ry q => ho pins s2 σ H2 x y v u Q I2 rx ry q)
theorem opI {f : Value → Value → Sem Value} {C : Int → Int → Prop} {g : Int → Int → Int}
    (rule : ∀ (i j : Int) (t u : Tok) (s : Shared) (Q : Value → Shared → Prop) (E : Value → Shared → Prop), C i j → Q (.int (g i j) s.toks) { s with toks := s.toks + 1 } → wpAny (model X.prog X.w) X.A (f (.int i t) (.int j u)) Q E s) :
    OpR X f (rI C fun i j => .int (g i j)) := by
  intro pins s σ H x y v u Q I rx ry h
  obtain ⟨i, j, rfl, rfl, hc, q⟩ := h
  obtain ⟨t, rfl⟩ := rx
  obtain ⟨t', rfl⟩ := ry
  exact rule i j t t' s _ _ hc ⟨.int (g i j), H, I.tok _, ⟨_, rfl⟩, q⟩
theorem opI0 {f : Value → Value → Sem Value} {g : Int → Int → Int}
    (rule : ∀ (i j : Int) (t u : Tok) (s : Shared) (Q : Value → Shared → Prop) (E : Value → Shared → Prop), Q (.int (g i j) s.toks) { s with toks := s.toks + 1 } → wpAny (model X.prog X.w) X.A (f (.int i t) (.int j u)) Q E s) :
    OpR X f (rI0 fun i j => .int (g i j)) := by
  intro pins s σ H x y v u Q I rx ry h
  obtain ⟨i, j, rfl, rfl, q⟩ := h
  obtain ⟨t, rfl⟩ := rx
  obtain ⟨t', rfl⟩ := ry
  exact rule i j t t' s _ _ ⟨.int (g i j), H, I.tok _, ⟨_, rfl⟩, q⟩
theorem opB0 {f : Value → Value → Sem Value} {g : Int → Int → Bool}
    (rule : ∀ (i j : Int) (t u : Tok) (s : Shared) (Q : Value → Shared → Prop) (E : Value → Shared → Prop), Q (.bool (g i j)) s → wpAny (model X.prog X.w) X.A (f (.int i t) (.int j u)) Q E s) :
    OpR X f (rI0 fun i j => .bl (g i j)) := by
  intro pins s σ H x y v u Q I rx ry h
  obtain ⟨i, j, rfl, rfl, q⟩ := h
  obtain ⟨t, rfl⟩ := rx
  obtain ⟨t', rfl⟩ := ry
  exact rule i j t t' s _ _ ⟨.bl (g i j), H, I, rfl, q⟩
def CDiv (i j : Int) : Prop := 0 < j ∧ j < 1073741824
def CDivN (i j : Int) : Prop := j ≠ 0 ∧ j.natAbs < 1073741824
def CPow (i j : Int) : Prop := 0 ≤ j ∧ j ≤ 1000000 ∧ i.natAbs < 2 ^ 64
def CMul (i j : Int) : Prop := (-(2 ^ 64) < i ∧ i < 2 ^ 64) ∨ (-(2 ^ 64) < j ∧ j < 2 ^ 64)
theorem CMul.ok {i j : Int} (h : CMul i j) : IntMulOk i j := by
  rcases h with ⟨h1, h2⟩ | ⟨h1, h2⟩
  · exact .of_left (intBits_le_64 h1 h2)
  · exact .of_right (intBits_le_64 h1 h2)
theorem op_add : OpR X (binaryOp .Add) (rI0 fun i j => .int (i + j)) := opI0 fun _ _ _ _ _ _ _ q => add_int q
theorem op_sub : OpR X (binaryOp .Sub) (rI0 fun i j => .int (i - j)) := opI0 fun _ _ _ _ _ _ _ q => sub_int q
theorem op_mul : OpR X (binaryOp .Mult) (rI CMul fun i j => .int (i * j)) := opI fun _ _ _ _ _ _ _ hc q => mul_int q hc.ok
theorem op_fdiv : OpR X (binaryOp .FloorDiv) (rI CDiv fun i j => .int (i / j)) := opI fun i j _ _ _ _ _ hc q => by
  have h1 : (0 : Int) < j := hc.1
  have h2 : j < 1073741824 := hc.2
  exact floordiv_int (by omega) (by rw [Int.fdiv_eq_ediv_of_nonneg i (by omega)]; exact q) (.inl (PyProof.noPylong_small (by omega)))
theorem op_mod : OpR X (binaryOp .Mod) (rI (fun _ j => 0 < j) fun i j => .int (i % j)) := opI fun i j _ _ _ _ _ hc q => by
  have h1 : (0 : Int) < j := hc
  exact mod_int' (by omega) (by rw [Int.fmod_eq_emod_of_nonneg i (by omega)]; exact q)
end
def scal : V → V → Bool
  | .non, .non => true | .non, .int _ => true | .int _, .non => true | .non, .bl _ => true | .bl _, .non => true | .non, .str _ => true | .str _, .non => true
  | .int _, .int _ => true | .bl _, .bl _ => true | .str _, .str _ => true | .byt _, .byt _ => true
  | .int _, .str _ => true | .str _, .int _ => true | .bl _, .str _ => true | .str _, .bl _ => true
  | _, _ => false
def rEq : R2 := fun x y H Q => scal x y = true ∧ Q (.bl (decide (x = y))) H
def rNe : R2 := fun x y H Q => scal x y = true ∧ Q (.bl (!decide (x = y))) H
theorem dec_int {i j : Int} : decide (V.int i = V.int j) = (i == j) := by
  rw [Bool.eq_iff_iff]
  simp
theorem dec_bl {i j : Bool} : decide (V.bl i = V.bl j) = (i == j) := by
  rw [Bool.eq_iff_iff]
  simp
theorem dec_str {i j : Str} : decide (V.str i = V.str j) = (i == j) := by
  rw [Bool.eq_iff_iff]
  simp
theorem dec_byt {i j : Array UInt8} : decide (V.byt i = V.byt j) = (i.toList == j.toList) := by
  rw [Bool.eq_iff_iff]
  cases i
  cases j
  simp
section
variable {X : Cx} {a b c : Expr} {ta tb tc : TE} {pos : Pos}
theorem fin_bl {pins : List (Addr × Obj)} {σ : St} {H : Hp} {s : Shared} {Q : VK} {k k' : Bool} (I : Inv X pins σ H s) (q : Q (.bl k) H) (e : k = k') : EP X pins σ Q (.bool k') s := by
  subst e
  exact ⟨.bl k, H, I, rfl, q⟩
theorem op_eq : OpR X (compareOp .Eq) rEq := by
  intro pins s σ H x y v u Q I rx ry h
  obtain ⟨hs, q⟩ := h
  cases x with
  | non =>
    cases rx
    cases y with
    | non => cases ry; exact PySem.EqNone.eq_none_none (fin_bl I q (by simp))
    | bl j => cases ry; exact PySem.EqNone.eq_none_bool (fin_bl I q (by simp))
    | int j => obtain ⟨t', rfl⟩ := ry; exact PySem.EqNone.eq_none_int (fin_bl I q (by simp))
    | str j => obtain ⟨t', rfl⟩ := ry; exact PySem.EqNone.eq_none_str (fin_bl I q (by simp))
    | _ => exact absurd (show false = true from hs) Bool.false_ne_true
  | bl i =>
    cases rx
    cases y with
    | non => cases ry; exact PySem.EqNone.eq_bool_none (fin_bl I q (by simp))
    | bl j => cases ry; exact eq_bool (fin_bl I q dec_bl)
    | str j => obtain ⟨t', rfl⟩ := ry; exact PySem.EqMixed.eq_bool_str (fin_bl I q (by simp))
    | _ => exact absurd (show false = true from hs) Bool.false_ne_true
  | int i =>
    obtain ⟨t, rfl⟩ := rx
    cases y with
    | non => cases ry; exact PySem.EqNone.eq_int_none (fin_bl I q (by simp))
    | int j => obtain ⟨t', rfl⟩ := ry; exact eq_int (fin_bl I q dec_int)
    | str j => obtain ⟨t', rfl⟩ := ry; exact PySem.EqMixed.eq_int_str (fin_bl I q (by simp))
    | _ => exact absurd (show false = true from hs) Bool.false_ne_true
  | str i =>
    obtain ⟨t, rfl⟩ := rx
    cases y with
    | non => cases ry; exact PySem.EqNone.eq_str_none (fin_bl I q (by simp))
    | bl j => cases ry; exact PySem.EqMixed.eq_str_bool (fin_bl I q (by simp))
    | int j => obtain ⟨t', rfl⟩ := ry; exact PySem.EqMixed.eq_str_int (fin_bl I q (by simp))
    | str j => obtain ⟨t', rfl⟩ := ry; exact eq_str (fin_bl I q dec_str)
    | _ => exact absurd (show false = true from hs) Bool.false_ne_true
  | byt i =>
    obtain ⟨t, rfl⟩ := rx
    cases y with
    | byt j => obtain ⟨t', rfl⟩ := ry; exact PySem.W.eq_bytes (fin_bl I q dec_byt)
    | _ => exact absurd (show false = true from hs) Bool.false_ne_true
  | _ => cases y <;> exact absurd (show false = true from hs) Bool.false_ne_true
theorem op_ne : OpR X (compareOp .NotEq) rNe := by
  intro pins s σ H x y v u Q I rx ry h
  obtain ⟨hs, q⟩ := h
  cases x with
  | non =>
    cases rx
    cases y with
    | non => cases ry; exact PySem.EqNone.ne_none_none (fin_bl I q (by simp))
    | bl j => cases ry; exact PySem.EqNone.ne_none_bool (fin_bl I q (by simp))
    | int j => obtain ⟨t', rfl⟩ := ry; exact PySem.EqNone.ne_none_int (fin_bl I q (by simp))
    | str j => obtain ⟨t', rfl⟩ := ry; exact PySem.EqNone.ne_none_str (fin_bl I q (by simp))
    | _ => exact absurd (show false = true from hs) Bool.false_ne_true
  | bl i =>
    cases rx
    cases y with
    | non => cases ry; exact PySem.EqNone.ne_bool_none (fin_bl I q (by simp))
    | bl j => cases ry; exact ne_bool (fin_bl I q (congrArg not dec_bl))
    | str j => obtain ⟨t', rfl⟩ := ry; exact PySem.EqMixed.ne_bool_str (fin_bl I q (by simp))
    | _ => exact absurd (show false = true from hs) Bool.false_ne_true
  | int i =>
    obtain ⟨t, rfl⟩ := rx
    cases y with
    | non => cases ry; exact PySem.EqNone.ne_int_none (fin_bl I q (by simp))
    | int j => obtain ⟨t', rfl⟩ := ry; exact ne_int (fin_bl I q (congrArg not dec_int))
    | str j => obtain ⟨t', rfl⟩ := ry; exact PySem.EqMixed.ne_int_str (fin_bl I q (by simp))
    | _ => exact absurd (show false = true from hs) Bool.false_ne_true
  | str i =>
    obtain ⟨t, rfl⟩ := rx
    cases y with
    | non => cases ry; exact PySem.EqNone.ne_str_none (fin_bl I q (by simp))
    | bl j => cases ry; exact PySem.EqMixed.ne_str_bool (fin_bl I q (by simp))
    | int j => obtain ⟨t', rfl⟩ := ry; exact PySem.EqMixed.ne_str_int (fin_bl I q (by simp))
    | str j => obtain ⟨t', rfl⟩ := ry; exact ne_str (fin_bl I q (congrArg not dec_str))
    | _ => exact absurd (show false = true from hs) Bool.false_ne_true
  | byt i =>
    obtain ⟨t, rfl⟩ := rx
    cases y with
    | byt j => obtain ⟨t', rfl⟩ := ry; exact PySem.W.ne_bytes (fin_bl I q (congrArg not dec_byt))
    | _ => exact absurd (show false = true from hs) Bool.false_ne_true
  | _ => cases y <;> exact absurd (show false = true from hs) Bool.false_ne_true
theorem op_lt : OpR X (compareOp .Lt) (rI0 fun i j => .bl (decide (i < j))) := opB0 fun _ _ _ _ _ _ _ q => lt_int q
theorem op_le : OpR X (compareOp .LtE) (rI0 fun i j => .bl (decide (i ≤ j))) := opB0 fun _ _ _ _ _ _ _ q => le_int q
theorem op_gt : OpR X (compareOp .Gt) (rI0 fun i j => .bl (decide (j < i))) := opB0 fun _ _ _ _ _ _ _ q => gt_int q
theorem op_ge : OpR X (compareOp .GtE) (rI0 fun i j => .bl (decide (j ≤ i))) := opB0 fun _ _ _ _ _ _ _ q => ge_int q
theorem op_notN : OpR X (compareOp .IsNot) (fun x y H Q => y = .non ∧ Q (.bl (!decide (x = .non))) H) := by
  intro pins s σ H x y v u Q I rx ry h
  obtain ⟨rfl, q⟩ := h
  cases ry
  refine isnot_none_gen (fin_bl I q ?_)
  cases x <;> first
    | (cases rx; rfl)
    | (obtain ⟨t, rfl⟩ := rx; rfl)
def isObj : HO → Bool
  | .lst _ => true
  | .ins _ _ _ => true
  | _ => false
theorem OpR.or {f : Value → Value → Sem Value} {r r' : R2} (h : OpR X f r) (h' : OpR X f r') : OpR X f (fun x y H Q => r x y H Q ∨ r' x y H Q) := by
  intro pins s σ H x y v u Q I rx ry q
  rcases q with q | q
  · exact h pins s σ H x y v u Q I rx ry q
  · exact h' pins s σ H x y v u Q I rx ry q
theorem nomark (b : Expr) {op : CmpOp} (h : op ≠ .In := by decide) (h2 : op ≠ .NotIn := by decide) : behindInMarks op b = false := by
  have e1 : (op == CmpOp.In) = false := by cases op <;> first | rfl | exact absurd rfl h
  have e2 : (op == CmpOp.NotIn) = false := by cases op <;> first | rfl | exact absurd rfl h2
  cases b <;> simp [behindInMarks, e1, e2]
theorem pe_cmpR {op : CmpOp} {r : R2} (ho : OpR X (compareOp op) r) (ha : PE X a ta) (hb : PE X b tb) (hm : behindInMarks op b = false) : PE X (.Compare a [op] [b] pos) (tOp r ta tb) := by
  intro pins s σ H Q I h
  exact wpAny_Compare1 (binT ha hb I h fun v u s2 x y H2 I2 rx ry q => ho pins s2 σ H2 x y v u Q I2 rx ry q) hm
def tTest (t : TE) : TT := fun σ H Q => t σ H fun x H' => ∃ k, x = .bl k ∧ Q k H'
theorem pt_cmpR {op : CmpOp} {r : R2} (ho : OpR X (compareOp op) r) (ha : PE X a ta) (hb : PE X b tb) (hm : behindInMarks op b = false) : PT X (.Compare a [op] [b] pos) (tTest (tOp r ta tb)) := by
  intro pins s σ H Q I h
  refine wpAny_isTrue_Compare1 (thn (ha pins s σ H _ I h) fun v s1 ⟨x, H1, I1, r1, q1⟩ => thn (hb pins s1 σ H1 _ I1 q1) fun u s2 ⟨y, H2, I2, r2, q2⟩ =>
    thn (ho pins s2 σ H2 x y v u _ I2 r1 r2 q2) fun c s3 ⟨z, H3, I3, r3, k, e, q3⟩ => ?_) hm
  subst e
  cases r3
  exact wpAny_truthy_bool ⟨H3, I3, q3⟩
def tChain (r r' : R2) (ta tb tc : TE) : TE := fun σ H Q => ta σ H fun x H1 => tb σ H1 fun y H2 => r x y H2 fun z H3 => ∃ k, z = .bl k ∧
  (if k = true then tc σ H3 fun w' H4 => r' y w' H4 Q else Q (.bl false) H3)
def TruV (K : PySem.W.Frag) (x : V) (H : Hp) (k : Bool) : Prop :=
  match x with
  | .non => k = false
  | .bl b => k = b
  | .int i => k = (i != 0)
  | .str y => y.length ≤ sizeLine ∧ k = ((y.length : Int) != 0)
  | .byt y => y.size ≤ sizeLine ∧ k = ((y.size : Int) != 0)
  | .ref p => (∃ xs, SqL K H p xs ∧ k = !xs.isEmpty) ∨ (∃ xs, SqT K H p xs ∧ k = !xs.isEmpty) ∨ ∃ kvs, H p = some (.dK kvs) ∧ k = !kvs.isEmpty
  | _ => False
theorem isEmpty_kv {κ : Type} {kvs : List (κ × V)} {vs : List (κ × Value)} (r : KV kvs vs) : (!vs.isEmpty) = !kvs.isEmpty := by
  cases r <;> rfl
theorem isEmpty_of {xs : List V} {its : List Value} (r : Vals xs its) : (!its.toArray.isEmpty) = !xs.isEmpty := by
  cases r <;> simp
theorem line63 : (sizeLine : Nat) < 2 ^ 63 := by rw [sizeLine_eq]; decide
theorem tru_ok : TruR X (fun x H Q => ∃ k, TruV X.K x H k ∧ Q k H) := by
  intro pins s σ H x v Q I rx h
  obtain ⟨k, e, q⟩ := h
  have hl := line63
  have hs : sizeLine = 16777216 := sizeLine_eq
  cases x with
  | non =>
    cases rx
    have e' : k = false := e
    subst e'
    exact truthy_none ⟨H, I, q⟩
  | bl b =>
    cases rx
    have e' : k = b := e
    subst e'
    exact wpAny_truthy_bool ⟨H, I, q⟩
  | int i =>
    obtain ⟨t, rfl⟩ := rx
    have e' : k = (i != 0) := e
    subst e'
    exact PySem.P.truthy_int ⟨H, I, q⟩
  | str y =>
    obtain ⟨t, rfl⟩ := rx
    obtain ⟨hy, e'⟩ : y.length ≤ sizeLine ∧ k = ((y.length : Int) != 0) := e
    subst e'
    exact PySem.P.truthy_str (by omega) ⟨H, I.tok _, q⟩
  | byt y =>
    obtain ⟨t, rfl⟩ := rx
    obtain ⟨hy, e'⟩ : y.size ≤ sizeLine ∧ k = ((y.size : Int) != 0) := e
    subst e'
    exact PySem.W.truthy_bytes (by omega) ⟨H, I.tok _, q⟩
  | ref p =>
    cases rx
    have e' : (∃ xs, SqL X.K H p xs ∧ k = !xs.isEmpty) ∨ (∃ xs, SqT X.K H p xs ∧ k = !xs.isEmpty) ∨ ∃ kvs, H p = some (.dK kvs) ∧ k = !kvs.isEmpty := e
    rcases e' with ⟨xs, hx, e'⟩ | ⟨xs, hx, e'⟩ | ⟨kvs, hx, e'⟩
    · subst e'
      obtain ⟨its, r, pl, hz⟩ := I.list hx
      have hlen := r.length
      exact wpAny_truthy_list pl.isList (by simp only [List.size_toArray]; omega) ⟨H, I.tok _, by rw [isEmpty_of r]; exact q⟩
    · subst e'
      obtain ⟨its, r, pl, hz⟩ := I.tuple hx
      have hlen := r.length
      exact truthy_tuple pl (by simp only [List.size_toArray]; omega) ⟨H, I.tok _, by rw [isEmpty_of r]; exact q⟩
    · subst e'
      obtain ⟨hz, hS, vs, r, m⟩ : kvs.length ≤ sizeLine ∧ (p == sysModules) = false ∧ ∃ vs, KV kvs vs ∧ s.heap.DictOf (mixKind X.prog X.w) p vs := I.hok p _ hx
      have hlen : kvs.length = vs.length := Paired.length r
      exact wpAny_truthy_dict hS m (by omega) ⟨H, I.tok _, by rw [isEmpty_kv r]; exact q⟩
  | _ => exact (show False from e).elim
theorem pt_truth (ha : PE X a ta) (he : ∀ whole, isTrue a X.env whole = (do let v ← whole; standAt a.pos; holding [v] (truthy v))) :
    PT X a (fun σ H Q => ta σ H fun x H' => ∃ k, TruV X.K x H' k ∧ Q k H') := by
  intro pins s σ H Q I h
  exact isTrue_plain (thn (ha pins s σ H _ I h) fun v s1 ⟨x, H1, I1, r1, q1⟩ => tru_ok pins s1 σ H1 x v Q I1 r1 q1) (he _)
def PlainIxT (b : Expr) : Prop := ∀ o i, subscripted b false o i = operate [o, i] (getItem o i)
theorem vals1 {x : V} {us : List Value} (r : Vals [x] us) : ∃ u, us = [u] ∧ RelV x u := by
  cases r with
  | cons r1 r2 => cases r2; exact ⟨_, rfl, r1⟩
theorem vals2 {x y : V} {us : List Value} (r : Vals [x, y] us) : ∃ u w', us = [u, w'] ∧ RelV x u ∧ RelV y w' := by
  cases r with
  | cons r1 r2 =>
    cases r2 with
    | cons r3 r4 => cases r4; exact ⟨_, _, rfl, r1, r3⟩
def LenV (K : PySem.W.Frag) (x : V) (H : Hp) (n : Nat) : Prop :=
  match x with
  | .str y => y.length ≤ sizeLine ∧ n = y.length
  | .byt y => y.size ≤ sizeLine ∧ n = y.size
  | .ref p => (∃ xs, SqL K H p xs ∧ n = xs.length) ∨ ∃ xs, SqT K H p xs ∧ n = xs.length
  | _ => False
end
end L2
namespace L2
open PySem PySem.Spec PyProof.Rows
structure ObjM (h : Heap) (x dx C : Addr) (mA : Str → Option Value) : Prop where
  obj : h.get? x = some (PySem.W.instObj C dx)
  ns : h.Ns1 dx mA
  ne : dx ≠ x
theorem lookIn_ns {h : Heap} {dx : Addr} {mA : Str → Option Value} (n : h.Ns1 dx mA) : ∃ od, h.get? dx = some od ∧ ∀ name, PySem.W.lookIn name od = some (mA name) := by
  obtain ⟨o, es, ep, ho, hd, hk, _, hm⟩ := n
  refine ⟨o, ho, fun name => ?_⟩
  have e := hm name
  unfold nsFind findBy at e
  rw [← Array.find?_toList] at e
  unfold PySem.W.lookIn
  rw [hd]
  dsimp only
  split
  · rename_i y q
    rw [q] at e
    exact congrArg some e
  · rename_i q
    rw [q] at e
    have a : es.toList.any (·.refKey) = false := by
      rw [List.any_eq_false]
      intro y hy
      obtain ⟨z, t, hkey⟩ := hk y (Array.mem_toList_iff.mp hy)
      simp [DictEntry.refKey, hkey]
    have a' : ¬ es.toList.any (·.refKey) = true := by rw [a]; exact Bool.false_ne_true
    rw [if_neg a']
    exact congrArg some e
theorem ObjM.look {h : Heap} {x dx C : Addr} {mA : Str → Option Value} (I : ObjM h x dx C mA) : ∃ od, PySem.W.InstAt h x (PySem.W.instObj C dx) C (some od) ∧ ∀ name, PySem.W.lookIn name od = some (mA name) :=
  let ⟨od, ho, hl⟩ := lookIn_ns I.ns
  ⟨od, ⟨I.obj, rfl, rfl, ho⟩, hl⟩
section
variable {prog : Program} {w : World} {A : Around} {E : Value → Shared → Prop} {s : Shared} {K : PySem.W.Frag} {x dx C f : Addr} {mA : Str → Option Value} {name : Str} {v : Value}
end
def putF (f : Str) (v : V) : List (Str × V) → List (Str × V)
  | [] => [(f, v)]
  | (g, x) :: r => if g = f then (g, v) :: r else (g, x) :: putF f v r
theorem RelO.some_of {v : V} {o : Option Value} (r : RelO (some v) o) : ∃ u, o = some u ∧ RelV v u := by
  cases o with
  | none => exact (show False from r).elim
  | some u => exact ⟨u, rfl, r⟩
theorem RelO.none_of {o : Option Value} (r : RelO none o) : o = none := by
  cases o with
  | none => rfl
  | some u => exact (show False from r).elim
section
variable {P : Program} {w : World} {H H' : Hp} {h h' : Heap} {a C dx : Addr} {fs fs' : List (Str × V)}
end
structure Cls (K : PySem.W.Frag) (C : Addr) : Prop where
  pg : PySem.W.plainGet K C Str.empty = true
  hd : PySem.W.hasDictIn K C = true
  po : PySem.W.plainOver K C = true
  sa : PySem.W.findIn K (.ref C) "__setattr__" = some (some (.builtin "object.__setattr__"))
theorem Cls.get {K : PySem.W.Frag} {C : Addr} (c : Cls K C) (f : Str) : PySem.W.plainGet K C f = true := c.pg
def NoAttr (K : PySem.W.Frag) (C : Addr) (f : Str) : Prop := PySem.W.findIn K (.ref C) f = some none
structure Con (K : PySem.W.Frag) (C : Addr) (f : Str) (v : V) (u : Value) : Prop where
  at_ : PySem.W.findIn K (.ref C) f = some (some u)
  rel : RelV v u
  get : PySem.W.specialIn K u "__get__" = some none
  cp : PySem.W.copiedNames.contains f = false
structure Meth (K : PySem.W.Frag) (C : Addr) (m : Str) (f : Addr) : Prop where
  at_ : PySem.W.findIn K (.ref C) m = some (some (.ref f))
  fn : PySem.W.isFn K (.ref f) = true
  kp : PySem.W.keepIn K (.ref f) = true
section
variable {X : Cx} {pins : List (Addr × Obj)} {σ : St} {H : Hp} {s : Shared} {a C dx : Addr} {fs : List (Str × V)} {f : Str} {v : V} {A : Around} {E : Value → Shared → Prop}
theorem Inv.made (I : Inv X pins σ H s) : Inv X pins σ (upd (upd H s.heap.objs.size (.own (s.heap.objs.size + 1))) (s.heap.objs.size + 1) (.ins C s.heap.objs.size []))
    { s with heap := (s.heap.push PySem.W.emptyDict).push (PySem.W.instObj C s.heap.objs.size) } := by
  have e1 : (s.heap.push PySem.W.emptyDict).get? s.heap.objs.size = some PySem.W.emptyDict := Heap.get?_push_size s.heap rfl
  have e2 : ((s.heap.push PySem.W.emptyDict).push (PySem.W.instObj C s.heap.objs.size)).get? (s.heap.objs.size + 1) = some (PySem.W.instObj C s.heap.objs.size) := by
    have := Heap.get?_push_size (s.heap.push PySem.W.emptyDict) (o := PySem.W.instObj C s.heap.objs.size) rfl
    rwa [Heap.size_push] at this
  have e3 : (s.heap.push PySem.W.emptyDict).Ns s.heap.objs.size (fun _ => none) := ⟨PySem.W.emptyDict, #[], _, e1, rfl, (fun e he => absurd he (by simp)), fun _ => rfl⟩
  have I1 := I.laid (a := s.heap.objs.size) (o := .own (s.heap.objs.size + 1)) (h' := s.heap.push PySem.W.emptyDict) (t' := s.toks) (fun b u q => Heap.get?_push_of_some _ q) (Nat.le_refl _) ⟨_, e1⟩
  refine I1.laid (a := s.heap.objs.size + 1) (o := .ins C s.heap.objs.size []) (t' := s.toks) (fun b u q => Heap.get?_push_of_some _ q) (Nat.le_of_eq (Heap.size_push _ _)) ?_
  have ne : s.heap.objs.size ≠ s.heap.objs.size + 1 := Nat.ne_of_lt (Nat.lt_succ_self _)
  refine ⟨by rw [upd_ne ne, upd_same], Nat.zero_le _, ne, e2, fun _ => none, (Heap.Ns1.of_empty e3).at fun o q => Heap.get?_push_of_some _ q, fun _ => True.intro, fun y hy => absurd rfl hy⟩
end
def tFld (K : PySem.W.Frag) (ta : TE) (f : Str) : TE := fun σ H Q => ta σ H fun x H1 => ∃ a C dx fs v, x = .ref a ∧ H1 a = some (.ins C dx fs) ∧ Cls K C ∧ NoAttr K C f ∧ fs.lookup f = some v ∧ Q v H1
def tCon (K : PySem.W.Frag) (ta : TE) (f : Str) : TE := fun σ H Q => ta σ H fun x H1 => ∃ a C dx fs v u, x = .ref a ∧ H1 a = some (.ins C dx fs) ∧ Cls K C ∧ Con K C f v u ∧ fs.lookup f = none ∧ Q v H1
def sFld (K : PySem.W.Frag) (ta tv : TE) (f : Str) : TS := fun D σ H => tv σ H fun y H1 => ta σ H1 fun x H2 => ∃ a C dx fs, x = .ref a ∧ H2 a = some (.ins C dx fs) ∧ Cls K C ∧ NoAttr K C f ∧ fs.length < 1000 ∧
  D.nx σ (upd H2 a (.ins C dx (putF f y fs)))
def InOp (X : Cx) (op : Operator) (rd : V → V → Hp → VK → Prop) : Prop :=
  ∀ (pins : List (Addr × Obj)) (s : Shared) (σ : St) (H : Hp) (x y : V) (u v : Value) (Q : VK), Inv X pins σ H s → RelV x u → RelV y v → rd x y H Q → wpAny (model X.prog X.w) X.A (inplaceOp op u v) (EP X pins σ Q) X.xe s
def sFldAug (K : PySem.W.Frag) (ta tv : TE) (rd : V → V → Hp → VK → Prop) (f : Str) : TS := fun D σ H => ta σ H fun x H1 => ∃ a C dx fs v, x = .ref a ∧ H1 a = some (.ins C dx fs) ∧ Cls K C ∧ NoAttr K C f ∧ fs.lookup f = some v ∧
  tv σ H1 fun y H2 => rd v y H2 fun z H3 => ∃ dx' fs', H3 a = some (.ins C dx' fs') ∧ fs'.length < 1000 ∧ D.nx σ (upd H3 a (.ins C dx' (putF f z fs')))
section
variable {X : Cx} {o e value : Expr} {f : Str} {pos pos' tpos : Pos} {ta tv : TE}
def rAdd : V → V → Hp → VK → Prop := fun x y H Q => ∃ i j, x = .int i ∧ y = .int j ∧ Q (.int (i + j)) H
def rSub : V → V → Hp → VK → Prop := fun x y H Q => ∃ i j, x = .int i ∧ y = .int j ∧ Q (.int (i - j)) H
end
section
variable {X : Cx} {pins : List (Addr × Obj)} {σ : St} {H : Hp} {s : Shared} {A : Around} {E : Value → Shared → Prop} {Q : Value → Shared → Prop} {c : Value} {b : Bool}
inductive TyOf (K : PySem.W.Frag) (H : Hp) : V → Value → Prop where
  | non : TyOf K H .non (.type "NoneType")
  | bl (x : Bool) : TyOf K H (.bl x) (.type "bool")
  | int (i : Int) : TyOf K H (.int i) (.type "int")
  | str (x : Str) : TyOf K H (.str x) (.type "str")
  | flt (x : UInt64) : TyOf K H (.flt x) (.type "float")
  | lst {a : Addr} {xs : List V} (e : H a = some (.lst xs)) : TyOf K H (.ref a) (.type "list")
  | frz {a : Addr} {o : Obj} {xs : List V} (e : H a = some (.frz o (.lst xs))) : TyOf K H (.ref a) (.type "list")
  | tup {a : Addr} {xs : List V} (e : H a = some (.tup xs)) : TyOf K H (.ref a) (.type "tuple")
  | dK {a : Addr} {kvs : List (Key × V)} (e : H a = some (.dK kvs)) : TyOf K H (.ref a) (.type "dict")
  | dT {a : Addr} {kvs : List (List Key × V)} (e : H a = some (.dT kvs)) : TyOf K H (.ref a) (.type "dict")
  | ins {a C dx : Addr} {fs : List (Str × V)} (e : H a = some (.ins C dx fs)) (cl : Cls K C) (ha : PySem.W.findIn K (.ref C) "__class__" = some (some (.builtin "object.__class__")))
      (hn : PySem.W.specialIn K (.builtin "object.__class__") "__get__" = some (some (.builtin "getset_descriptor.__get__"))) (htk : PySem.W.takesIn K (.builtin "object.__class__") = some true)
      (hm : PySem.W.mroIn K C (.type "object") = some true) : TyOf K H (.ref a) (.ref C)
end
end L2
namespace L2
open PySem PySem.Spec PyProof.Rows
structure Room (k : Nat) (A : Around) : Prop where
  hd : A.handled = none
  dp : A.depth + 3 * k + 5 < recursionLimit
  un : A.units + 16 * k + 200 < cLine
theorem Room.mono {j k : Nat} {A : Around} (r : Room k A) (h : j ≤ k) : Room j A := ⟨r.hd, by have := r.dp; omega, by have := r.un; omega⟩
theorem Room.deeper {k : Nat} {A : Around} (r : Room (k + 1) A) (env : Env) : Room k (A.deeper env) :=
  ⟨r.hd, by have := r.dp; show A.depth + 1 + 3 * k + 5 < _; omega, by have := r.un; show A.units + 3 + 16 * k + 200 < _; omega⟩
theorem Room.in1 {k : Nat} {A : Around} (r : Room (k + 1) A) : Room k A.in1 :=
  ⟨r.hd, by have := r.dp; show A.depth + 3 * k + 5 < _; omega, by have := r.un; show A.units + 1 + 16 * k + 200 < _; omega⟩
theorem make_depth {A : Around} {C : Addr} {us : List Value} {kw : List (Str × Value)} : (A.under (.builtin "type.__call__" ⟨.ref C :: us, kw⟩)).depth = A.depth + 1 := by
  first | rfl | simp [Around.under, Code.weight, Code.isCreation, Code.isGuard, Code.isCaller, Code.frames, Code.isFrame, guardIds]
theorem make_units {A : Around} {C : Addr} {us : List Value} {kw : List (Str × Value)} : (A.under (.builtin "type.__call__" ⟨.ref C :: us, kw⟩)).units = A.units + 1 := by
  first | rfl | simp [Around.under, Code.cUnits, Code.frames, Code.isFrame]
theorem Room.make {k : Nat} {A : Around} (r : Room (k + 1) A) (C : Addr) (us : List Value) (kw : List (Str × Value)) : Room k (A.under (.builtin "type.__call__" ⟨.ref C :: us, kw⟩)) :=
  ⟨r.hd, by have := r.dp; rw [make_depth]; omega, by have := r.un; rw [make_units]; omega⟩
theorem Room.depth {k : Nat} {A : Around} (r : Room k A) : A.depth < recursionLimit := by have := r.dp; omega
theorem Room.units {k : Nat} {A : Around} (r : Room k A) : A.units + 64 < cLine := by have := r.un; omega
def tNil : TA := fun _ H Q => Q [] H
def tCons (ta : TE) (tr : TA) : TA := fun σ H Q => ta σ H fun x H1 => tr σ H1 fun xs H2 => Q (x :: xs) H2
section
variable {X : Cx} {e : Expr} {es : List Expr} {te : TE} {t : TA} {pos : Pos}
theorem pa_nil : PA X [] tNil := fun _ _ _ _ H Q I h => Calls.spliced_nil ⟨[], H, I, .nil, h⟩
theorem pa_cons (ha : PE X e te) (hr : PA X es t) (hs : starEach (e :: es) X.env = (false, eval e X.env) :: starEach es X.env := by rfl) : PA X (e :: es) (tCons te t) := by
  intro pos pins s σ H Q I h
  rw [hs]
  show wpAny _ _ (spliced ((false, eval e X.env) :: backTo pos (starEach es X.env))) _ _ s
  refine Calls.spliced_cons (thn (ha pins s σ H _ I h) fun u s1 ⟨x, H1, I1, r1, q1⟩ => ?_)
  exact thn (hr pos pins s1 σ H1 _ I1 q1) fun us s2 ⟨xs, H2, I2, r2, q2⟩ => ⟨x :: xs, H2, I2, .cons r1 r2, q2⟩
def tTup (t : TA) : TE := fun σ H Q => t σ H fun xs H1 => xs.length ≤ sizeLine ∧ ∀ p, H1 p = none → Q (.ref p) (upd H1 p (.tup xs))
def tLst (t : TA) : TE := fun σ H Q => t σ H fun xs H1 => xs.length ≤ sizeLine ∧ ∀ p, H1 p = none → Q (.ref p) (upd H1 p (.lst xs))
theorem pe_tup {x1} (h : PA X es t) : PE X (.Tuple es x1 pos) (tTup t) := by
  intro pins s σ H Q I hq
  refine wpAny_Tuple_spliced (thn (h pos pins s σ H _ I hq) fun us s1 ⟨xs, H1, I1, r, z, q⟩ => ⟨by rw [← r.length]; exact z, ?_⟩)
  have hf : H1 s1.heap.objs.size = none := I1.hok.fresh (Nat.le_refl _)
  refine ⟨.ref s1.heap.objs.size, upd H1 s1.heap.objs.size (.tup xs), I1.laid (t' := s1.toks) (fun b u e => Heap.get?_push_of_some _ e) (Nat.le_refl _) ?_, rfl, q _ hf⟩
  exact ⟨z, us, r, ⟨_, Heap.get?_push_size _ rfl, rfl, _, rfl⟩⟩
theorem pe_lst (h : PA X es t) : PE X (.List es pos) (tLst t) := by
  intro pins s σ H Q I hq
  refine wpAny_List_spliced (thn (h pos pins s σ H _ I hq) fun us s1 ⟨xs, H1, I1, r, z, q⟩ => ⟨by rw [← r.length]; exact z, ?_⟩)
  have hf : H1 s1.heap.objs.size = none := I1.hok.fresh (Nat.le_refl _)
  refine ⟨.ref s1.heap.objs.size, upd H1 s1.heap.objs.size (.lst xs), I1.laid (t' := s1.toks) (fun b u e => Heap.get?_push_of_some _ e) (Nat.le_refl _) ?_, rfl, q _ hf⟩
  exact ⟨z, us, 0, r, Heap.get?_push_size _ rfl⟩
end
abbrev Sp := List V → Hp → VK → XK → Prop
abbrev CXT := List Env → Hp → Shared → XK → Value → Shared → Prop
structure Env0 (P : Program) (w : World) (K : PySem.W.Frag) (mg : Str → Option Value) (base : Heap) (A : Around) (outer : List Env) (s : Shared) (H : Hp) : Prop where
  frames : A.frames = some outer
  mod : Mod K mg base
  bs : ∀ b o, base.get? b = some o → s.heap.get? b = some o ∧ H b = none
  bsz : base.objs.size ≤ s.heap.objs.size
  funs : s.heap.FunFrames base outer
  frf : ∀ b ∈ frs outer, H b = none
  hok : HOk P w H s.heap
  bare : AllBare s.gens
def CE (outer : List Env) (P : Program) (w : World) (H : Hp) (s : Shared) (Q : VK) (u : Value) (s' : Shared) : Prop :=
  ∃ v H', s'.os = s.os ∧ AllBare s'.gens ∧ Un (frs outer) [] H H' s.heap s'.heap ∧ HOk P w H' s'.heap ∧ RelV v u ∧ Q v H'
def CR (CX : CXT) (outer : List Env) (P : Program) (w : World) (H : Hp) (s : Shared) (Q : VK) (E : XK) (r : Result) (s' : Shared) : Prop :=
  match r with
  | .ok (.ret u) => CE outer P w H s Q u s'
  | .ok _ => False
  | .error e => CX outer H s E e s'
structure FnOk (P : Program) (w : World) (K : PySem.W.Frag) (mg : Str → Option Value) (base : Heap) (CX : CXT) (k : Nat) (f : Addr) (fd : FuncData) (ps : List Str) (sp : Sp) : Prop where
  len : ∀ vs H Q E, sp vs H Q E → vs.length = ps.length
  run : ∀ (A : Around) (outer : List Env) (s : Shared) (H : Hp) (args : Args) (us : List Value) (vs : List V) (Q : VK) (E : XK), Room k A → Env0 P w K mg base A outer s H → BindsTo s fd args (ps.zip us) → Vals vs us → sp vs H Q E →
    codeAny (model P w) A (.call (.ref f) args) (CR CX outer P w H s Q E) s
theorem FnOk.mono {P : Program} {w : World} {K : PySem.W.Frag} {mg : Str → Option Value} {base : Heap} {CX : CXT} {j k : Nat} {f : Addr} {fd : FuncData} {ps : List Str} {sp : Sp} (F : FnOk P w K mg base CX j f fd ps sp) (h : j ≤ k) :
    FnOk P w K mg base CX k f fd ps sp := ⟨F.len, fun A outer s H args us vs Q E hr => F.run A outer s H args us vs Q E (hr.mono h)⟩
theorem FnOk.imp {P : Program} {w : World} {K : PySem.W.Frag} {mg : Str → Option Value} {base : Heap} {CX : CXT} {k : Nat} {f : Addr} {fd : FuncData} {ps : List Str} {sp sp' : Sp} (F : FnOk P w K mg base CX k f fd ps sp)
    (h : ∀ vs H Q E, sp' vs H Q E → sp vs H Q E) : FnOk P w K mg base CX k f fd ps sp' :=
  ⟨fun vs H Q E q => F.len vs H Q E (h _ _ _ _ q), fun A outer s H args us vs Q E hr he hb hv hs => F.run A outer s H args us vs Q E hr he hb hv (h _ _ _ _ hs)⟩
theorem Env0.make {P : Program} {w : World} {K : PySem.W.Frag} {mg : Str → Option Value} {base : Heap} {A : Around} {outer : List Env} {s : Shared} {H : Hp} (e : Env0 P w K mg base A outer s H) (C : Addr) (us : List Value) (kw : List (Str × Value)) :
    Env0 P w K mg base (A.under (.builtin "type.__call__" ⟨.ref C :: us, kw⟩)) outer s H := ⟨by first | exact e.frames | (simpa [Around.under, Code.envs, Code.isFrame, pushEnvs] using e.frames), e.mod, e.bs, e.bsz, e.funs, e.frf, e.hok, e.bare⟩
theorem Env0.in1 {P : Program} {w : World} {K : PySem.W.Frag} {mg : Str → Option Value} {base : Heap} {A : Around} {outer : List Env} {s : Shared} {H : Hp} (e : Env0 P w K mg base A outer s H) :
    Env0 P w K mg base A.in1 outer s H := ⟨e.frames, e.mod, e.bs, e.bsz, e.funs, e.frf, e.hok, e.bare⟩
section
variable {X : Cx} {pins : List (Addr × Obj)} {σ : St} {H : Hp} {s s' : Shared}
theorem Inv.env0 (I : Inv X pins σ H s) : Env0 X.prog X.w X.K X.mg X.base X.A X.stack s H :=
  ⟨I.ok.frames, I.ok.mod, I.bs, Nat.le_trans I.ok.bsz I.sz, I.stack, I.stkFree, I.hok, I.bare⟩
theorem Inv.after {Q : VK} {u : Value} (I : Inv X pins σ H s) (h : CE X.stack X.prog X.w H s Q u s') : EP X pins σ Q u s' := by
  obtain ⟨v, H', os, bare, un, hok, r, q⟩ := h
  obtain ⟨hh, g, d, t, os'⟩ := s'
  obtain rfl : os' = s.os := os
  exact ⟨v, H', I.call (h' := hh) (g' := g) (d' := d) (t' := t) (ch := []) un hok bare (fun b z => absurd z (by simp)), r, q⟩
end
def tCall (sp : Sp) (dvs : List V) (E : XK) (t : TA) : TE := fun σ H Q => t σ H fun vs H1 => sp (vs ++ dvs) H1 Q E
def tMeth (C : Addr) (m : Str) (sp : Sp) (dvs : List V) (E : XK) (ta : TE) (t : TA) : TE := fun σ H Q => ta σ H fun x H1 => ∃ a dx fs, x = .ref a ∧ H1 a = some (.ins C dx fs) ∧ fs.lookup m = none ∧
  t σ H1 fun vs H2 => sp (x :: (vs ++ dvs)) H2 Q E
def tMake (C : Addr) (sp : Sp) (dvs : List V) (E : XK) (t : TA) : TE := fun σ H Q => t σ H fun vs H1 => ∀ x dx, H1 x = none → H1 dx = none → dx ≠ x →
  sp (.ref x :: (vs ++ dvs)) (upd (upd H1 dx (.own x)) x (.ins C dx [])) (fun v H2 => v = .non ∧ Q (.ref x) H2) E
def Binds (K : PySem.W.Frag) (fd : FuncData) (ps : List Str) (ds : List Value) : Prop :=
  ∀ (s : Shared) (us : List Value), K.In s.heap → (us ++ ds).length = ps.length → BindsTo s fd ⟨us, []⟩ (ps.zip (us ++ ds))
theorem Binds.all {K : PySem.W.Frag} {fd : FuncData} {ps : List Str} (h : ∀ us : List Value, us.length = ps.length → bindArgs fd ⟨us, []⟩ = pure (ps.zip us)) : Binds K fd ps [] := fun s us _ hl => by
  rw [List.append_nil] at hl ⊢
  exact .of_eq (h us hl)
def Passes (CX : CXT) (X : Cx) (E : XK) : Prop := ∀ (pins : List (Addr × Obj)) (σ : St) (H : Hp) (s : Shared) (e : Value) (s' : Shared), Inv X pins σ H s → CX X.stack H s E e s' → X.xe e s'
section
variable {X : Cx} {CX : CXT} {k : Nat} {f C : Addr} {fd : FuncData} {ps : List Str} {sp : Sp} {dvs : List V} {ds : List Value} {E : XK} {x m : Str} {p pos apos : Pos} {e o : Expr} {es : List Expr} {ta : TE} {t : TA}
theorem run_fn {pins : List (Addr × Obj)} {σ : St} {H : Hp} {s : Shared} {Q : VK} {us : List Value} {vs : List V} (F : FnOk X.prog X.w X.K X.mg X.base CX k f fd ps sp) (hr : Room k X.A) (hb : Binds X.K fd ps ds) (hd : Vals dvs ds) (hx : Passes CX X E)
    (I : Inv X pins σ H s) (r : Vals vs us) (h : sp (vs ++ dvs) H Q E) : wpAny (model X.prog X.w) X.A (call (.ref f) us) (EP X pins σ Q) X.xe s := by
  have r2 : Vals (vs ++ dvs) (us ++ ds) := r.append hd
  have hl : (us ++ ds).length = ps.length := by rw [← r2.length]; exact F.len _ _ _ _ h
  refine wpAny_call (codeAny_mono (F.run X.A X.stack s H ⟨us, []⟩ (us ++ ds) (vs ++ dvs) Q E hr I.env0 (hb s us I.kIn hl) r2 h) fun r s' hq => ?_)
  cases r with
  | error e => exact hx pins σ H s e s' I hq
  | ok fl =>
    cases fl with
    | ret u => exact I.after hq
    | next => exact False.elim hq
    | brk => exact False.elim hq
    | cont => exact False.elim hq
theorem pe_call (F : FnOk X.prog X.w X.K X.mg X.base CX k f fd ps sp) (hr : Room k X.A) (hg : Gl X x) (hm : X.mg x = some (.ref f)) (hk : PySem.W.keepIn X.K (.ref f) = true) (hb : Binds X.K fd ps ds) (hd : Vals dvs ds) (hx : Passes CX X E)
    (ha : PA X (e :: es) t) (hdb : (x == ("__debug__" : Str)) = false := by decide) (he : starEach (e :: es) X.env = (false, eval e X.env) :: starEach es X.env := by rfl) (hpl : (backTo pos (starEach es X.env)).any (·.1) = false := by rfl) :
    PE X (.Call (.Name x p) (e :: es) [] pos) (tCall sp dvs E t) := by
  intro pins s σ H Q I h
  refine wpAny_Call_Name_kw (ld_glob I hg hm ?_ hdb)
  refine PySem.W.callWith_K (h₀ := X.base) I.ok.mod.kin hk (thn (ha pos pins s σ H _ I h) fun us s1 ⟨vs, H1, I1, r, q⟩ => ⟨I1.kIn, ?_⟩) he hpl
  exact run_fn F hr hb hd hx I1 r q
structure Mk (K : PySem.W.Frag) (C f : Addr) : Prop where
  makes : PySem.W.makesIn K C = true
  init : PySem.W.findIn K (.ref C) "__init__" = some (some (.ref f))
  fn : PySem.W.isFn K (.ref f) = true
  kp : PySem.W.keepIn K (.ref C) = true
end
def PK (X : Cx) (kws : List Keyword) (t : TA) : Prop :=
  ∀ (pos : Pos) (pins : List (Addr × Obj)) (s : Shared) (σ : St) (H : Hp) (Q : List V → Hp → Prop), Inv X pins σ H s → t σ H Q → wpAny (model X.prog X.w) X.A (evalAll ((backToKw pos (keywordEach kws X.env)).map (·.2))) (AP X pins σ Q) X.xe s
section
variable {X : Cx} {CX : CXT} {k : Nat} {f C : Addr} {fd : FuncData} {ps ks : List Str} {sp : Sp} {E : XK} {x m : Str} {p pos apos kpos : Pos} {e o : Expr} {es : List Expr} {kws : List Keyword} {te ta : TE} {t tk : TA} {nm : Option Str}
structure KBinds (K : PySem.W.Frag) (fd : FuncData) (ps ks : List Str) (g : List Value → List Value → List Value) (gV : List V → List V → List V) : Prop where
  to : ∀ (s : Shared) (us ws : List Value), K.In s.heap → (g us ws).length = ps.length → BindsTo s fd ⟨us, ks.zip ws⟩ (ps.zip (g us ws))
  rel : ∀ {vs : List V} {us : List Value} {zs : List V} {ws : List Value}, Vals vs us → Vals zs ws → Vals (gV vs zs) (g us ws)
def tCallK (sp : Sp) (gV : List V → List V → List V) (E : XK) (t tk : TA) : TE := fun σ H Q => t σ H fun vs H1 => tk σ H1 fun zs H2 => sp (gV vs zs) H2 Q E
variable {g : List Value → List Value → List Value} {gV : List V → List V → List V}
end
structure FnScope (N P : List Str) (sc : Scope) : Prop where
  kind : sc.kind = .function
  co : sc.isCoroutine = false
  gen : sc.isGenerator = false
  nd : N.Nodup
  pre : N.take P.length = P
  par : ∀ x ∈ P, sc.names.lookup x = some .local ∨ sc.names.lookup x = some .cell
  nofree : ∀ y ∈ sc.names, y.2 ≠ .free
theorem bindL_out {kindOf : Str → Option NameKind} {x : Str} : ∀ {binds : List (Str × Value)} {m : Str → Option Value}, (∀ v, (x, v) ∉ binds) → bindL kindOf binds m x = m x
  | [], _, _ => rfl
  | (n, v) :: r, m, h => by
    unfold bindL
    rw [bindL_out fun w hw => h w (List.mem_cons_of_mem _ hw)]
    split
    · have : x ≠ n := by rintro rfl; exact h v List.mem_cons_self
      simp [this]
    · rfl
theorem bindC_out {kindOf : Str → Option NameKind} {x : Str} : ∀ {binds : List (Str × Value)} {m : Str → Option Value}, (∀ v, (x, v) ∉ binds) → bindC kindOf binds m x = m x
  | [], _, _ => rfl
  | (n, v) :: r, m, h => by
    unfold bindC
    rw [bindC_out fun w hw => h w (List.mem_cons_of_mem _ hw)]
    split
    · rfl
    · have : x ≠ n := by rintro rfl; exact h v List.mem_cons_self
      simp [this]
theorem bindL_get {kindOf : Str → Option NameKind} {x : Str} {v : Value} : ∀ {P : List Str} {vs : List Value} {i : Nat} {m : Str → Option Value}, P.Nodup → P[i]? = some x → vs[i]? = some v → kindOf x = some .local →
    bindL kindOf (P.zip vs) m x = some v
  | [], _, _, _, _, h, _, _ => by simp at h
  | _ :: _, [], _, _, _, _, h, _ => by simp at h
  | p :: P, w :: vs, 0, m, nd, h1, h2, hk => by
    simp at h1 h2; subst h1; subst h2
    show bindL kindOf ((p, w) :: P.zip vs) m p = _
    unfold bindL
    rw [bindL_out fun v hv => (List.nodup_cons.mp nd).1 (List.of_mem_zip hv).1, if_pos hk]
    simp
  | p :: P, w :: vs, i + 1, m, nd, h1, h2, hk => by
    show bindL kindOf ((p, w) :: P.zip vs) m x = _
    unfold bindL
    exact bindL_get (i := i) (List.nodup_cons.mp nd).2 (by simpa using h1) (by simpa using h2) hk
theorem bindC_get {kindOf : Str → Option NameKind} {x : Str} {v : Value} : ∀ {P : List Str} {vs : List Value} {i : Nat} {m : Str → Option Value}, P.Nodup → P[i]? = some x → vs[i]? = some v → kindOf x ≠ some .local →
    bindC kindOf (P.zip vs) m x = some v
  | [], _, _, _, _, h, _, _ => by simp at h
  | _ :: _, [], _, _, _, _, h, _ => by simp at h
  | p :: P, w :: vs, 0, m, nd, h1, h2, hk => by
    simp at h1 h2; subst h1; subst h2
    show bindC kindOf ((p, w) :: P.zip vs) m p = _
    unfold bindC
    rw [bindC_out fun v hv => (List.nodup_cons.mp nd).1 (List.of_mem_zip hv).1, if_neg hk]
    simp
  | p :: P, w :: vs, i + 1, m, nd, h1, h2, hk => by
    show bindC kindOf ((p, w) :: P.zip vs) m x = _
    unfold bindC
    exact bindC_get (i := i) (List.nodup_cons.mp nd).2 (by simpa using h1) (by simpa using h2) hk
def start (N : List Str) (vs : List V) : St := vs.map some ++ List.replicate (N.length - vs.length) none
def cxOf (CX : CXT) (P : Program) (w : World) (K : PySem.W.Frag) (mg : Str → Option Value) (base : Heap) (N : List Str) (qual : Str) (scope : Scope) (f : Addr) (cd : Value) (A : Around) (outer : List Env) (s : Shared) (H : Hp) (E : XK) : Cx where
  prog := P
  w := w
  K := K
  mg := mg
  base := base
  A := A.deeper (envOfC qual scope s.heap.objs.size f cd)
  N := N
  s₀ := s
  H₀ := H
  env := envOfC qual scope s.heap.objs.size f cd
  outer := outer
  stack := envOfC qual scope s.heap.objs.size f cd :: outer
  ex := []
  calm := true
  fn := fun _ => true
  pn := []
  xe := fun e s' => wpAny (model P w) (A.deeper (envOfC qual scope s.heap.objs.size f cd)) (leaving (envOfC qual scope s.heap.objs.size f cd) e) (fun _ s'' => CX outer H s E e s'') (fun e' s'' => CX outer H s E e' s'') s'
theorem cell_has {sc : Scope} {n : Nat} {x : Str} (h : sc.names.lookup x = some .cell) : ∃ c, (cellsFrom n sc.names []).lookup x = some c := by
  have q := PySem.W.cellsFrom_some sc.names n [] (.inl h)
  exact Option.isSome_iff_exists.mp q
theorem inv_start {CX : CXT} {P : Program} {w : World} {K : PySem.W.Frag} {mg : Str → Option Value} {base : Heap} {N ps : List Str} {qual : Str} {scope : Scope} {f : Addr} {cd : Value} {A : Around} {outer : List Env} {s s1 : Shared} {H : Hp} {E : XK} {us : List Value} {vs : List V}
    (S : FnScope N ps scope) (hd : A.handled = none) (e0 : Env0 P w K mg base A outer s H) (hl : vs.length = ps.length) (r : Vals vs us)
    (x : InCallC s s.heap.objs.size (bindL (envOfC qual scope s.heap.objs.size f cd).kindOf (ps.zip us) fun _ => none) (cellsFrom (s.heap.objs.size + 1) scope.names []) (bindC (envOfC qual scope s.heap.objs.size f cd).kindOf (ps.zip us) fun _ => none) s1) :
    Inv (cxOf CX P w K mg base N qual scope f cd A outer s H E) [] (start N vs) H s1 := by
  have hpl : ps.length ≤ N.length := by have := congrArg List.length S.pre; rw [List.length_take] at this; omega
  obtain ⟨h1, tk, rfl, hk⟩ := x.done
  have noA : ∀ b : Addr, b ∉ (cxOf CX P w K mg base N qual scope f cd A outer s H E).ex := fun b z => absurd (show b ∈ ([] : List Addr) from z) (by simp)
  refine ⟨⟨e0.mod, S.kind, rfl, rfl, Nat.le_refl _, fun y z c h1 h2 => ?_, fun y hy => ?_, fun y c _ h => ?_, fun _ => hd, Around.frames_deeper e0.frames, .inr ⟨rfl, rfl⟩, fun b z => absurd z (noA b), e0.bs, e0.bsz, fun b _ _ => noA b, fun b z => absurd z (noA b), e0.funs, e0.frf⟩,
    rfl, e0.bare, Un.kept hk, ⟨_, x.toInCall.ns, fun i y v h1 h2 h3 => ?_⟩, fun y c h => ⟨_, x.cell y c h⟩, e0.hok.fresh (Nat.le_refl _), fun y c h => ?_, fun p hp => absurd (show p ∈ ([] : List (Addr × Obj)) from hp) (by simp), e0.hok.kept hk, ?_⟩
  · exact name_of_addr x.apart (PySem.mem_of_lookup h1) (PySem.mem_of_lookup h2)
  · have hy : scope.names.lookup y = some .cell ∨ scope.names.lookup y = some .free := hy
    rcases hy with hy | hy
    · exact cell_has hy
    · exact absurd rfl (S.nofree _ (PySem.mem_of_lookup hy))
  · exact Nat.le_of_lt (x.above y c (PySem.mem_of_lookup h))
  · have hi : i < vs.length := by
      unfold start at h2
      by_cases hi : i < vs.length
      · exact hi
      · rw [List.getElem?_append_right (by simpa using hi)] at h2
        rw [List.getElem?_replicate] at h2
        split at h2 <;> cases h2
    have ha : vs[i]? = some v := by
      unfold start at h2
      rw [List.getElem?_append_left (by simpa using hi), List.getElem?_map] at h2
      cases e : vs[i]? with
      | none => rw [e] at h2; cases h2
      | some a => rw [e] at h2; cases h2; rfl
    obtain ⟨u, hu, rv⟩ := r.get ha
    have hp : ps[i]? = some y := by
      rw [← S.pre, List.getElem?_take_of_lt (by omega)]; exact h1
    have ndP : ps.Nodup := by rw [← S.pre]; exact S.nd.sublist (List.take_sublist _ _)
    refine ⟨u, rv, ?_⟩
    rcases S.par y (List.mem_of_getElem? hp) with k | k
    · exact .inl ⟨k, bindL_get ndP hp hu k⟩
    · obtain ⟨c, e⟩ := cell_has (n := s.heap.objs.size + 1) k
      refine .inr ⟨.inl k, c, e, ?_⟩
      have q := x.cell y c e
      rw [bindC_get ndP hp hu (by show scope.names.lookup y ≠ _; rw [k]; decide)] at q
      exact q
  · exact e0.hok.fresh (Nat.le_of_lt (x.above y c (PySem.mem_of_lookup h)))
  · unfold start
    show _ = N.length
    rw [List.length_append, List.length_map, List.length_replicate]
    omega
theorem fn_of {CX : CXT} {P : Program} {w : World} {K : PySem.W.Frag} {mg : Str → Option Value} {base : Heap} {k : Nat} {f : Addr} {name qual : Str} {params : Arguments} {body : List Stmt} {scope : Scope} {dV kV doc pm cdv ct oc : Value} {an od : Option Addr}
    {osl : Array (Option Value)} {N ps : List Str} {sp : Sp} (lk : K.lookup f = some ⟨oc, od, .func (PySem.W.fnOf name qual params body scope dV kV doc pm an cdv ct), osl⟩) (hcd : PySem.W.codeIn K cdv qual = true) (S : FnScope N ps scope)
    (len : ∀ vs H Q E, sp vs H Q E → vs.length = ps.length)
    (hbody : ∀ (A : Around) (outer : List Env) (s : Shared) (H : Hp) (vs : List V) (Q : VK) (E : XK), Room k (A.deeper (envOfC qual scope s.heap.objs.size f cdv)) → sp vs H Q E →
      ∃ t, PSs (cxOf CX P w K mg base N qual scope f cdv A outer s H E) body t ∧ t { nx := fun _ H' => Q .non H', rt := Q } (start N vs) H) :
    FnOk P w K mg base CX (k + 1) f (PySem.W.fnOf name qual params body scope dV kV doc pm an cdv ct) ps sp := by
  refine ⟨len, fun A outer s H args us vs Q E hr e0 hb r hsp => ?_⟩
  have hl := len _ _ _ _ hsp
  have KX : K.In s.heap := e0.mod.kin.keeps fun b o e => (e0.bs b o e).1
  have lim : s.heap.NoLimit := e0.mod.nolimit.keeps fun b o e => (e0.bs b o e).1
  have hkind : ∀ y ∈ ps.zip us, scope.names.lookup y.1 = some .local ∨ (scope.names.lookup y.1 = some .cell ∧ ((cellsFrom (s.heap.objs.size + 1) scope.names []).lookup y.1).isSome = true) := fun ⟨n, v⟩ hy => by
    rcases S.par n (List.of_mem_zip hy).1 with q | q
    · exact .inl q
    · exact .inr ⟨q, PySem.W.cellsFrom_some _ _ _ (.inl q)⟩
  refine codeAny_call_function hr.depth (KX _ _ lk) rfl S.co S.gen rfl (PySem.W.codeRec_of KX hcd) (hb _ _ _ _ ?_)
  refine wpAny_newFunctionEnv_cells S.kind hkind fun env he s1 x => ?_
  subst he
  refine ⟨lim.keeps x.toInCall.keep, codeAny_func ?_⟩
  obtain ⟨t, ht, hq⟩ := hbody A outer s H vs Q E (hr.deeper _) hsp
  have I : Inv (cxOf CX P w K mg base N qual scope f cdv A outer s H E) [] (start N vs) H s1 := inv_start S hr.hd e0 hl r x
  refine wpAny_mono (ht [] s1 (start N vs) H _ I hq) (fun fl s' hs => ?_) fun e s' hs => hs
  have fin : ∀ {σ' : St} {H' : Hp} {v : V} {u : Value}, Inv (cxOf CX P w K mg base N qual scope f cdv A outer s H E) [] σ' H' s' → RelV v u → Q v H' → CE outer P w H s Q u s' :=
    fun {σ' H' v u} J rv q => ⟨v, H', J.os, J.bare, J.base, J.hok, rv, q⟩
  cases fl with
  | ret u =>
    obtain ⟨v, σ', H', J, rv, q⟩ := hs
    exact fin J rv q
  | next =>
    obtain ⟨σ', H', J, q⟩ := hs
    exact fin (v := V.non) (u := Value.none) J rfl q
  | brk =>
    obtain ⟨_, _, _, q⟩ := hs
    exact False.elim q
  | cont =>
    obtain ⟨_, _, _, q⟩ := hs
    exact False.elim q
end L2
namespace L2
open PySem PySem.Spec PyProof.Rows
section
variable {X : Cx} {x : Str} {p pos : Pos} {e : Expr} {es : List Expr} {t : TA} {id T : String} {r : List V → Hp → VK → Prop}
def tCB (r : List V → Hp → VK → Prop) (t : TA) : TE := fun σ H Q => t σ H fun vs H1 => r vs H1 Q
theorem pe_callB (hc : CallR X (.builtin id) r) (hg : Gl X x) (hm : X.mg x = none) (hv : bootBuiltins x = some (.builtin id)) (ha : PA X (e :: es) t) (hn : x ≠ "__name__" := by decide) (hdb : (x == ("__debug__" : Str)) = false := by decide)
    (he : starEach (e :: es) X.env = (false, eval e X.env) :: starEach es X.env := by rfl) (hpl : (backTo pos (starEach es X.env)).any (·.1) = false := by rfl) : PE X (.Call (.Name x p) (e :: es) [] pos) (tCB r t) := by
  intro pins s σ H Q I h
  refine wpAny_Call_Name_kw (ld_blt I hg hm hv ?_ hn hdb)
  exact PyProof.Rows.callWith_builtin1 (thn (ha pos pins s σ H _ I h) fun us s1 ⟨vs, H1, I1, r1, q1⟩ => hc pins s1 σ H1 vs us Q I1 r1 q1) he hpl
theorem pe_callTy (hc : CallR X (.type T) r) (hg : Gl X x) (hm : X.mg x = none) (hv : bootBuiltins x = some (.type T)) (ha : PA X (e :: es) t) (hn : x ≠ "__name__" := by decide) (hdb : (x == ("__debug__" : Str)) = false := by decide)
    (he : starEach (e :: es) X.env = (false, eval e X.env) :: starEach es X.env := by rfl) (hpl : (backTo pos (starEach es X.env)).any (·.1) = false := by rfl) : PE X (.Call (.Name x p) (e :: es) [] pos) (tCB r t) := by
  intro pins s σ H Q I h
  refine wpAny_Call_Name_kw (ld_blt I hg hm hv ?_ hn hdb)
  exact PyProof.Rows.callWith_type1 (thn (ha pos pins s σ H _ I h) fun us s1 ⟨vs, H1, I1, r1, q1⟩ => hc pins s1 σ H1 vs us Q I1 r1 q1) he hpl
end
end L2
namespace HT
open PySem PyProof.Rows
def lexLt : List Int → List Int → Bool
  | [], [] => false
  | [], _ :: _ => true
  | _ :: _, [] => false
  | x :: xs, y :: ys => if x = y then lexLt xs ys else decide (x < y)
theorem eqAt_int (A : Around) (s : Shared) (a : Int) (t : Tok) (c : Int) (u : Tok) : ∃ e, SeqAt.EqAt A s (.int a t) (.int c u) e ∧ (e = true ↔ a = c) :=
  ⟨(a == c), SeqAt.EqAt.int_int a t c u, by simp⟩
section
open PySem.SeqAt
open PySem.AutoSeq1 (wpAny_loadPart')
open PySem.MeetsSeq PySem.MeetsSeq2 PySem.MeetsSeq3
end
section
variable {prog : Program} {w : World} {A : Around} {E : Value → Shared → Prop} {s : Shared}
def sIx (n d : Nat) : Option Int → Nat
  | none => d
  | some v => if v < 0 then (v + (n : Int)).toNat else min v.toNat n
end
end HT
namespace L2
open PySem PySem.Spec PyProof.Rows
abbrev TO := St → Hp → (Option Int → Hp → Prop) → Prop
def PO (X : Cx) (e : Option Expr) (t : TO) : Prop :=
  ∀ (pins : List (Addr × Obj)) (s : Shared) (σ : St) (H : Hp) (Q : Option Int → Hp → Prop), Inv X pins σ H s → t σ H Q →
    wpAny (model X.prog X.w) X.A (evalPart e X.env) (fun u s' => ∃ o H', Inv X pins σ H' s' ∧ IsPart u o ∧ Q o H') X.xe s
def tNoPart : TO := fun _ H Q => Q none H
def tPart (t : TE) : TO := fun σ H Q => t σ H fun x H1 => ∃ i, x = .int i ∧ Q (some i) H1
section
variable {X : Cx} {e : Expr} {te : TE} {lo hi : Option Expr} {tl th : TO} {pos p2 : Pos}
theorem po_some (h : PE X e te) : PO X (some e) (tPart te) := by
  intro pins s σ H Q I hw
  rw [evalPart_some]
  refine thn (h pins s σ H _ I hw) fun u s1 ⟨x, H1, I1, r1, q1⟩ => ?_
  obtain ⟨i, rfl, q⟩ := q1
  obtain ⟨t, rfl⟩ := r1
  exact ⟨some i, H1, I1, .int i t, q⟩
def SlR (X : Cx) (r : V → Option Int → Option Int → Hp → VK → Prop) : Prop :=
  ∀ (pins : List (Addr × Obj)) (s : Shared) (σ : St) (H : Hp) (x : V) (v vl vu : Value) (lo hi : Option Int) (sl : Addr) (Q : VK), Inv X pins σ H s → RelV x v → s.heap.IsSliceOf sl vl vu .none → IsPart vl lo → IsPart vu hi → r x lo hi H Q →
    ∃ T id, typeLookup (.type T) "__getitem__" = pure (some (.builtin id)) ∧ s.TypeIs v T ∧ wpAny (model X.prog X.w) X.A (getItem v (.ref sl)) (EP X pins σ Q) X.xe s
theorem SlR.or {r r' : V → Option Int → Option Int → Hp → VK → Prop} (h : SlR X r) (h' : SlR X r') : SlR X (fun x lo hi H Q => r x lo hi H Q ∨ r' x lo hi H Q) := by
  intro pins s σ H x v vl vu lo hi sl Q I rx hs pl pu q
  rcases q with q | q
  · exact h pins s σ H x v vl vu lo hi sl Q I rx hs pl pu q
  · exact h' pins s σ H x v vl vu lo hi sl Q I rx hs pl pu q
def tSl (r : V → Option Int → Option Int → Hp → VK → Prop) (te : TE) (tl th : TO) : TE := fun σ H Q => te σ H fun x H1 => tl σ H1 fun l H2 => th σ H2 fun u H3 => r x l u H3 Q
theorem pe_slice {r : V → Option Int → Option Int → Hp → VK → Prop} (hr : SlR X r) (he : PE X e te) (hl : PO X lo tl) (hu : PO X hi th) : PE X (.Subscript e (.Slice lo hi none p2) pos) (tSl r te tl th) := by
  intro pins s σ H Q I h
  refine Subscript_ (thn (he pins s σ H _ I h) fun v s1 ⟨x, H1, I1, r1, q1⟩ => ?_)
  refine wpAny_Slice (thn (hl pins s1 σ H1 _ I1 q1) fun vl s2 ⟨l, H2, I2, pl, q2⟩ => thn (hu pins s2 σ H2 _ I2 q2) fun vu s3 ⟨u, H3, I3, pu, q3⟩ => ?_)
  rw [evalPart_none]
  refine wpAny_pure ?_
  have I4 : Inv X pins σ H3 { s3 with heap := s3.heap.push { cls := .type "slice", data := .fields #[vl, vu, .none] } } := I3.kept (t' := s3.toks) fun b ob q => Heap.get?_push_of_some _ q
  obtain ⟨T, id, hT, ht, hg⟩ := hr pins { s3 with heap := s3.heap.push { cls := .type "slice", data := .fields #[vl, vu, .none] } } σ H3 x v vl vu l u s3.heap.objs.size Q I4 r1 (Heap.IsSliceOf.new ..) pl pu q3
  show wpAny (model X.prog X.w) X.A (subscriptTail e (.Slice lo hi none p2) v (.ref s3.heap.objs.size)) (EP X pins σ Q) X.xe { s3 with heap := s3.heap.push { cls := .type "slice", data := .fields #[vl, vu, .none] } }
  exact tail_any (ops := [.ref s3.heap.objs.size, v]) ht hT hg (by with_unfolding_all rfl)
def cutV (xs : List V) (lo hi : Option Int) : List V := (xs.drop (HT.sIx xs.length 0 lo)).take (HT.sIx xs.length xs.length hi - HT.sIx xs.length 0 lo)
theorem cutV_length (xs : List V) (lo hi : Option Int) : (cutV xs lo hi).length ≤ xs.length := by
  unfold cutV
  rw [List.length_take, List.length_drop]
  omega
def rSlT (K : PySem.W.Frag) : V → Option Int → Option Int → Hp → VK → Prop := fun x lo hi H Q => ∃ a xs, x = .ref a ∧ SqT K H a xs ∧
  ¬ (HT.sIx xs.length 0 lo = 0 ∧ HT.sIx xs.length xs.length hi = xs.length) ∧ ∀ p, H p = none → Q (.ref p) (upd H p (.tup (cutV xs lo hi)))
def rLtT (K : PySem.W.Frag) : R2 := fun x y H Q => ∃ a b ns ms, x = .ref a ∧ y = .ref b ∧ SqT K H a (ns.map V.int) ∧ SqT K H b (ms.map V.int) ∧ Q (.bl (HT.lexLt ns ms)) H
def rCatT (K : PySem.W.Frag) : R2 := fun x y H Q => ∃ a b xs ys, x = .ref a ∧ y = .ref b ∧ SqT K H a xs ∧ SqT K H b ys ∧ xs ≠ [] ∧ xs.length + ys.length ≤ sizeLine ∧
  (ys = [] → Q (.ref a) H) ∧ (ys ≠ [] → ∀ p, H p = none → Q (.ref p) (upd H p (.tup (xs ++ ys))))
end
end L2
namespace L2
open PySem PySem.Spec PyProof.Rows
def ixN (n : Nat) (i : Int) : Option Nat := if 0 ≤ i then (if i < n then some i.toNat else none) else if -(n : Int) ≤ i then some (i + n).toNat else none
def atI {α : Type} (xs : List α) (i : Int) : Option α := (ixN xs.length i).bind fun j => xs[j]?
theorem ixN_seq {n : Nat} {i : Int} {j : Nat} (h : ixN n i = some j) : seqIndex? i n = some j ∧ j < n ∧ -(n : Int) ≤ i ∧ i < n := by
  unfold ixN at h
  by_cases h0 : 0 ≤ i
  · rw [if_pos h0] at h
    by_cases h1 : i < n
    · rw [if_pos h1] at h
      have e : i.toNat = j := Option.some.inj h
      exact ⟨by rw [seqIndex_of h0 h1, e], by omega, by omega, h1⟩
    · rw [if_neg h1] at h; cases h
  · rw [if_neg h0] at h
    by_cases h1 : -(n : Int) ≤ i
    · rw [if_pos h1] at h
      have e : (i + n).toNat = j := Option.some.inj h
      exact ⟨by rw [seqIndex_neg (by omega) h1, e], by omega, h1, by omega⟩
    · rw [if_neg h1] at h; cases h
theorem atI_get {α : Type} {xs : List α} {i : Int} {v : α} (h : atI xs i = some v) : ∃ j, seqIndex? i xs.length = some j ∧ xs[j]? = some v ∧ j < xs.length ∧ -(xs.length : Int) ≤ i ∧ i < xs.length := by
  unfold atI at h
  cases e : ixN xs.length i with
  | none => rw [e] at h; cases h
  | some j =>
    rw [e] at h
    obtain ⟨h1, h2, h3, h4⟩ := ixN_seq e
    exact ⟨j, h1, h, h2, h3, h4⟩
theorem atI_nat {α : Type} {xs : List α} {j : Nat} {v : α} (h : xs[j]? = some v) : atI xs (j : Int) = some v := by
  have hj : j < xs.length := (List.getElem?_eq_some_iff.mp h).1
  have e : ixN xs.length (j : Int) = some j := by
    unfold ixN
    rw [if_pos (by omega), if_pos (by omega)]; simp
  unfold atI; rw [e]; exact h
def PlainIx (b : Expr) : Prop := ∀ o i, subscripted b false o i = operate [o, i] (getItem o i)
def IxR (X : Cx) (r : R2) : Prop :=
  ∀ (value slice : Expr) (pins : List (Addr × Obj)) (s : Shared) (σ : St) (H : Hp) (x y : V) (v u : Value) (Q : VK), Inv X pins σ H s → RelV x v → RelV y u → r x y H Q →
    subscripted slice false v u = operate [v, u] (getItem v u) → wpAny (model X.prog X.w) X.A (subscriptTail value slice v u) (EP X pins σ Q) X.xe s
def MtR (X : Cx) (id : String) (r : V → List V → Hp → VK → Prop) : Prop :=
  ∀ (pins : List (Addr × Obj)) (s : Shared) (σ : St) (H : Hp) (x : V) (xs : List V) (v : Value) (us : List Value) (Q : VK), Inv X pins σ H s → RelV x v → Vals xs us → r x xs H Q →
    wpAny (model X.prog X.w) X.A (call (.builtin id) (v :: us)) (EP X pins σ Q) X.xe s
section
variable {X : Cx} {a b : Expr} {ta tb : TE} {pos : Pos}
theorem IxR.or {r r' : R2} (h : IxR X r) (h' : IxR X r') : IxR X (fun x y H Q => r x y H Q ∨ r' x y H Q) := by
  intro value slice pins s σ H x y v u Q I rx ry q hs
  rcases q with q | q
  · exact h value slice pins s σ H x y v u Q I rx ry q hs
  · exact h' value slice pins s σ H x y v u Q I rx ry q hs
theorem MtR.or {id : String} {r r' : V → List V → Hp → VK → Prop} (h : MtR X id r) (h' : MtR X id r') : MtR X id (fun x xs H Q => r x xs H Q ∨ r' x xs H Q) := by
  intro pins s σ H x xs v us Q I rx rs q
  rcases q with q | q
  · exact h pins s σ H x xs v us Q I rx rs q
  · exact h' pins s σ H x xs v us Q I rx rs q
theorem pe_ix {r : R2} (hr : IxR X r) (ha : PE X a ta) (hb : PE X b tb) (hs : PlainIx b) : PE X (.Subscript a b pos) (tOp r ta tb) := by
  intro pins s σ H Q I h
  exact Subscript_ (binT ha hb I h fun v u s2 x y H2 I2 rx ry q => hr a b pins s2 σ H2 x y v u Q I2 rx ry q (hs _ _))
def rIxL (K : PySem.W.Frag) : R2 := fun x y H Q => ∃ p xs i v, x = .ref p ∧ y = .int i ∧ SqL K H p xs ∧ atI xs i = some v ∧ Q v H
def rIxT (K : PySem.W.Frag) : R2 := fun x y H Q => ∃ p xs i v, x = .ref p ∧ y = .int i ∧ SqT K H p xs ∧ atI xs i = some v ∧ Q v H
def rIxS : R2 := fun x y H Q => ∃ z i c, x = .str z ∧ y = .int i ∧ z.length ≤ sizeLine ∧ atI z.cps.toList i = some c ∧ Q (.str ⟨#[c]⟩) H
theorem ix_list : IxR X (rIxL X.K) := by
  intro value slice pins s σ H x y v u Q I rx ry h hs
  obtain ⟨p, xs, i, z, rfl, rfl, hq, he, q⟩ := h
  cases rx
  obtain ⟨t, rfl⟩ := ry
  obtain ⟨its, r, pl, hz⟩ := I.list hq
  obtain ⟨j, h1, h2, h3, h4, h5⟩ := atI_get he
  obtain ⟨w, ew, rw'⟩ := r.get h2
  have hl := r.length
  have hn := line63
  have fin : EP X pins σ Q w s := ⟨z, H, I, rw', q⟩
  by_cases h0 : 0 ≤ i
  · have hj : i.toNat = j := by
      rw [seqIndex_of h0 h5] at h1
      exact Option.some.inj h1
    exact item_listR pl.isList h0 (by omega) (by rw [hj]; simpa using ew) fin hs
  · have hj : (i + (its.toArray.size : Int)).toNat = j := by
      rw [seqIndex_neg (by omega) h4] at h1
      rw [List.size_toArray, ← hl]
      exact Option.some.inj h1
    exact subscriptTail_builtinR (x := w) pl.isList.typeIs slot_list_getitem.lookup
      (wpAny_getItem_list_neg (Q := fun r s' => r = w ∧ EP X pins σ Q r s') pl.isList (by omega) (by rw [List.size_toArray] <;> omega) (by omega) (by rw [hj]; simpa using ew) ⟨rfl, fin⟩) hs
theorem ix_tup : IxR X (rIxT X.K) := by
  intro value slice pins s σ H x y v u Q I rx ry h hs
  obtain ⟨p, xs, i, z, rfl, rfl, hq, he, q⟩ := h
  cases rx
  obtain ⟨t, rfl⟩ := ry
  obtain ⟨its, r, pl, hz⟩ := I.tuple hq
  obtain ⟨j, h1, h2, h3, h4, h5⟩ := atI_get he
  obtain ⟨w, ew, rw'⟩ := r.get h2
  have hl := r.length
  have hn := line63
  have fin : EP X pins σ Q w s := ⟨z, H, I, rw', q⟩
  exact subscriptTail_builtinR (x := w) pl.typeIs slot_tuple_getitem.lookup
    (getItem_tuple (j := j) (Q := fun r s' => r = w ∧ EP X pins σ Q r s') pl (by omega) (by omega) (by rw [List.size_toArray, ← hl]; exact h1) (by simpa using ew) ⟨rfl, fin⟩) hs
def rIx (K : PySem.W.Frag) : R2 := fun x y H Q => rIxL K x y H Q ∨ rIxT K x y H Q ∨ rIxS x y H Q
theorem mapSeq_set (its : List Value) (n j : Nat) (u : Value) : Obj.mapSeq (·.setIfInBounds j u) { cls := .type "list", data := .seq its.toArray n } = { cls := .type "list", data := .seq (its.set j u).toArray n } := by
  simp [Obj.mapSeq]
theorem Inv.lst {pins : List (Addr × Obj)} {σ : St} {H : Hp} {s : Shared} {p : Addr} {xs : List V} (I : Inv X pins σ H s) (h : H p = some (.lst xs)) :
    ∃ (its : List Value) (n : Nat), Vals xs its ∧ s.heap.get? p = some { cls := .type "list", data := .seq its.toArray n } ∧ xs.length ≤ sizeLine := by
  obtain ⟨z, its, n, r, e⟩ := I.hok p _ h
  exact ⟨its, n, r, e, z⟩
theorem Inv.lstUpd {pins : List (Addr × Obj)} {σ : St} {H : Hp} {s : Shared} {p : Addr} {xs ys : List V} {its its' : List Value} {n n' : Nat} {f : Obj → Obj} (I : Inv X pins σ H s) (h : H p = some (.lst xs))
    (ho : s.heap.get? p = some { cls := .type "list", data := .seq its.toArray n }) (hf : f { cls := .type "list", data := .seq its.toArray n } = { cls := .type "list", data := .seq its'.toArray n' }) (r : Vals ys its') (hz : ys.length ≤ sizeLine) (t : Nat) :
    Inv X pins σ (upd H p (.lst ys)) { s with heap := s.heap.update p f, toks := t } := by
  have e : (s.heap.update p f).get? p = some { cls := .type "list", data := .seq its'.toArray n' } := by
    rw [Heap.get?_update_self f ho (by rw [hf] <;> rfl), hf]
  refine I.write (x := p) (e := p) (by rw [h]; trivial) (.inl rfl) (fun b u hb q => (Heap.get?_update_other _ _ (Ne.symm hb)).trans q) ⟨_, e⟩ ?_
  exact ⟨hz, its', n', r, e⟩
def rSetL : V → V → V → Hp → (Hp → Prop) → Prop := fun o i v H Q => ∃ p xs k j, o = .ref p ∧ i = .int k ∧ H p = some (.lst xs) ∧ ixN xs.length k = some j ∧ Q (upd H p (.lst (xs.set j v)))
theorem set_list : PSet X rSetL := by
  intro pins s σ H o i v ov iv u Q I ro ri rv h
  obtain ⟨p, xs, k, j, rfl, rfl, hp, hj, q⟩ := h
  cases ro
  obtain ⟨t, rfl⟩ := ri
  obtain ⟨its, n, r, ho, hz⟩ := I.lst hp
  obtain ⟨h1, h2, h3, h4⟩ := ixN_seq hj
  have hl := r.length
  have hn := line63
  have I' : Inv X pins σ (upd H p (.lst (xs.set j v))) { s with heap := s.heap.update p (Obj.mapSeq (·.setIfInBounds j u)) } :=
    I.lstUpd hp ho (mapSeq_set its n j u) (r.set rv j) (by rw [List.length_set]; exact hz) s.toks
  by_cases h0 : 0 ≤ k
  · have hk : k.toNat = j := by
      rw [seqIndex_of h0 h4] at h1
      exact Option.some.inj h1
    exact PySem.W.ki_setAt ho h0 (by omega) (by rw [List.size_toArray, ← hl]; exact h4) (by rw [hk]; exact ⟨_, I', q⟩)
  · have hk : (k + (its.toArray.size : Int)).toNat = j := by
      rw [seqIndex_neg (by omega) h3] at h1
      rw [List.size_toArray, ← hl]
      exact Option.some.inj h1
    exact PySem.W.ki_setBack ho (by omega) (by rw [List.size_toArray, ← hl]; exact h3) (by omega) (by rw [hk]; exact ⟨_, I', q⟩)
theorem slice_bounds (lo hi : Option Int) (n : Nat) : (sliceBounds lo hi none n).1 = ((HT.sIx n 0 lo : Nat) : Int) ∧ (sliceBounds lo hi none n).2.1 = ((HT.sIx n n hi : Nat) : Int) ∧ (sliceBounds lo hi none n).2.2 = 1 := by
  refine ⟨?_, ?_, rfl⟩
  · cases lo with
    | none => simp [sliceBounds, HT.sIx]
    | some i =>
      simp only [sliceBounds, HT.sIx, Option.getD_none, show (1 : Int) > 0 by decide, if_true]
      by_cases h : i < 0
      · simp only [h, if_true] <;> omega
      · simp only [h, if_false] <;> omega
  · cases hi with
    | none => simp [sliceBounds, HT.sIx]
    | some i =>
      simp only [sliceBounds, HT.sIx, Option.getD_none, show (1 : Int) > 0 by decide, if_true]
      by_cases h : i < 0
      · simp only [h, if_true] <;> omega
      · simp only [h, if_false] <;> omega
theorem slicePick_cut (its : List Value) (lo hi : Option Int) : slicePick its.toArray lo hi none = ((its.drop (HT.sIx its.length 0 lo)).take (HT.sIx its.length its.length hi - HT.sIx its.length 0 lo)).toArray := by
  obtain ⟨h1, h2, h3⟩ := slice_bounds lo hi its.toArray.size
  unfold slicePick
  rw [h1, h2, h3]
  simp only [sliceRange_one, pick_run, List.size_toArray] <;> rfl
def rSlL (K : PySem.W.Frag) : V → Option Int → Option Int → Hp → VK → Prop := fun x lo hi H Q => ∃ a xs, x = .ref a ∧ SqL K H a xs ∧ ∀ p, H p = none → Q (.ref p) (upd H p (.lst (cutV xs lo hi)))
theorem sl_list : SlR X (rSlL X.K) := by
  intro pins s σ H x v vl vu lo hi sl Q I rx hs pl pu h
  obtain ⟨a, xs, rfl, hx, q⟩ := h
  cases rx
  obtain ⟨its, r, ht, hz⟩ := I.list hx
  have hlen := r.length
  refine ⟨"list", _, slot_list_getitem.lookup, ht.isList.typeIs, ?_⟩
  refine wpAny_getItem_list_slice ht.isList hs pl pu .none (by simp) ?_ (by rw [List.size_toArray] <;> omega)
  rw [slicePick_cut, ← hlen]
  refine ⟨.ref s.heap.objs.size, _, I.laid (t' := s.toks) (o := .lst (cutV xs lo hi)) (fun b ob q => Heap.get?_push_of_some _ q) (Nat.le_refl _) ?_, rfl, q _ (I.hok.fresh (Nat.le_refl _))⟩
  exact ⟨Nat.le_trans (cutV_length xs lo hi) hz, _, 0, (r.drop (HT.sIx xs.length 0 lo)).take (HT.sIx xs.length xs.length hi - HT.sIx xs.length 0 lo), Heap.get?_push_size _ rfl⟩
def flatV : V → Bool
  | .non => true
  | .bl _ => true
  | .int _ => true
  | .str _ => true
  | _ => false
def eqV : V → V → Bool
  | .non, .non => true
  | .bl a, .bl b => a == b
  | .bl a, .int b => (if a then 1 else 0) == b
  | .int a, .bl b => a == (if b then 1 else 0)
  | .int a, .int b => a == b
  | .str a, .str b => a == b
  | _, _ => false
theorem eqAt_V {A : Around} {s : Shared} {y x : V} {u v : Value} (ry : RelV y u) (rx : RelV x v) (fy : flatV y = true) (fx : flatV x = true) : SeqAt.EqAt A s u v (eqV y x) := by
  cases y with
  | non =>
    cases ry
    cases x with
    | non => cases rx; exact SeqAt.EqAt.same _
    | bl b => cases rx; exact SeqAt.EqAt.none_bool b
    | int b => obtain ⟨t, rfl⟩ := rx; exact SeqAt.EqAt.none_int b t
    | str b => obtain ⟨t, rfl⟩ := rx; exact SeqAt.EqAt.none_str b t
    | _ => exact absurd (show false = true from fx) Bool.false_ne_true
  | bl a =>
    cases ry
    cases x with
    | non => cases rx; exact SeqAt.EqAt.bool_none a
    | bl b => cases rx; exact SeqAt.EqAt.bool_bool a b
    | int b => obtain ⟨t, rfl⟩ := rx; exact SeqAt.EqAt.bool_int a b t
    | str b => obtain ⟨t, rfl⟩ := rx; exact SeqAt.EqAt.bool_str a b t
    | _ => exact absurd (show false = true from fx) Bool.false_ne_true
  | int a =>
    obtain ⟨t', rfl⟩ := ry
    cases x with
    | non => cases rx; exact SeqAt.EqAt.int_none a t'
    | bl b => cases rx; exact SeqAt.EqAt.int_bool a t' b
    | int b => obtain ⟨t, rfl⟩ := rx; exact SeqAt.EqAt.int_int a t' b t
    | str b => obtain ⟨t, rfl⟩ := rx; exact SeqAt.EqAt.int_str a t' b t
    | _ => exact absurd (show false = true from fx) Bool.false_ne_true
  | str a =>
    obtain ⟨t', rfl⟩ := ry
    cases x with
    | non => cases rx; exact SeqAt.EqAt.str_none a t'
    | bl b => cases rx; exact SeqAt.EqAt.str_bool a t' b
    | int b => obtain ⟨t, rfl⟩ := rx; exact SeqAt.EqAt.str_int a t' b t
    | str b => obtain ⟨t, rfl⟩ := rx; exact SeqAt.EqAt.str_str a t' b t
    | _ => exact absurd (show false = true from fx) Bool.false_ne_true
  | _ => exact absurd (show false = true from fy) Bool.false_ne_true
def eqU (x : V) (u : Value) : Bool := match u with
  | .none => eqV .non x
  | .bool b => eqV (.bl b) x
  | .int i _ => eqV (.int i) x
  | .str z _ => eqV (.str z) x
  | _ => false
def inV (x : V) (xs : List V) : Bool := xs.any fun y => eqV y x
def rIn (K : PySem.W.Frag) (neg : Bool) : R2 := fun x y H Q => ∃ p xs, y = .ref p ∧ (SqL K H p xs ∨ SqT K H p xs) ∧ flatV x = true ∧ xs.all flatV = true ∧ Q (.bl (if neg then !inV x xs else inV x xs)) H
theorem call_len_seq : CallR X (.builtin "len") (fun xs H Q => ∃ p ys, xs = [.ref p] ∧ (SqL X.K H p ys ∨ SqT X.K H p ys) ∧ Q (.int ys.length) H) := by
  intro pins s σ H xs us Q I r h
  obtain ⟨p, ys, rfl, hq, q⟩ := h
  obtain ⟨u, rfl, rx⟩ := vals1 r
  cases rx
  have hn := line63
  rcases hq with hq | hq
  · obtain ⟨its, r', pl, hz⟩ := I.list hq
    have hlen := r'.length
    exact Calls.call_len_list pl.isList (by simp only [List.size_toArray] <;> omega) ⟨.int ys.length, H, I.tok _, ⟨s.toks + 1, by rw [List.size_toArray, hlen]⟩, q⟩
  · obtain ⟨its, r', pl, hz⟩ := I.tuple hq
    have hlen := r'.length
    exact len_tuple pl (by simp only [List.size_toArray] <;> omega) ⟨.int ys.length, H, I.tok _, ⟨s.toks + 1, by rw [List.size_toArray, hlen]⟩, q⟩
theorem CallR.or {f : Value} {r r' : List V → Hp → VK → Prop} (h : CallR X f r) (h' : CallR X f r') : CallR X f (fun xs H Q => r xs H Q ∨ r' xs H Q) := by
  intro pins s σ H xs us Q I rs q
  rcases q with q | q
  · exact h pins s σ H xs us Q I rs q
  · exact h' pins s σ H xs us Q I rs q
theorem call_tuple_of : CallR X (.type "tuple") (fun xs H Q => ∃ p ys, xs = [.ref p] ∧ ((SqL X.K H p ys ∧ ∀ l, H l = none → Q (.ref l) (upd H l (.tup ys))) ∨ (SqT X.K H p ys ∧ Q (.ref p) H))) := by
  intro pins s σ H xs us Q I r h
  obtain ⟨p, ys, rfl, h⟩ := h
  obtain ⟨u, rfl, rx⟩ := vals1 r
  cases rx
  rcases h with ⟨hq, q⟩ | ⟨hq, q⟩
  · obtain ⟨its, r', pl, hz⟩ := I.list hq
    have hlen := r'.length
    refine call_tuple_list pl.isList (fun h' kp => ?_) (by simp only [List.size_toArray] <;> omega)
    have I1 : Inv X pins σ H { s with heap := h' } := I.kept (t' := s.toks) kp
    have I2 : Inv X pins σ (upd H h'.objs.size (.tup ys)) { s with heap := h'.push { cls := .type "tuple", data := .seq its.toArray } } :=
      I1.laid (t' := s.toks) (fun b o e => Heap.get?_push_of_some _ e) (Nat.le_refl _) (show ObjOk X.prog X.w _ _ _ (.tup ys) from ⟨hz, its, r', IsTup.new _ _⟩)
    exact ⟨.ref h'.objs.size, _, I2, rfl, q _ (I1.hok.fresh (Nat.le_refl _))⟩
  · obtain ⟨its, r', pl, hz⟩ := I.tuple hq
    exact call_tuple_same pl ⟨.ref p, H, I, rfl, q⟩
def tyV (K : PySem.W.Frag) (T : String) (x : V) (H : Hp) : Prop := match x with
  | .str _ => T = "str"
  | .int _ => T = "int"
  | .ref p => (T = "list" ∧ ∃ xs, SqL K H p xs) ∨ (T = "tuple" ∧ ∃ o, K.lookup p = some o ∧ o.cls = .type "tuple" ∧ o.dict = none) ∨
      (T = "dict" ∧ ((∃ kvs, H p = some (.dK kvs)) ∨ ∃ kvs, H p = some (.dT kvs))) ∨ (T = "set" ∧ ∃ S n, H p = some (.set S n))
  | _ => False
theorem tyV_is {pins : List (Addr × Obj)} {σ : St} {H : Hp} {s : Shared} {T : String} {x : V} {v : Value} (I : Inv X pins σ H s) (r : RelV x v) (ty : tyV X.K T x H) :
    s.TypeIs v T ∧ ∀ a, v = .ref a → ∃ ob, s.heap.get? a = some ob ∧ ob.dict = none := by
  cases x with
  | str z =>
    obtain ⟨t, rfl⟩ := r
    cases (show T = "str" from ty)
    exact ⟨typeIs_str s z t, fun _ e => nomatch e⟩
  | int i =>
    obtain ⟨t, rfl⟩ := r
    cases (show T = "int" from ty)
    exact ⟨typeIs_int s i t, fun _ e => nomatch e⟩
  | ref p =>
    cases r
    rcases ty with ⟨rfl, xs, hq⟩ | ⟨rfl, o, hk, hc, hd⟩ | ⟨rfl, hk⟩ | ⟨rfl, S, n, hk⟩
    · obtain ⟨its, _, pl, _⟩ := I.list hq
      refine ⟨pl.isList.typeIs, fun a e => ?_⟩
      cases e
      obtain ⟨o, n, e, c, hd, _⟩ := pl
      exact ⟨o, e, hd⟩
    · refine ⟨⟨o, I.kIn p o hk, hc⟩, fun a e => ?_⟩
      cases e
      exact ⟨o, I.kIn _ o hk, hd⟩
    · have z : ∃ o, s.heap.get? p = some o ∧ o.ExactDict := by
        rcases hk with ⟨kvs, hk⟩ | ⟨kvs, hk⟩
        · obtain ⟨_, _, _, _, o, _, _, e, ex, _⟩ := I.hok p _ hk
          exact ⟨o, e, ex⟩
        · obtain ⟨_, _, _, _, o, _, _, e, ex, _⟩ := I.hok p _ hk
          exact ⟨o, e, ex⟩
      obtain ⟨o, e, ex⟩ := z
      refine ⟨⟨o, e, ex.1⟩, fun a e2 => ?_⟩
      cases e2
      exact ⟨o, e, ex.2.1⟩
    · obtain ⟨o, _, _, _, e, ex, _⟩ := I.hok p _ hk
      refine ⟨⟨o, e, ex.1⟩, fun a e2 => ?_⟩
      cases e2
      exact ⟨o, e, ex.2.1⟩
  | _ => exact False.elim ty
def tBM0 (K : PySem.W.Frag) (T : String) (r : V → List V → Hp → VK → Prop) (to : TE) : TE := fun σ H Q => to σ H fun x H1 => tyV K T x H1 ∧ r x [] H1 Q
def tBM (K : PySem.W.Frag) (T : String) (r : V → List V → Hp → VK → Prop) (to : TE) (t : TA) : TE := fun σ H Q => to σ H fun x H1 => tyV K T x H1 ∧ t σ H1 fun xs H2 => r x xs H2 Q
variable {o e : Expr} {es : List Expr} {to : TE} {t : TA} {name : Str} {apos cpos : Pos} {T id : String} {r : V → List V → Hp → VK → Prop}
theorem pe_bm0 (pa : PlainAttrs T) (slot : Slot T name id) (hty : typeOf (.builtin id) = pure (.type "method_descriptor")) (hm : MtR X id r) (ho : PE X o to)
    (hbase : attributeBase o name X.env (eval o X.env) = eval o X.env := by rfl) (hline : (apos.endLine == cpos.line) = true := by rfl) : PE X (.Call (.Attribute o name apos) [] [] cpos) (tBM0 X.K T r to) := by
  intro pins s σ H Q I h
  refine wpAny_Call_method0_late hbase hline (thn (ho pins s σ H _ I h) fun v s1 ⟨x, H1, I1, r1, ty, q1⟩ => ?_)
  obtain ⟨h1, h2⟩ := tyV_is I1 r1 ty
  exact ⟨T, id, pa, slot, hty, h1, h2, Calls.callWith_builtin rfl (PySem.evalArgs_none (hm pins s1 σ H1 x [] v [] Q I1 r1 .nil q1))⟩
theorem pe_bm (pa : PlainAttrs T) (slot : Slot T name id) (hty : typeOf (.builtin id) = pure (.type "method_descriptor")) (hm : MtR X id r) (ho : PE X o to) (ha : PA X (e :: es) t)
    (hbase : attributeBase o name X.env (eval o X.env) = eval o X.env := by rfl)
    (hfew : ((backTo cpos (starEach (e :: es) X.env)).all (fun x => !x.1) && (backToKw cpos (keywordEach [] X.env)).all (fun x => x.1.isSome)
      && decide ((e :: es).length + ([] : List Keyword).length + (if ([] : List Keyword).isEmpty then 0 else 1) < 30)) = true := by rfl)
    (hline : (apos.endLine == cpos.line) = true := by rfl) (hs : starEach (e :: es) X.env = (false, eval e X.env) :: starEach es X.env := by rfl) (hplain : (backTo cpos (starEach es X.env)).any (·.1) = false := by rfl) :
    PE X (.Call (.Attribute o name apos) (e :: es) [] cpos) (tBM X.K T r to t) := by
  intro pins s σ H Q I h
  refine wpAny_Call_method_late hbase hfew hline rfl (thn (ho pins s σ H _ I h) fun v s1 ⟨x, H1, I1, r1, ty, q1⟩ => ?_)
  obtain ⟨h1, h2⟩ := tyV_is I1 r1 ty
  refine ⟨T, id, pa, slot, hty, h1, h2, ?_⟩
  have hA := ha cpos pins s1 σ H1 _ I1 q1
  rw [hs] at hA ⊢
  refine Calls.callWith_builtin (by show (false || (backTo cpos (starEach es X.env)).any (·.1)) = false; rw [hplain] <;> rfl) (Calls.evalArgs_plain ?_)
  exact thn hA fun us s2 ⟨vs, H2, I2, r2, q2⟩ => hm pins s2 σ H2 x vs v us Q I2 r1 r2 q2
/- xs.append(e), list.index on a module's tuple .. are MtR facts of 06m -/
end
end L2
namespace L2
open PySem PySem.Spec PyProof.Rows
def MtM (X : Cx) (id : String) (r : V → List V → Hp → VK → Prop) : Prop :=
  ∀ (pins : List (Addr × Obj)) (s : Shared) (σ : St) (H : Hp) (x : V) (xs : List V) (v : Value) (us : List Value) (Q : VK), Inv X pins σ H s → RelV x v → Vals xs us → r x xs H Q →
    wpAny (model X.prog X.w) X.A (call (.builtin id) (v :: us)) (EP X pins σ Q) X.xe s
theorem Vals.one : ∀ {x : V} {us : List Value}, Vals [x] us → ∃ u, us = [u] ∧ RelV x u
  | _, _, .cons r .nil => ⟨_, rfl, r⟩
theorem Vals.zero : ∀ {us : List Value}, Vals [] us → us = []
  | _, .nil => rfl
theorem Vals.dropLast {xs : List V} {us : List Value} (h : Vals xs us) : Vals xs.dropLast us.dropLast := by
  induction h with
  | nil => exact .nil
  | cons r t ih =>
    cases t with
    | nil => exact .nil
    | cons q t' => exact .cons r ih
theorem Vals.eraseIdx : ∀ {xs : List V} {us : List Value} (i : Nat), Vals xs us → Vals (xs.eraseIdx i) (us.eraseIdx i)
  | _, _, _, .nil => .nil
  | _, _, 0, .cons _ t => t
  | _, _, i + 1, .cons r t => .cons r (Vals.eraseIdx i t)
theorem Vals.reverse {xs : List V} {us : List Value} (h : Vals xs us) : Vals xs.reverse us.reverse := by
  induction h with
  | nil => exact .nil
  | cons r t ih => rw [List.reverse_cons, List.reverse_cons]; exact Vals.append ih (.cons r .nil)
section
variable {X : Cx} {pins : List (Addr × Obj)} {σ : St} {H : Hp} {s : Shared} {l b : Addr} {xs ys zs : List V}
theorem Inv.lset {its its' : List Value} {n : Nat} {f : Array Value → Array Value} {t' : Nat} (I : Inv X pins σ H s) (hH : H l = some (.lst xs))
    (e : s.heap.get? l = some { cls := .type "list", data := .seq its.toArray n }) (hf : f its.toArray = its'.toArray) (hv : Vals ys its') (hz : ys.length ≤ sizeLine) :
    Inv X pins σ (upd H l (.lst ys)) { s with heap := s.heap.update l (Obj.mapSeq f), toks := t' } := by
  have q := PySem.IsL.update e f
  rw [hf] at q
  refine I.write (x := l) (e := l) (by rw [hH]; exact trivial) (.inl rfl) (fun b' u hb hu => (Heap.get?_update_other s.heap (Obj.mapSeq f) (Ne.symm hb)).trans hu) ⟨_, q⟩ ?_
  exact ⟨hz, its', _, hv, q⟩
theorem Inv.lnew {its : List Value} {t' : Nat} (I : Inv X pins σ H s) (hv : Vals ys its) (hz : ys.length ≤ sizeLine) :
    Inv X pins σ (upd H s.heap.objs.size (.lst ys)) { s with heap := s.heap.push { cls := .type "list", data := .seq its.toArray }, toks := t' } :=
  I.laid (fun _ _ q => Heap.get?_push_of_some _ q) (Nat.le_refl _) ⟨hz, its, 0, hv, Heap.get?_push_size _ rfl⟩
theorem Inv.fresh (I : Inv X pins σ H s) : H s.heap.objs.size = none := I.hok.fresh (Nat.le_refl _)
theorem Inv.lstM (I : Inv X pins σ H s) (hH : H l = some (.lst xs)) : xs.length ≤ sizeLine ∧ ∃ (its : List Value) (n : Nat), Vals xs its ∧ xs.length = its.length ∧ s.heap.get? l = some { cls := .type "list", data := .seq its.toArray n } := by
  obtain ⟨z, its, n, r, e⟩ := I.hok l _ hH
  exact ⟨z, its, n, r, r.length, e⟩
theorem notLongL {n : Nat} (h : n ≤ sizeLine) : Builtin.List.listTooLong n = false := by
  unfold Builtin.List.listTooLong
  exact decide_eq_false (by omega)
end
section
variable {X : Cx}
def rAppend : V → List V → Hp → VK → Prop := fun x vs H Q => ∃ l xs y, x = .ref l ∧ vs = [y] ∧ H l = some (.lst xs) ∧ xs.length < sizeLine ∧ Q .non (upd H l (.lst (xs ++ [y])))
theorem mt_append : MtM X "list.append" rAppend := by
  intro pins s σ H x vs v us Q I rx rv h
  obtain ⟨l, xs, y, rfl, rfl, hH, hz, q⟩ := h
  cases rx
  obtain ⟨u, rfl, ru⟩ := rv.one
  obtain ⟨z, its, n, r, hl, e⟩ := I.lstM hH
  refine call_meets F.slot_list_append ⟨_, e, rfl⟩ F.entry_list_append (F.args_list_append_2 _ _) (PySem.list_append l its.toArray n u (by rw [List.size_toArray]; omega)) ⟨e, ?_⟩
  refine ⟨.non, _, I.lset (its' := its ++ [u]) hH e (by simp) (r.append (.cons ru .nil)) ?_, rfl, q⟩
  rw [List.length_append, List.length_singleton]
  omega
def rExtend : V → List V → Hp → VK → Prop := fun x vs H Q => ∃ l b xs zs, x = .ref l ∧ vs = [.ref b] ∧ H l = some (.lst xs) ∧ H b = some (.lst zs) ∧ xs.length + zs.length ≤ sizeLine ∧ Q .non (upd H l (.lst (xs ++ zs)))
def rPop : V → List V → Hp → VK → Prop := fun x vs H Q => ∃ l xs y, x = .ref l ∧ vs = [] ∧ H l = some (.lst xs) ∧ xs[xs.length - 1]? = some y ∧ Q y (upd H l (.lst xs.dropLast))
def rPopAt : V → List V → Hp → VK → Prop := fun x vs H Q => ∃ l xs i k y, x = .ref l ∧ vs = [.int i] ∧ H l = some (.lst xs) ∧ -(2 ^ 63) ≤ i ∧ i < 2 ^ 63 ∧ seqIndex? i xs.length = some k ∧ xs[k]? = some y ∧ Q y (upd H l (.lst (xs.eraseIdx k)))
def rReverse : V → List V → Hp → VK → Prop := fun x vs H Q => ∃ l xs, x = .ref l ∧ vs = [] ∧ H l = some (.lst xs) ∧ Q .non (upd H l (.lst xs.reverse))
def rClear : V → List V → Hp → VK → Prop := fun x vs H Q => ∃ l xs, x = .ref l ∧ vs = [] ∧ H l = some (.lst xs) ∧ Q .non (upd H l (.lst []))
def rCat : R2 := fun x y H Q => ∃ l b xs zs, x = .ref l ∧ y = .ref b ∧ H l = some (.lst xs) ∧ H b = some (.lst zs) ∧ xs.length + zs.length ≤ sizeLine ∧ ∀ p, H p = none → Q (.ref p) (upd H p (.lst (xs ++ zs)))
def rRep : R2 := fun x y H Q => ∃ l k xs, x = .ref l ∧ y = .int k ∧ H l = some (.lst xs) ∧ -(2 ^ 63) ≤ k ∧ k < 2 ^ 63 ∧ xs.length * k.toNat ≤ sizeLine ∧
  ∀ p, H p = none → Q (.ref p) (upd H p (.lst (List.replicate k.toNat xs).flatten))
end
section
variable {prog : Program} {w : World} {A : Around} {E : Value → Shared → Prop} {s : Shared}
theorem bounds_run {a c n : Nat} (hac : a ≤ c) (hc : c ≤ n) : sliceBounds (some (a : Int)) (some (c : Int)) none n = ((a : Int), (c : Int), 1) := by
  simp only [sliceBounds, Option.getD_none]
  have h1 : ¬ ((a : Int) < 0) := by omega
  have h2 : ¬ ((c : Int) < 0) := by omega
  simp only [h1, h2, if_false, show (1 : Int) > 0 by decide, if_true]
  congr 1
  · omega
  · congr 1; omega
set_option maxRecDepth 100000 in
theorem setItem_slice {l b sl : Addr} {items new : Array Value} {n n2 : Nat} {vl vu : Value} {a c : Nat} {Q : Unit → Shared → Prop}
    (e : s.heap.get? l = some { cls := .type "list", data := .seq items n }) (e2 : s.heap.get? b = some { cls := .type "list", data := .seq new n2 }) (hne : l ≠ b)
    (hs : s.heap.IsSliceOf sl vl vu .none) (pl : IsPart vl (some (a : Int))) (pu : IsPart vu (some (c : Int))) (hac : a ≤ c) (hc : c ≤ items.size)
    (hsz : items.size + new.size ≤ sizeLine) (h : Q () { s with heap := s.heap.update l (Obj.mapSeq fun xs => xs.extract 0 a ++ new ++ xs.extract c xs.size) }) :
    wpAny (model prog w) A (setItem (.ref l) (.ref sl) (.ref b)) Q E s := by
  have hl : s.heap.IsList l items := PySem.IsL.isList e
  have hb : s.heap.IsList b new := PySem.IsL.isList e2
  obtain ⟨os, hos, hcs, hds⟩ := id hs
  have hTs : s.TypeIs (.ref sl) "slice" := ⟨os, hos, hcs⟩
  have hstep : ¬ ((rawPart none == rawInt 0) = true) := Bool.false_ne_true
  have hsame : Builtin.List.listSameRef (.ref l) (.ref b) = false := by
    unfold Builtin.List.listSameRef
    exact beq_eq_false_iff_ne.mpr hne
  have hmax : (max (a : Int) (c : Int)).toNat = c := by omega
  have hz' : ((fun xs : Array Value => xs.extract 0 a ++ new ++ xs.extract c xs.size) items).size ≤ sizeLine + 1 := by
    simp only [Array.size_append, Array.size_extract]
    omega
  unfold setItem
  try with_reducible refine wpAny_holding ?_
  first | refine wpAny_bind (wpAny_pure ?_) | skip
  refine wpAny_bind (wpAny_sequenceKey hl.typeIs (by decide) ?_)
  refine wpAny_bind (wpAny_callSpecial?_slot (name := Str.ofString "__setitem__") hl.typeIs slot_list_setitem
    (wpAny_call_entry slot_list_setitem hl.typeIs entry_list_setitem ?_ (args_list_setitem _ _ _)))
  show wpAny _ _ (Builtin.List.listSubscript? (.ref sl) >>= _) _ _ s
  refine wpAny_bind ?_
  unfold Builtin.List.listSubscript?
  refine wpAny_bind (wpAny_specialOf hTs slice_no_index ?_)
  simp only [Option.isNone_none, if_true]
  refine wpAny_pure ?_
  show wpAny _ _ (typeOf (.ref sl) >>= _) _ _ s
  refine wpAny_bind (wpAny_typeOf hTs ?_)
  first
    | rw [if_neg (by decide)]
    | refine PySem.W.KFB.if_not (by decide) ?_
  rw [listSliceParts_eq]
  refine wpAny_bind (wpAny_bind (wpAny_field hos hds (x := .none) rfl (wpAny_bind (wpAny_listPart .none ?_))))
  rw [if_neg hstep]
  refine wpAny_bind (wpAny_field hos hds (x := vl) rfl (wpAny_bind (wpAny_listPart pl ?_)))
  refine wpAny_bind (wpAny_field hos hds (x := vu) rfl (wpAny_bind (wpAny_listPart pu (wpAny_pure ?_))))
  first
    | simp only [hsame, Bool.false_eq_true, if_false]
    | refine PySem.W.KFB.if_not hsame ?_
    | (dsimp only
       rw [if_neg (by rw [hsame]; exact Bool.false_ne_true)])
  refine wpAny_bind (m := Builtin.List.listAllItems (.ref b) "must assign iterable to extended slice") ?_
  unfold Builtin.List.listAllItems
  refine wpAny_bind (wpAny_typeOf hb.typeIs ?_)
  first
    | refine PySem.W.KFB.if_so (by decide) ?_
    | rw [if_pos (by decide)]
    | simp only [beq_self_eq_true, Bool.true_or, if_true]
  unfold Builtin.List.listItems
  refine wpAny_bind (wpAny_seqItems e2 rfl (wpAny_pure ?_))
  refine wpAny_bind (wpAny_bind (wpAny_seqItems e rfl (wpAny_pure ?_)))
  refine wpAny_bind (wpAny_of_eq ((sliceIndices_raw (some (a : Int)) (some (c : Int)) none items.size (by simp)).trans (congrArg (pure : Int × Int × Int → Sem (Int × Int × Int)) (bounds_run hac hc))) ?_)
  show wpAny _ _ (if ((1 : Int) == 1) = true then _ else _) _ _ s
  rw [if_pos (by decide)]
  refine wpAny_bind (wpAny_rule ?_)
  first
    | simp only [notLongL hsz, Bool.false_eq_true, if_false]
    | refine PySem.W.KFB.if_not (notLongL hsz) ?_
  first | refine wpAny_bind (wpAny_pure ?_) | skip
  show wpAny _ _ (updateSeq l (fun xs => xs.extract 0 ((a : Int)).toNat ++ new ++ xs.extract (max (a : Int) (c : Int)).toNat xs.size) >>= _) _ _ s
  rw [hmax, Int.toNat_natCast]
  refine wpAny_bind (wpAny_updateSeq (hz := Nat.le_trans (Nat.le_add_right _ _) hsz) (_hz' := hz') e rfl ?_)
  refine wpAny_bind (wpAny_letGo ?_)
  first
    | exact wpAny_bind (wpAny_pure (wpAny_pure ⟨.none, rfl, wpAny_pure h⟩))
    | exact wpAny_pure ⟨.none, rfl, wpAny_pure h⟩
end
section
variable {X : Cx}
end
end L2
namespace Att
open PySem PySem.W PySem.Calls PyProof.Rows
theorem ints_of_wellAll {P : Params} {h : Heap} : ∀ (ns : List Int) (vs : List Value), WellAll P h vs (ns.map WData.int) → IntsAre vs ns := by
  intro ns
  induction ns with
  | nil =>
    intro vs w
    rw [List.map_nil] at w
    cases w
    exact .nil
  | cons n ns ih =>
    intro vs w
    rw [List.map_cons] at w
    cases w with
    | cons a b =>
      cases a
      exact .cons _ _ (ih _ b)
theorem script_of {l : OpenLaw} {n : Nat} (hn : l.most = some n) {P : Params} {h : Heap} {args : List WData} {vals : List Value}
    (hpre : l.row.toRowW.claim.pre args = true) (hwl : WellAll P h vals args) :
    ∃ a vs ns, vals = [Value.ref a] ∧ args = [WData.list (ns.map WData.int)] ∧ h.get? a = some { cls := .type "list", data := .seq vs.toArray } ∧ IntsAre vs ns ∧ ns.length ≤ n := by
  have hsh : WShape.hasAll [] args [.list .int] = true := (pre_splitW hpre).1
  have hc : l.pre.holds [] { args := args } = true := (pre_splitW hpre).2
  obtain ⟨d, r, rfl, h1, h2⟩ := hasAllW_cons hsh
  obtain rfl := hasAllW_nil h2
  obtain ⟨xs, rfl, h3⟩ := hasW_list h1
  obtain ⟨ns, rfl⟩ := items_int h3
  have hlen : ns.length ≤ n := by
    unfold OpenLaw.pre at hc
    have h4 : (WTm.not (.lt (.lit (.int (n : Int))) (.len (.arg 0)))).holds [] { args := [.list (ns.map .int)] } = true := by
      have h4 := (holds_andW hc).1
      rw [hn] at h4
      exact h4
    have h5 := condW_of h4 (w_not (w_lt w_lit (w_len_list (w_arg rfl))))
    rw [List.length_map] at h5
    refine Nat.le_of_not_lt fun q => ?_
    have q' : (n : Int) < ((ns.length : Nat) : Int) := by omega
    first
      | (rw [decide_eq_true q'] at h5; exact absurd h5 (by decide))
      | (simp at h5; omega)
  cases hwl with
  | cons w1 w2 =>
    cases w2
    cases w1 with
    | list ho hall => exact ⟨_, _, ns, rfl, rfl, ho, ints_of_wellAll ns _ hall, hlen⟩
theorem post_true (l : OpenLaw) (args : List WData) : l.row.toRowW.claim.post args (.bool true) args = true :=
  postW_of (r := l.row.toRowW) (X := (true == true))
    (show WShape.has [] (.bool true) .bool = true by first | rfl | decide | simp [WShape.has, WShape.arms, WShape.armsAll])
    (show (WTm.eq .res (.lit (.bool true))).value [] { args := args, res := some (.bool true), after := args } = some (.bool (true == true)) from w_eq_bool (w_res rfl) w_lit) rfl
theorem attach_call {l : OpenLaw} {n : Nat} {q : Program} {loose : List Str} {XP : (Str → Option Value) → Heap → Prop} {YP : World → Heap → Prop} {d : DefRec}
    (hn : l.most = some n) (hdf : d.params.defaults = [])
    (call : ∀ (w : World) (s₀ s₁ : Shared) (mg mb : Str → Option Value) (fa : Addr) (o : Obj) (pm cd doc : Value) (a : Addr) (vs : List Value) (ns : List Int),
      Ground q loose [] XP w s₀ mg mb s₁.heap → YP w s₁.heap →
      s₁.heap.get? fa = some o → o.data = .func (docDef d.name d.params d.body d.scope pm cd doc) → s₁.heap.CodeRec cd d.name → mg d.name = some (.ref fa) →
      s₁.heap.get? a = some { cls := .type "list", data := .seq vs.toArray } → IntsAre vs ns → ns.length ≤ n → s₁.gens = #[] →
      codeAny (model l.prog w) callerA (.call (.ref fa) ⟨[.ref a], []⟩) (fun r s' => r = .ok (.ret (.bool true)) ∧ OldK s₁.heap s'.heap ∧ s'.os = s₁.os ∧ AllBare s'.gens) s₁) :
    WalkO q loose XP YP l.row.toRowW d [] (fun f vs => PySem.call f vs) := by
  intro w s₀ s₁ mg mb G Y fa o pm cd doc dV kV ho hd hcd hD hmg hg args vals as hpre hlay hrd hwl hlo
  obtain rfl : dV = .none := Dflts.none hD hdf
  obtain rfl : kV = .none := Dflts.noKw hD
  obtain ⟨a, vs, ns, rfl, rfl, hobj, hints, hlen⟩ := script_of hn hpre hwl
  refine enter_call (codeAny_mono (call w s₀ s₁ mg mb fa o pm cd doc a vs ns G Y ho (fd_plain hd) hcd hmg hobj hints hlen hg) fun r s' hq => ?_)
  obtain ⟨rfl, h2, h3, h4⟩ := hq
  exact ⟨.inl ⟨.bool true, .bool true, [], rfl, fun _ => rfl, .bool true, post_true l _, fun _ => ⟨List.Pairwise.nil, fun _ hm => (nomatch hm)⟩⟩, h2, h3, h4⟩
section
variable {prog : Program} {w : World} {A : Around} {E : Value → Shared → Prop} {s : Shared} {K : Frag}
def noObjs (h : Heap) : Heap := { h with objs := #[] }
def ledger (h : Heap) (L d : Addr) : List (Addr × Obj) := (List.range h.objs.size).filterMap fun a => if a = L ∨ a = d then none else (h.get? a).map fun o => (a, o)
end
end Att
namespace L2
open PySem PySem.Spec PyProof.Rows
theorem vals_ints : ∀ {vs : List Value} {ns : List Int}, IntsAre vs ns → Vals (ns.map V.int) vs
  | _, _, .nil => .nil
  | _, _, .cons n t h => .cons ⟨t, rfl⟩ (vals_ints h)
def Only (H : Hp) : Prop := ∀ b, H b = none ∨ ∃ o xs, H b = some (.frz o (.lst xs))
theorem law_call {P : Program} {w : World} {K : PySem.W.Frag} {mg mb : Str → Option Value} {CX : CXT} {k : Nat} {fa a : Addr} {fd : FuncData} {x : Str} {sp : Sp} {s₁ : Shared} {vs : List Value} {ns : List Int}
    (KX : K.In s₁.heap) (hns : s₁.heap.Ns mainGlobals mg) (hb : s₁.heap.Ns builtinsNs mb) (hbb : ∀ x : Str, x ≠ "__name__" → mb x = bootBuiltins x) (hlim : s₁.heap.NoLimit) (hg : s₁.gens = #[])
    (ha : s₁.heap.get? a = some { cls := .type "list", data := .seq vs.toArray }) (hi : IntsAre vs ns) (hl : ns.length ≤ sizeLine) (hr : Room k callerA)
    (F : ∀ base : Heap, K.In base → base.Ns mainGlobals mg → FnOk P w K mg base CX k fa fd [x] sp) (hbind : ∀ (s : Shared) (u : Value), BindsTo s fd ⟨[u], []⟩ [(x, u)])
    (hsp : ∀ H : Hp, Only H → SqL K H a (ns.map V.int) → sp [.ref a] H (fun v _ => v = .bl true) fun _ _ _ => False)
    (hCX : ∀ H e s', CX [] H s₁ (fun _ _ _ => False) e s' → False) :
    codeAny (model P w) callerA (.call (.ref fa) ⟨[.ref a], []⟩) (fun r s' => r = .ok (.ret (.bool true)) ∧ OldK s₁.heap s'.heap ∧ s'.os = s₁.os ∧ AllBare s'.gens) s₁ := by
  have rv := vals_ints hi
  have lenV := hi.length
  -- from an abstract heap in which nothing but the script may be tracked
  have core : ∀ H : Hp, Only H → SqL K H a (ns.map V.int) → HOk P w H s₁.heap → (∀ b, H b ≠ none → b = a) → (H a ≠ none → K.lookup a = none) →
      codeAny (model P w) callerA (.call (.ref fa) ⟨[.ref a], []⟩) (fun r s' => r = .ok (.ret (.bool true)) ∧ OldK s₁.heap s'.heap ∧ s'.os = s₁.os ∧ AllBare s'.gens) s₁ := by
    intro H hO hS hok hA hK
    have base_of : ∀ {b : Addr} {o : Obj}, s₁.heap.get? b = some o → H b = none → (hidT s₁.heap H).get? b = some o := fun e n => hidT_get e n
    have noA : ∀ {b : Addr} {o : Obj} {es : Array DictEntry} {ep : Nat}, s₁.heap.get? b = some o → o.data = .dict es ep → H b = none := fun {b o es ep} e d => by
      cases q : H b with
      | none => rfl
      | some u =>
        have e' : b = a := hA b (by rw [q]; simp)
        subst e'
        rw [ha] at e; cases e
        have d' : Data.seq vs.toArray _ = Data.dict es ep := d
        cases d'
    have nsK : ∀ {b : Addr} {m : Str → Option Value}, s₁.heap.Ns b m → (hidT s₁.heap H).Ns b m := fun {b m} ⟨o, es, ep, e, d, r⟩ => ⟨o, es, ep, base_of e (noA e d), d, r⟩
    have hKb : K.In (hidT s₁.heap H) := fun b o e => base_of (KX b o e) (by
      cases q : H b with
      | none => rfl
      | some u =>
        have e' : b = a := hA b (by rw [q]; simp)
        subst e'
        rw [hK (by rw [q]; simp)] at e; cases e)
    have hM : Mod K mg (hidT s₁.heap H) := ⟨hKb, nsK hns, ⟨mb, nsK hb, hbb⟩, let ⟨mc, h1, h2⟩ := hlim; ⟨mc, nsK h1, h2⟩⟩
    have e0 : Env0 P w K mg (hidT s₁.heap H) callerA [] s₁ H := ⟨rfl, hM, fun b o e => of_hidT e, Nat.le_of_eq (hidT_size _ _), trivial, fun b hb => absurd (show b ∈ ([] : List Addr) from hb) (by simp), hok, .of_eq hg⟩
    refine codeAny_mono ((F _ hKb (nsK hns)).run callerA [] s₁ H ⟨[.ref a], []⟩ [.ref a] [.ref a] _ _ hr e0 (hbind s₁ (.ref a)) (.cons rfl .nil) (hsp H hO hS)) fun r s' h => ?_
    cases r with
    | error e => exact (hCX H e s' h).elim
    | ok fl =>
      cases fl with
      | next => exact False.elim h
      | brk => exact False.elim h
      | cont => exact False.elim h
      | ret u =>
        obtain ⟨v, H', os, bare, un, hok', r', q⟩ := h
        have q' : v = .bl true := q
        subst q'
        obtain rfl : u = Value.bool true := r'
        refine ⟨rfl, OldK.of_keep fun b o e => ?_, os, bare⟩
        cases q : H b with
        | none => exact un.keep b o e q (by intro z; exact absurd (show b ∈ ([] : List Addr) from z) (by simp)) (by simp)
        | some u =>
          rcases hO b with z | ⟨ob, xs, z⟩
          · rw [q] at z; cases z
          · have z2 := un.frzs b ob _ z
            obtain ⟨e1, _⟩ := hok b _ z
            obtain ⟨e2, _⟩ := hok' b _ z2
            rw [e] at e1; cases e1
            exact e2
  cases hk : K.lookup a with
  | some o =>
    -- the script is one of the module's own objects
    have e := KX a o hk
    rw [ha] at e
    cases e
    refine core (fun _ => none) (fun _ => .inl rfl) (.inr ⟨_, vs.toArray, _, hk, rfl, rfl, rfl, by rw [List.size_toArray, lenV]; exact hl, by simpa using rv⟩) (fun b u z => by have z' : (none : Option HO) = some u := z; cases z') (fun b z => absurd rfl z) fun z => absurd rfl z
  | none =>
    refine core (fun b => if b = a then some (.frz { cls := .type "list", data := .seq vs.toArray } (.lst (ns.map V.int))) else none) (fun b => ?_) (.inl (.inr ⟨{ cls := .type "list", data := .seq vs.toArray }, if_pos rfl⟩)) (fun b u z => ?_) (fun b z => ?_) fun _ => hk
    · by_cases hb : b = a
      · exact .inr ⟨_, _, if_pos hb⟩
      · exact .inl (if_neg hb)
    · by_cases hb : b = a
      · have z' := (if_pos hb).symm.trans z
        cases z'
        subst hb
        exact ⟨ha, by rw [List.length_map]; exact hl, vs, _, rv, ha⟩
      · have z' := (if_neg hb).symm.trans z
        cases z'
    · by_cases hb : b = a
      · exact hb
      · exact absurd (if_neg hb) z
end L2
namespace L2
open PySem PySem.Spec PyProof.Rows
abbrev KOf {K : PySem.W.Frag} {h : Heap} (_ : K.In h) : PySem.W.Frag := K
theorem walk_of {l : PySem.W.OpenLaw} {n k : Nat} {q : Program} {loose : List Str} {XP : (Str → Option Value) → Heap → Prop} {YP : World → Heap → Prop} {d : DefRec} {K : Params → PySem.W.Frag} {CX : World → CXT} {sp : World → Sp} {x : Str}
    (hn : l.most = some n) (hn2 : n ≤ sizeLine) (hdf : d.params.defaults = []) (hr : Room k callerA)
    (hY : ∀ (w : World) (h : Heap), YP w h → (K w.params).In h)
    (F : ∀ (w : World) (mg : Str → Option Value) (fa : Addr) (h : Heap), (K w.params).In h → h.Ns mainGlobals mg → mg d.name = some (.ref fa) →
      ∃ fd : FuncData, (∀ (s : Shared) (u : Value), BindsTo s fd ⟨[u], []⟩ [(x, u)]) ∧
        ∀ base : Heap, (K w.params).In base → base.Ns mainGlobals mg → FnOk l.prog w (K w.params) mg base (CX w) k fa fd [x] (sp w))
    (hsp : ∀ (w : World) (H : Hp) (a : Addr) (ns : List Int), ns.length ≤ n → Only H → SqL (K w.params) H a (ns.map V.int) → sp w [.ref a] H (fun v _ => v = .bl true) fun _ _ _ => False)
    (hCX : ∀ (w : World) (H : Hp) (s : Shared) (e : Value) (s' : Shared), CX w [] H s (fun _ _ _ => False) e s' → False) :
    PySem.W.WalkO q loose XP YP l.row.toRowW d [] (fun f vs => PySem.call f vs) := by
  refine Att.attach_call hn hdf fun w s₀ s₁ mg mb fa o pm cd doc a vs ns G Y ho hd hcd hmg hobj hints hlen hg => ?_
  have KX := hY w _ Y
  obtain ⟨fd, hb, hF⟩ := F w mg fa _ KX G.T.g hmg
  exact law_call KX G.T.g G.T.b G.T.builtins G.T.nolimit hg hobj hints (Nat.le_trans hlen hn2) hr hF hb (fun H hO hS => hsp w H a ns hlen hO hS) fun H e s' => hCX w H s₁ e s'
end L2
/- THE LAST THEOREM (shape; LID, My.* are yours):
   My.Adr: a structure of the addresses that your layer names (classes, functions); My.Txt K t: a structure (Prop) of the equations over K;
   My.txt_mk : {K} {implicit addresses ..} (e1 : nsIn K mainGlobals "law" = some (some (.ref f))) (e2 : K.lookup f = some ⟨oc, od, .func (fnOf "law" "law" params body scope dV kV doc pm an cdv ct), sl⟩) (e3 : codeIn K cdv "law" = true) .. : ∃ t, My.Txt K t
set_option maxRecDepth 100000 in
set_option maxHeartbeats 0 in
theorem PySem.Challenge.cw_LID_holds : PySem.Challenge.rw_LID.Holds := by
  w_on; o_law; k_head; (case hw => w_witness2)
  k_fill
  refine L2.walk_of (l := PySem.Challenge.rw_LID) (n := 63) (k := 40) (x := "script") (CX := fun w => ..) (sp := fun _ => My.sp_law) rfl (by decide) rfl ⟨rfl, by decide, by decide⟩ (fun w h Y => PySem.W.kIn_of Y) ?F ?S ?C
  case F =>
    intro w mg fa h KX G hmg
    have T : ∃ t, My.Txt (L2.KOf KX) t := by
      dsimp only [L2.KOf]                          -- K must stand as «<heap const> w.params» for k_is
      refine' My.txt_mk ?e1 ?e2 ?e3 ..
      (case e1 => PySem.W.k_is)                    -- in the order: a name -> its address -> its object -> its parts
      (case e2 => PySem.W.k_is)
      ..
    obtain ⟨t, T⟩ := T
    have e0 := hmg.symm.trans (PySem.W.mg_of KX G T.law)
    cases e0                                       -- fa is the law's own address
    exact ⟨_, fun s u => .of_eq rfl, fun base kb nb => My.law_fn T kb nb⟩     -- if «.of_eq rfl» comes too early: refine' ⟨_, ?b, fun base kb nb => My.law_fn T kb nb⟩; exact fun s u => .of_eq rfl
  case S => exact fun w H a ns hl hO hS => ..
  case C => exact ..
(the tactic k_is has no namespace: write k_is) -/
namespace L2
open PySem PySem.Spec PyProof.Rows
def inClass (s : Stmt) (j : Nat) : Stmt := match s with
  | .ClassDef _ _ _ body _ _ _ _ _ _ _ => body.getD j (.Pass ⟨0, 0, 0, 0⟩)
  | _ => .Pass ⟨0, 0, 0, 0⟩
def defArgs (s : Stmt) : Arguments := match s with
  | .FunctionDef _ a _ _ _ _ _ _ _ _ => a
  | _ => { posonlyargs := [], args := [], vararg := none, kwonlyargs := [], kw_defaults := [], kwarg := none, defaults := [] }
def defBody (s : Stmt) : List Stmt := match s with
  | .FunctionDef _ _ b _ _ _ _ _ _ _ => b
  | _ => []
def defScope (s : Stmt) : Scope := match s with
  | .FunctionDef _ _ _ _ _ _ sc _ _ _ => sc
  | _ => { kind := .function, names := [], isGenerator := false, isCoroutine := false }
abbrev CX0 : CXT := fun _ _ _ _ _ _ => False
abbrev E0 : XK := fun _ _ _ => False
theorem pass0 {X : Cx} : Passes CX0 X E0 := fun _ _ _ _ _ _ _ h => h.elim
structure Fun (K : PySem.W.Frag) (x qual : Str) (st : Stmt) (f : Addr) (fd : FuncData) : Prop where
  ex : ∃ (oc : Value) (od : Option Addr) (kV doc pm : Value) (an : Option Addr) (cdv ct : Value) (osl : Array (Option Value)),
    fd = PySem.W.fnOf x qual (defArgs st) (defBody st) (defScope st) .none kV doc pm an cdv ct ∧ K.lookup f = some ⟨oc, od, .func fd, osl⟩ ∧ PySem.W.codeIn K cdv qual = true
  kp : PySem.W.keepIn K (.ref f) = true
section
variable {P : Program} {w : World} {K : PySem.W.Frag} {mg : Str → Option Value} {base : Heap}
theorem Fun.ok {x qual : Str} {st : Stmt} {f : Addr} {fd : FuncData} {N ps : List Str} {k : Nat} {sp : Sp} (F : Fun K x qual st f fd) (S : FnScope N ps (defScope st)) (len : ∀ vs H Q E, sp vs H Q E → vs.length = ps.length)
    (hbody : ∀ (cdv : Value) (A : Around) (outer : List Env) (s : Shared) (H : Hp) (vs : List V) (Q : VK) (E : XK), Room k (A.deeper (envOfC qual (defScope st) s.heap.objs.size f cdv)) → sp vs H Q E →
      ∃ t, PSs (cxOf CX0 P w K mg base N qual (defScope st) f cdv A outer s H E).nox (defBody st) t ∧ t { nx := fun _ H' => Q .non H', rt := Q } (start N vs) H) : FnOk P w K mg base CX0 (k + 1) f fd ps sp := by
  obtain ⟨oc, od, kV, doc, pm, an, cdv, ct, osl, rfl, lk, hcd⟩ := F.ex
  refine fn_of lk hcd S len fun A outer s H vs Q E hr hsp => ?_
  obtain ⟨t, h, q⟩ := hbody cdv A outer s H vs Q E hr hsp
  exact ⟨t, h.nox, q⟩
theorem Fun.binds {x qual : Str} {st : Stmt} {f : Addr} {fd : FuncData} {ps : List Str} (F : Fun K x qual st f fd)
    (h : ∀ (kV doc pm : Value) (an : Option Addr) (cdv ct : Value) (us : List Value), us.length = ps.length → bindArgs (PySem.W.fnOf x qual (defArgs st) (defBody st) (defScope st) .none kV doc pm an cdv ct) ⟨us, []⟩ = pure (ps.zip us)) : Binds K fd ps [] := by
  obtain ⟨oc, od, kV, doc, pm, an, cdv, ct, osl, rfl, lk, hcd⟩ := F.ex
  exact .all (h kV doc pm an cdv ct)
theorem fun_mk {x qual : Str} {st : Stmt} {f : Addr} {oc : Value} {od an : Option Addr} {osl : Array (Option Value)} {kV doc pm cdv ct : Value} (l : K.lookup f = some ⟨oc, od, .func (PySem.W.fnOf x qual (defArgs st) (defBody st) (defScope st) .none kV doc pm an cdv ct), osl⟩)
    (c : PySem.W.codeIn K cdv qual = true) (k : PySem.W.keepIn K (.ref f) = true) : Fun K x qual st f (PySem.W.fnOf x qual (defArgs st) (defBody st) (defScope st) .none kV doc pm an cdv ct) := ⟨⟨oc, od, kV, doc, pm, an, cdv, ct, osl, rfl, l, c⟩, k⟩
end
theorem hu_of {A : Around} {k : Nat} (hr : Room k A) : A.units + 1 < cLine := Nat.lt_of_le_of_lt (Nat.add_le_add_left (by decide : 1 ≤ 64) _) hr.units
theorem small1000 {n : Nat} (h : n ≤ 1000) : n < sizeLine := Nat.lt_of_le_of_lt h (by decide)
section
variable {X : Cx}
theorem pv (i : Nat) {x : Str} {pos : Pos} (hN : X.N[i]? = some x := by rfl) (hv : Vis X.env.scope x := by first | exact Or.inl rfl | exact Or.inr (Or.inl rfl) | exact Or.inr (Or.inr rfl)) (hd : (x == ("__debug__" : Str)) = false := by decide)
    (hcd : (x == ("__classdict__" : Str)) = false := by decide) : PE X (.Name x pos) (tVar i) := pe_var hN hv hd hcd
end
theorem iteF {A B : Prop} (h : B) : if false = true then A else B := by
  rw [if_neg Bool.false_ne_true]
  exact h
theorem iteT {A B : Prop} (h : A) : if true = true then A else B := by
  rw [if_pos rfl]
  exact h
theorem ite2 {c A B : Prop} [Decidable c] (h1 : c → A) (h2 : ¬ c → B) : if c then A else B := by
  by_cases h : c
  · rw [if_pos h]
    exact h1 h
  · rw [if_neg h]
    exact h2 h
def Same (H H' : Hp) : Prop := ∀ b o, H b = some o → H' b = some o
theorem Same.refl (H : Hp) : Same H H := fun _ _ h => h
theorem Same.trans {H H1 H2 : Hp} (a : Same H H1) (b : Same H1 H2) : Same H H2 := fun c o h => b c o (a c o h)
theorem Same.free {H H' : Hp} (e : Same H H') {l : Addr} (h : H' l = Option.none) : H l = Option.none := by
  cases q : H l with
  | none => rfl
  | some o =>
    rw [e l o q] at h
    cases h
theorem Same.seq {K : PySem.W.Frag} {H H' : Hp} {a : Addr} {xs : List V} (e : Same H H') (h : SqL K H a xs) : SqL K H' a xs := by
  rcases h with (h | ⟨o, h⟩) | h
  · exact .inl (.inl (e _ _ h))
  · exact .inl (.inr ⟨o, e _ _ h⟩)
  · exact .inr h
end L2
namespace L2
open PySem PySem.Spec PyProof.Rows
section
variable {κ : Type} [DecidableEq κ]
def valV (kvs : List (κ × V)) (k : κ) : Option V := (kvs.find? fun kv => decide (kv.1 = k)).map (·.2)
def putK (kvs : List (κ × V)) (k : κ) (v : V) : List (κ × V) :=
  if (kvs.any fun kv => decide (kv.1 = k)) = true then kvs.map (fun kv => if kv.1 = k then (kv.1, v) else kv) else kvs ++ [(k, v)]
def dropK (kvs : List (κ × V)) (k : κ) : List (κ × V) := kvs.filter fun kv => decide (kv.1 ≠ k)
theorem valV_pos {p : κ × V} {r : List (κ × V)} {k : κ} (e : p.1 = k) : valV (p :: r) k = some p.2 := by simp [valV, List.find?_cons, e]
theorem valV_neg {p : κ × V} {r : List (κ × V)} {k : κ} (e : ¬ p.1 = k) : valV (p :: r) k = valV r k := by simp [valV, List.find?_cons, e]
theorem valV_any (k : κ) : ∀ kvs : List (κ × V), (kvs.any fun kv => decide (kv.1 = k)) = (valV kvs k).isSome
  | [] => rfl
  | p :: r => by
    rw [List.any_cons]
    by_cases e : p.1 = k
    · simp only [valV_pos e, decide_eq_true e, Bool.true_or, Option.isSome_some]
    · rw [valV_neg e, decide_eq_false e, Bool.false_or]; exact valV_any k r
theorem valV_map (k j : κ) (y : V) : ∀ kvs : List (κ × V), valV (kvs.map fun kv => if kv.1 = k then (kv.1, y) else kv) j = (valV kvs j).map fun x => if j = k then y else x
  | [] => rfl
  | p :: r => by
    have ih := valV_map k j y r
    rw [List.map_cons]
    by_cases h : p.1 = k
    · rw [if_pos h]
      by_cases e : p.1 = j
      · rw [valV_pos (p := (p.1, y)) e, valV_pos e, Option.map_some, if_pos (e.symm.trans h)]
      · rw [valV_neg (p := (p.1, y)) e, valV_neg e, ih]
    · rw [if_neg h]
      by_cases e : p.1 = j
      · rw [valV_pos (p := p) e, valV_pos e, Option.map_some, if_neg (fun z => h (e.trans z))]
      · rw [valV_neg (p := p) e, valV_neg e, ih]
theorem valV_snoc (k j : κ) (y : V) : ∀ kvs : List (κ × V), valV kvs k = none → valV (kvs ++ [(k, y)]) j = if j = k then some y else valV kvs j
  | [], _ => by
    by_cases e : k = j
    · rw [if_pos e.symm]; exact valV_pos (p := (k, y)) e
    · rw [if_neg (fun z => e z.symm)]; exact valV_neg (p := (k, y)) e
  | p :: r, hn => by
    rw [List.cons_append]
    have hk : ¬ p.1 = k := fun z => by rw [valV_pos z] at hn; cases hn
    rw [valV_neg hk] at hn
    have ih := valV_snoc k j y r hn
    by_cases e : p.1 = j
    · rw [valV_pos e, valV_pos e, if_neg (fun z => hk (e.trans z))]
    · rw [valV_neg e, valV_neg e, ih]
theorem valV_put (kvs : List (κ × V)) (k j : κ) (y : V) : valV (putK kvs k y) j = if j = k then some y else valV kvs j := by
  unfold putK
  by_cases a : (kvs.any fun kv => decide (kv.1 = k)) = true
  · rw [if_pos a, valV_map]
    rw [valV_any] at a
    by_cases e : j = k
    · obtain ⟨x, hx⟩ := Option.isSome_iff_exists.mp a
      rw [if_pos e, e, hx, Option.map_some, if_pos rfl]
    · rw [if_neg e]
      cases valV kvs j with
      | none => rfl
      | some x => rw [Option.map_some, if_neg e]
  · rw [if_neg a]
    refine valV_snoc k j y kvs ?_
    rw [valV_any] at a
    cases q : valV kvs k with
    | none => rfl
    | some x => rw [q] at a; exact (a rfl).elim
theorem length_putK (kvs : List (κ × V)) (k : κ) (v : V) : (putK kvs k v).length ≤ kvs.length + 1 := by
  unfold putK
  split
  · rw [List.length_map]; omega
  · rw [List.length_append, List.length_cons, List.length_nil]; omega
theorem putK_new {kvs : List (κ × V)} {k : κ} (v : V) (h : valV kvs k = none) : putK kvs k v = kvs ++ [(k, v)] := by
  unfold putK
  rw [valV_any, h]
  exact if_neg (by decide)
theorem RelO.isSome_eq {o : Option V} {u : Option Value} (r : RelO o u) : o.isSome = u.isSome := by
  cases o with
  | none => cases u with
    | none => rfl
    | some _ => exact (show False from r).elim
  | some _ => cases u with
    | none => exact (show False from r).elim
    | some _ => rfl
theorem RelO.getD {o : Option V} {u : Option Value} {d : V} {d' : Value} (r : RelO o u) (rd : RelV d d') : RelV (o.getD d) (u.getD d') := by
  cases o with
  | none => cases u with
    | none => exact rd
    | some _ => exact (show False from r).elim
  | some _ => cases u with
    | none => exact (show False from r).elim
    | some _ => exact r
theorem KV.val {kvs : List (κ × V)} {vs : List (κ × Value)} (r : KV kvs vs) (k : κ) : RelO (valV kvs k) (valueAt vs k) := by
  unfold KV at r
  induction r with
  | nil => exact True.intro
  | @cons p q ps qs h t ih =>
    obtain ⟨h1, h2⟩ := h
    by_cases e : p.1 = k
    · have e' : q.1 = k := h1.symm.trans e
      have b : valueAt (q :: qs) k = some q.2 := by simp [valueAt, List.find?_cons, e']
      rw [valV_pos e, b]; exact h2
    · have e' : ¬ q.1 = k := fun z => e (h1.trans z)
      have b : valueAt (q :: qs) k = valueAt qs k := by simp [valueAt, List.find?_cons, e']
      rw [valV_neg e, b]; exact ih
theorem KV.any {kvs : List (κ × V)} {vs : List (κ × Value)} (r : KV kvs vs) (k : κ) : (kvs.any fun kv => decide (kv.1 = k)) = vs.any fun kv => decide (kv.1 = k) := by
  unfold KV at r
  induction r with
  | nil => rfl
  | cons h t ih => rw [List.any_cons, List.any_cons, ih, h.1]
theorem KV.repl {kvs : List (κ × V)} {vs : List (κ × Value)} (r : KV kvs vs) (k : κ) {y : V} {u : Value} (ry : RelV y u) :
    KV (kvs.map fun kv => if kv.1 = k then (kv.1, y) else kv) (vs.map fun kv => if kv.1 = k then (kv.1, u) else kv) := by
  unfold KV at r ⊢
  induction r with
  | nil => exact .nil
  | @cons p q ps qs h t ih =>
    rw [List.map_cons, List.map_cons]
    refine .cons ?_ ih
    obtain ⟨h1, h2⟩ := h
    by_cases e : p.1 = k
    · rw [if_pos e, if_pos (h1.symm.trans e)]; exact ⟨h1, ry⟩
    · rw [if_neg e, if_neg (fun z => e (h1.trans z))]; exact ⟨h1, h2⟩
theorem KV.put {kvs : List (κ × V)} {vs : List (κ × Value)} (r : KV kvs vs) (k : κ) {y : V} {u : Value} (ry : RelV y u) : KV (putK kvs k y) (stored vs k u) := by
  unfold putK stored
  rw [r.any k]
  by_cases e : (vs.any fun kv => decide (kv.1 = k)) = true
  · rw [if_pos e, if_pos e]; exact r.repl k ry
  · rw [if_neg e, if_neg e]; exact Paired.snoc r ⟨rfl, ry⟩
theorem KV.drop {kvs : List (κ × V)} {vs : List (κ × Value)} (r : KV kvs vs) (k : κ) : KV (dropK kvs k) (without vs k) := by
  unfold KV at r ⊢
  unfold dropK without
  induction r with
  | nil => exact .nil
  | @cons p q ps qs h t ih =>
    obtain ⟨h1, h2⟩ := h
    rw [List.filter_cons, List.filter_cons]
    by_cases e : p.1 = k
    · have a : ¬ decide (p.1 ≠ k) = true := by simp [e]
      have b : ¬ decide (q.1 ≠ k) = true := by simp [h1.symm.trans e]
      rw [if_neg a, if_neg b]; exact ih
    · have e' : ¬ q.1 = k := fun z => e (h1.trans z)
      have a : decide (p.1 ≠ k) = true := by simp [e]
      have b : decide (q.1 ≠ k) = true := by simp [e']
      rw [if_pos a, if_pos b]; exact .cons ⟨h1, h2⟩ ih
theorem KV.keys {kvs : List (κ × V)} {vs : List (κ × Value)} (r : KV kvs vs) : kvs.map (·.1) = vs.map (·.1) := by
  unfold KV at r
  induction r with
  | nil => rfl
  | cons h t ih => rw [List.map_cons, List.map_cons, ih, h.1]
theorem KV.length {kvs : List (κ × V)} {vs : List (κ × Value)} (r : KV kvs vs) : kvs.length = vs.length := Paired.length r
end
theorem kV_is {P : Program} {w : World} {k : Key} {u : Value} (r : RelV (kV k) u) : (mixKind P w).is k u = true := by
  cases k with
  | inl i => obtain ⟨t, e⟩ := (show ∃ t, u = Value.int i t from r); subst e; exact mixKind_int P w i t
  | inr x => obtain ⟨t, e⟩ := (show ∃ t, u = Value.str x t from r); subst e; exact mixKind_str P w x t
theorem items_are {P : Program} {w : World} : ∀ {ks : List Key} {us : List Value}, Vals (ks.map kV) us → ItemsAre (mixKind P w) ks us
  | [], _, r => by rw [List.map_nil] at r; cases r; exact .nil
  | k :: ks, _, r => by
    rw [List.map_cons] at r
    cases r with
    | cons h t => exact .cons (kV_is h) (items_are t)
abbrev KT (H : Hp) : List (List Key × V) → List (List Key × Addr × Value) → Prop := Paired fun p q => p.1 = q.1 ∧ H q.2.1 = some (.tup (p.1.map kV)) ∧ RelV p.2 q.2.2
theorem KT.val {H : Hp} {kvs : List (List Key × V)} {xs : List (List Key × Addr × Value)} (r : KT H kvs xs) (k : List Key) : RelO (valV kvs k) ((atKey xs k).map (·.2)) := by
  induction r with
  | nil => exact True.intro
  | @cons p q ps qs h t ih =>
    obtain ⟨h1, _, h2⟩ := h
    by_cases e : p.1 = k
    · have e' : q.1 = k := h1.symm.trans e
      have b : atKey (q :: qs) k = some q.2 := by simp [atKey, List.find?_cons, e']
      rw [valV_pos e, b]; exact h2
    · have e' : ¬ q.1 = k := fun z => e (h1.trans z)
      have b : atKey (q :: qs) k = atKey qs k := by simp [atKey, List.find?_cons, e']
      rw [valV_neg e, b]; exact ih
theorem KT.repl {H : Hp} {kvs : List (List Key × V)} {xs : List (List Key × Addr × Value)} (r : KT H kvs xs) (k : List Key) {y : V} {u : Value} (ry : RelV y u) :
    KT H (kvs.map fun kv => if kv.1 = k then (kv.1, y) else kv) (xs.map (putAt k u)) := by
  induction r with
  | nil => exact .nil
  | @cons p q ps qs h t ih =>
    rw [List.map_cons, List.map_cons]
    refine .cons ?_ ih
    obtain ⟨h1, h2, h3⟩ := h
    unfold putAt
    by_cases e : p.1 = k
    · rw [if_pos e, if_pos (h1.symm.trans e)]; exact ⟨h1, h2, ry⟩
    · rw [if_neg e, if_neg (fun z => e (h1.trans z))]; exact ⟨h1, h2, h3⟩
theorem KT.put {H : Hp} {kvs : List (List Key × V)} {xs : List (List Key × Addr × Value)} (r : KT H kvs xs) (k : List Key) {b : Addr} {y : V} {u : Value} (hb : H b = some (.tup (k.map kV))) (ry : RelV y u) :
    KT H (putK kvs k y) (storedH xs k b u) := by
  have e : (kvs.any fun kv => decide (kv.1 = k)) = (atKey xs k).isSome := by
    rw [valV_any, (r.val k).isSome_eq, Option.isSome_map]
  unfold putK storedH
  rw [e]
  by_cases q : (atKey xs k).isSome = true
  · rw [if_pos q, if_pos q]; exact r.repl k ry
  · rw [if_neg q, if_neg q]; exact Paired.snoc r ⟨rfl, hb, ry⟩
theorem KT.keeps {H H' : Hp} {kvs : List (List Key × V)} {xs : List (List Key × Addr × Value)} (r : KT H kvs xs) (ht : ∀ b ys, H b = some (.tup ys) → H' b = some (.tup ys)) : KT H' kvs xs :=
  Paired.mapP r fun _ _ z => ⟨z.1, ht _ _ z.2.1, z.2.2⟩
section
variable {P : Program} {w : World} {H : Hp} {h : Heap} {a : Addr}
theorem rd_of {u : HO} (ok : HOk P w H h) (e : Rd H a u) : ObjOk P w H h a u := e.ok ok
theorem dk_rd {kvs : List (Key × V)} (ok : HOk P w H h) (e : Rd H a (.dK kvs)) : kvs.length ≤ sizeLine ∧ (a == sysModules) = false ∧ ∃ vs, KV kvs vs ∧ h.DictOf (mixKind P w) a vs :=
  show ObjOk P w H h a (.dK kvs) from rd_of ok e
theorem dk_of {kvs : List (Key × V)} (ok : HOk P w H h) (e : H a = some (.dK kvs)) : kvs.length ≤ sizeLine ∧ (a == sysModules) = false ∧ ∃ vs, KV kvs vs ∧ h.DictOf (mixKind P w) a vs := dk_rd ok (.inl e)
theorem key_of {ks : List Key} (ok : HOk P w H h) (e : H a = some (.tup (ks.map kV))) : (tupleKind (mixKind P w)).is h ks a := by
  obtain ⟨_, its, r, o, h1, h2, n, h3⟩ := (show ObjOk P w H h a (.tup (ks.map kV)) from ok a _ e)
  exact ⟨o, its.toArray, n, h1, h2, h3, by simpa using items_are r⟩
theorem dt_rd {kvs : List (List Key × V)} (ok : HOk P w H h) (e : Rd H a (.dT kvs)) : kvs.length ≤ sizeLine ∧ (a == sysModules) = false ∧
    ∃ xs, KT H kvs xs ∧ h.DictOfH (tupleKind (mixKind P w)) a xs := by
  obtain ⟨z, y, xs, r, o, es, ep, h1, h2, h3, h4, h5⟩ := (show ObjOk P w H h a (.dT kvs) from rd_of ok e)
  refine ⟨z, y, xs, r, o, es, ep, h1, h2, h3, h4, fun x hx => ?_, h5⟩
  have all : ∀ {l : List (List Key × V)} {m : List (List Key × Addr × Value)}, KT H l m → ∀ x ∈ m, (tupleKind (mixKind P w)).is h x.1 x.2.1 := by
    intro l m q
    induction q with
    | nil => intro x hx; exact nomatch hx
    | @cons p q ps qs hq t ih =>
      intro x hx
      rcases List.mem_cons.mp hx with e | hx
      · subst e
        exact key_of ok (by rw [← hq.1]; exact hq.2.1)
      · exact ih x hx
  exact all r x hx
theorem dt_of {kvs : List (List Key × V)} (ok : HOk P w H h) (e : H a = some (.dT kvs)) : kvs.length ≤ sizeLine ∧ (a == sysModules) = false ∧
    ∃ xs, KT H kvs xs ∧ h.DictOfH (tupleKind (mixKind P w)) a xs := dt_rd ok (.inl e)
end
def DGet (H : Hp) (a : Addr) (y : V) (r : Option V) : Prop :=
  (∃ kvs k, Rd H a (.dK kvs) ∧ y = kV k ∧ r = valV kvs k) ∨ ∃ kvs k b, Rd H a (.dT kvs) ∧ y = .ref b ∧ H b = some (.tup (k.map kV)) ∧ r = valV kvs k
def DPut (H : Hp) (a : Addr) (y v : V) (H' : Hp) : Prop :=
  (∃ kvs k, H a = some (.dK kvs) ∧ y = kV k ∧ kvs.length < sizeLine ∧ H' = upd H a (.dK (putK kvs k v))) ∨
  ∃ kvs k b, H a = some (.dT kvs) ∧ y = .ref b ∧ H b = some (.tup (k.map kV)) ∧ kvs.length < sizeLine ∧ H' = upd H a (.dT (putK kvs k v))
theorem DGet.k {H : Hp} {a : Addr} {kvs : List (Key × V)} {k : Key} (e : H a = some (.dK kvs)) : DGet H a (kV k) (valV kvs k) := .inl ⟨kvs, k, .inl e, rfl, rfl⟩
theorem DGet.t {H : Hp} {a b : Addr} {kvs : List (List Key × V)} {k : List Key} (e : H a = some (.dT kvs)) (eb : H b = some (.tup (k.map kV))) : DGet H a (.ref b) (valV kvs k) := .inr ⟨kvs, k, b, .inl e, rfl, eb, rfl⟩
theorem DPut.k {H : Hp} {a : Addr} {kvs : List (Key × V)} {k : Key} {v : V} (e : H a = some (.dK kvs)) (hl : kvs.length < sizeLine) : DPut H a (kV k) v (upd H a (.dK (putK kvs k v))) := .inl ⟨kvs, k, e, rfl, hl, rfl⟩
theorem DPut.t {H : Hp} {a b : Addr} {kvs : List (List Key × V)} {k : List Key} {v : V} (e : H a = some (.dT kvs)) (eb : H b = some (.tup (k.map kV))) (hl : kvs.length < sizeLine) :
    DPut H a (.ref b) v (upd H a (.dT (putK kvs k v))) := .inr ⟨kvs, k, b, e, rfl, eb, hl, rfl⟩
section
variable {X : Cx} {pins : List (Addr × Obj)} {σ : St} {H : Hp} {s : Shared} {a : Addr} {y v : V} {u r : Value} {o : Option V} {A : Around} {E : Value → Shared → Prop}
theorem Inv.big (I : Inv X pins σ H s) : sysModules < s.heap.objs.size := by
  have h : mainGlobals < s.heap.objs.size := (I.mod.glob.keeps I.bk).lt
  exact Nat.lt_trans (by decide) h
theorem d_getItem {Q : Value → Shared → Prop} (hu : A.units + 1 < cLine) (I : Inv X pins σ H s) (g : DGet H a y (some v)) (ry : RelV y u) (h : ∀ w' s', Inv X pins σ H s' → RelV v w' → Q w' s') :
    wpAny (model X.prog X.w) A (getItem (.ref a) u) Q E s := by
  rcases g with ⟨kvs, k, e, ey, l⟩ | ⟨kvs, k, b, e, ey, eb, l⟩
  · subst ey
    obtain ⟨z, hd, vs, rel, dd⟩ := dk_rd I.hok e
    obtain ⟨w', hw, rw'⟩ := RelO.some_of (v := v) (o := valueAt vs k) (by rw [l]; exact rel.val k)
    exact wpAny_getItem_of (kV_is ry) dd.mapOf hw (h w' _ (I.tok _) rw')
  · subst ey
    cases (show u = Value.ref b from ry)
    obtain ⟨z, hd, xs, rel, dd⟩ := dt_rd I.hok e
    obtain ⟨w', hw, rw'⟩ := RelO.some_of (v := v) (o := (atKey xs k).map (·.2)) (by rw [l]; exact rel.val k)
    obtain ⟨p, hp, hp2⟩ := Option.map_eq_some_iff.mp hw
    refine wpAny_getItem_heap (tupleKind_room_in1 hu) (key_of I.hok eb) dd hp ?_
    rw [hp2]
    exact h w' _ (I.tok _) rw'
theorem d_in {Q : Value → Shared → Prop} (hu : A.units + 1 < cLine) (I : Inv X pins σ H s) (g : DGet H a y o) (ry : RelV y u) (h : ∀ s', Inv X pins σ H s' → Q (.bool o.isSome) s') :
    wpAny (model X.prog X.w) A (compareOp .In u (.ref a)) Q E s := by
  rcases g with ⟨kvs, k, e, ey, l⟩ | ⟨kvs, k, b, e, ey, eb, l⟩
  · subst ey
    obtain ⟨z, hd, vs, rel, dd⟩ := dk_rd I.hok e
    refine wpAny_in_of (kV_is ry) hd dd.mapOf ?_
    rw [← (rel.val k).isSome_eq, ← l]
    exact h _ (I.tok _)
  · subst ey
    cases (show u = Value.ref b from ry)
    obtain ⟨z, hd, xs, rel, dd⟩ := dt_rd I.hok e
    refine wpAny_in_heap (tupleKind_room_in1 hu) (key_of I.hok eb) hd dd ?_
    have q := (rel.val k).isSome_eq
    rw [Option.isSome_map] at q
    rw [← q, ← l]
    exact h _ (I.tok _)
theorem d_notIn {Q : Value → Shared → Prop} (hu : A.units + 1 < cLine) (I : Inv X pins σ H s) (g : DGet H a y o) (ry : RelV y u) (h : ∀ s', Inv X pins σ H s' → Q (.bool (!o.isSome)) s') :
    wpAny (model X.prog X.w) A (compareOp .NotIn u (.ref a)) Q E s := by
  rcases g with ⟨kvs, k, e, ey, l⟩ | ⟨kvs, k, b, e, ey, eb, l⟩
  · subst ey
    obtain ⟨z, hd, vs, rel, dd⟩ := dk_rd I.hok e
    refine wpAny_notIn_of (kV_is ry) hd dd.mapOf ?_
    rw [← (rel.val k).isSome_eq, ← l]
    exact h _ (I.tok _)
  · subst ey
    cases (show u = Value.ref b from ry)
    obtain ⟨z, hd, xs, rel, dd⟩ := dt_rd I.hok e
    refine wpAny_notIn_heap (tupleKind_room_in1 hu) (key_of I.hok eb) hd dd ?_
    have q := (rel.val k).isSome_eq
    rw [Option.isSome_map] at q
    rw [← q, ← l]
    exact h _ (I.tok _)
theorem d_write {h' : Heap} {t' : Nat} {ob : HO} (I : Inv X pins σ H s) (mu : Mut (H a)) (hs : Heap.SameBut a s.heap h') (he : ∃ q, h'.get? a = some q) (new : ObjOk X.prog X.w (upd H a ob) h' a ob) :
    Inv X pins σ (upd H a ob) { s with heap := h', toks := t' } :=
  I.write (x := a) (e := a) mu (.inl rfl) (fun b q hb z => (hs.2 b hb).trans z) he new
theorem dk_new {P : Program} {w : World} {H' : Hp} {h' : Heap} {kvs : List (Key × V)} {vs : List (Key × Value)} (z : kvs.length ≤ sizeLine) (hd : (a == sysModules) = false) (rel : KV kvs vs) (dd : h'.DictOf (mixKind P w) a vs) :
    ObjOk P w H' h' a (.dK kvs) := ⟨z, hd, vs, rel, dd⟩
theorem d_setItem {H' : Hp} {Q : Unit → Shared → Prop} (hu : A.units + 1 < cLine) (I : Inv X pins σ H s) (g : DPut H a y v H') (ry : RelV y u) (rv : RelV v r) (h : ∀ s', Inv X pins σ H' s' → Q () s') :
    wpAny (model X.prog X.w) A (setItem (.ref a) u r) Q E s := by
  rcases g with ⟨kvs, k, e, ey, l, eH⟩ | ⟨kvs, k, b, e, ey, eb, l, eH⟩
  · subst ey eH
    obtain ⟨z, hd, vs, rel, dd⟩ := dk_of I.hok e
    have hz : vs.length ≤ sizeLine := by rw [← rel.length]; exact z
    have hl : (putK kvs k v).length ≤ sizeLine := by have := length_putK kvs k v; omega
    refine wpAny_setItem_pairs (hsz := hz) (kV_is ry) dd fun h' dd' hs => h _ ?_
    have he : ∃ q, h'.get? a = some q := let ⟨q, _, _, hq, _⟩ := dd'; ⟨q, hq⟩
    exact d_write I (by rw [e]; exact True.intro) hs he (dk_new hl hd (rel.put k rv) dd')
  · subst ey eH
    cases (show u = Value.ref b from ry)
    obtain ⟨z, hd, xs, rel, dd⟩ := dt_of I.hok e
    have hz : xs.length ≤ sizeLine := by rw [← Paired.length rel]; exact z
    have hl : (putK kvs k v).length ≤ sizeLine := by have := length_putK kvs k v; omega
    refine wpAny_setItem_heap (hsz := hz) (tupleKind_room_in1 hu) (key_of I.hok eb) dd fun h' dd' hs => h _ ?_
    obtain ⟨q, es, ep, hq, h2, h3, h4, _, h5⟩ := dd'
    refine d_write I (by rw [e]; exact True.intro) hs ⟨q, hq⟩ ⟨hl, hd, _, (rel.put k eb rv).keeps fun c ys ec => ?_, q, es, ep, hq, h2, h3, h4, h5⟩
    rw [upd_ne (ne_of ec e (fun z => nomatch z))]
    exact ec
end
section
variable {X : Cx} {pins : List (Addr × Obj)} {σ : St} {H : Hp} {s : Shared} {a : Addr} {kvs : List (Key × V)} {k : Key} {u : Value} {A : Around} {E : Value → Shared → Prop}
end
def NoSl (i : Expr) : Prop := ∀ ov iv, subscripted i false ov iv = operate [ov, iv] (getItem ov iv)
theorem subD_of {prog : Program} {w : World} {A : Around} {E : Value → Shared → Prop} {s : Shared} {env : Env} {value slice : Expr} {pos : Pos} {T id : String} {Q : Value → Shared → Prop}
    (hl : typeLookup (.type T) "__getitem__" = pure (some (.builtin id))) (hs : NoSl slice)
    (h : wpAny (model prog w) A (eval value env) (fun o s₁ => wpAny (model prog w) A (eval slice env) (fun i s₂ => s₂.TypeIs o T ∧ wpAny (model prog w) A (getItem o i) Q E s₂) E s₁) E s) :
    wpAny (model prog w) A (eval (.Subscript value slice pos) env) Q E s := by
  refine Subscript_ (wpAny_mono h (fun o s₁ h₁ => wpAny_mono h₁ (fun i s₂ h₂ => ?_) fun _ _ x => x) fun _ _ x => x)
  obtain ⟨hT, h₂⟩ := h₂
  unfold subscriptTail
  refine wpAny_bind ?_
  rw [getitemInPython_of_ne hT.not_modules]
  refine wpAny_bind (wpAny_specialOf hT hl ?_)
  have fin : wpAny (model prog w) A (subscripted slice false o i) (fun r s₃ => wpAny (model prog w) A (letTemporaryGo value o r >>= fun _ => pure r) Q E s₃) E s₂ := by
    rw [hs o i]
    exact wpAny_operating (wpAny_mono h₂ (fun r s₃ h₃ => wpAny_bind (wpAny_letTemporaryGo (wpAny_pure h₃))) fun _ _ x => x)
  first
    | exact wpAny_pure (wpAny_bind fin)
    | exact wpAny_bind (wpAny_pure (wpAny_bind fin))
    | exact wpAny_bind fin
theorem dict_typeIs {X : Cx} {pins : List (Addr × Obj)} {σ : St} {H : Hp} {s : Shared} {a : Addr} {y : V} {o : Option V} (I : Inv X pins σ H s) (g : DGet H a y o) : s.TypeIs (.ref a) "dict" := by
  rcases g with ⟨kvs, k, e, _, _⟩ | ⟨kvs, k, b, e, _, _, _⟩
  · obtain ⟨_, _, vs, _, dd⟩ := dk_rd I.hok e
    exact dd.typeIs
  · obtain ⟨_, _, xs, _, dd⟩ := dt_rd I.hok e
    exact dd.typeIs
def tDGet (td ty : TE) : TE := fun σ H Q => td σ H fun x H1 => ty σ H1 fun y H2 => ∃ a v, x = .ref a ∧ DGet H2 a y (some v) ∧ Q v H2
def tDIn (ty td : TE) : TE := fun σ H Q => ty σ H fun y H1 => td σ H1 fun x H2 => ∃ a o, x = .ref a ∧ DGet H2 a y o ∧ Q (.bl o.isSome) H2
def tDNotIn (ty td : TE) : TE := fun σ H Q => ty σ H fun y H1 => td σ H1 fun x H2 => ∃ a o, x = .ref a ∧ DGet H2 a y o ∧ Q (.bl (!o.isSome)) H2
def sDPut (td ty tv : TE) : TS := fun D σ H => tv σ H fun v H1 => td σ H1 fun x H2 => ty σ H2 fun y H3 => ∃ a H4, x = .ref a ∧ DPut H3 a y v H4 ∧ D.nx σ H4
def sDAug (td ty tv : TE) (rd : V → V → Hp → VK → Prop) : TS := fun D σ H => td σ H fun x H1 => ty σ H1 fun y H2 => ∃ a v, x = .ref a ∧ DGet H2 a y (some v) ∧
  tv σ H2 fun y2 H3 => rd v y2 H3 fun z H4 => ∃ H5, DPut H4 a y z H5 ∧ D.nx σ H5
def sDDel (td ty : TE) : TS := fun D σ H => td σ H fun x H1 => ty σ H1 fun y H2 => ∃ a kvs k, x = .ref a ∧ H2 a = some (.dK kvs) ∧ y = kV k ∧ (valV kvs k).isSome = true ∧ D.nx σ (upd H2 a (.dK (dropK kvs k)))
section
variable {X : Cx} {o i e value : Expr} {pos pos' tpos : Pos} {td ty tv : TE}
theorem pe_dget (hu : X.A.units + 1 < cLine) (ho : PE X o td) (hi : PE X i ty) (hs : NoSl i) : PE X (.Subscript o i pos) (tDGet td ty) := by
  intro pins s σ H Q I h
  refine subD_of PySem.F.slot_dict_getitem.lookup hs (thn (ho pins s σ H _ I h) fun u s1 ⟨x, H1, I1, rx, q1⟩ => thn (hi pins s1 σ H1 _ I1 q1) fun iv s2 ⟨y, H2, I2, ry, a, v, ex, g, q2⟩ => ?_)
  subst ex
  obtain rfl : u = Value.ref a := rx
  exact ⟨dict_typeIs I2 g, d_getItem hu I2 g ry fun w' s3 I3 rw' => ⟨v, H2, I3, rw', q2⟩⟩
theorem pc_din (hu : X.A.units + 1 < cLine) (hi : PE X i ty) (ho : PE X o td) : PC X .In i o (tDIn ty td) := by
  intro pins s σ H Q I h
  refine thn (hi pins s σ H _ I h) fun iv s1 ⟨y, H1, I1, ry, q1⟩ => thn (ho pins s1 σ H1 _ I1 q1) fun u s2 ⟨x, H2, I2, rx, a, ov, ex, g, q2⟩ => ?_
  subst ex
  obtain rfl : u = Value.ref a := rx
  exact d_in hu I2 g ry fun s3 I3 => ⟨.bl ov.isSome, H2, I3, rfl, q2⟩
theorem pc_dnotin (hu : X.A.units + 1 < cLine) (hi : PE X i ty) (ho : PE X o td) : PC X .NotIn i o (tDNotIn ty td) := by
  intro pins s σ H Q I h
  refine thn (hi pins s σ H _ I h) fun iv s1 ⟨y, H1, I1, ry, q1⟩ => thn (ho pins s1 σ H1 _ I1 q1) fun u s2 ⟨x, H2, I2, rx, a, ov, ex, g, q2⟩ => ?_
  subst ex
  obtain rfl : u = Value.ref a := rx
  exact d_notIn hu I2 g ry fun s3 I3 => ⟨.bl (!ov.isSome), H2, I3, rfl, q2⟩
theorem ps_dput (hu : X.A.units + 1 < cLine) (ho : PE X o td) (hi : PE X i ty) (hv : PE X value tv) (hs : swapsWith value (some (.Subscript o i pos')) pos.line X.env = pure false) :
    PS X (.Assign [.Subscript o i pos'] value pos) (sDPut td ty tv) := by
  intro pins s σ H D I h
  refine wpAny_Assign_Subscript (thn (hv pins s σ H _ I h) fun r s1 ⟨v, H1, I1, rv, q1⟩ => thn (ho pins s1 σ H1 _ I1 q1) fun u s2 ⟨x, H2, I2, rx, q2⟩ => thn (hi pins s2 σ H2 _ I2 q2) fun iv s3 ⟨y, H3, I3, ry, a, H4, ex, g, q3⟩ => ?_) hs
  subst ex
  obtain rfl : u = Value.ref a := rx
  exact d_setItem hu I3 g ry rv fun s4 I4 => ⟨σ, H4, I4, q3⟩
end
theorem dk_empty {P : Program} {w : World} {H : Hp} (h : Heap) (hb : sysModules < h.objs.size) : ObjOk P w H (h.push { cls := .type "dict", data := .dict #[] }) h.objs.size (.dK []) :=
  ⟨Nat.zero_le _, beq_eq_false_iff_ne.mpr (Ne.symm (Nat.ne_of_lt hb)), [], .nil, Heap.DictOf.new h⟩
theorem dt_empty {P : Program} {w : World} {H : Hp} (h : Heap) (hb : sysModules < h.objs.size) : ObjOk P w H (h.push { cls := .type "dict", data := .dict #[] }) h.objs.size (.dT []) :=
  ⟨Nat.zero_le _, beq_eq_false_iff_ne.mpr (Ne.symm (Nat.ne_of_lt hb)), [], .nil, _, #[], 0, Heap.get?_push_size _ rfl, ⟨rfl, rfl, rfl⟩, rfl, rfl, List.nodup_nil⟩
def tDNewK : TE := fun _ H Q => ∀ p, H p = none → Q (.ref p) (upd H p (.dK []))
def tDNewT : TE := fun _ H Q => ∀ p, H p = none → Q (.ref p) (upd H p (.dT []))
section
variable {X : Cx} {pos : Pos}
theorem pe_dnewK : PE X (.Dict [] [] pos) tDNewK := fun pins s σ H Q I h =>
  wpAny_Dict_empty ⟨.ref s.heap.objs.size, _, I.laid (a := s.heap.objs.size) (o := .dK []) (t' := s.toks) (fun _ _ q => Heap.get?_push_of_some _ q) (Nat.le_refl _) (dk_empty s.heap I.big), rfl, h _ (I.hok.fresh (Nat.le_refl _))⟩
theorem pe_dnewT : PE X (.Dict [] [] pos) tDNewT := fun pins s σ H Q I h =>
  wpAny_Dict_empty ⟨.ref s.heap.objs.size, _, I.laid (a := s.heap.objs.size) (o := .dT []) (t' := s.toks) (fun _ _ q => Heap.get?_push_of_some _ q) (Nat.le_refl _) (dt_empty s.heap I.big), rfl, h _ (I.hok.fresh (Nat.le_refl _))⟩
end
def tPairs : List (TE × TE) → St → Hp → (List (V × V) → Hp → Prop) → Prop
  | [], _, H, Q => Q [] H
  | (tk, tv) :: r, σ, H, Q => tk σ H fun x H1 => tv σ H1 fun y H2 => tPairs r σ H2 fun ps H3 => Q ((x, y) :: ps) H3
abbrev VV : List (V × V) → List (Value × Value) → Prop := Paired fun p q => RelV p.1 q.1 ∧ RelV p.2 q.2
def PPs (X : Cx) (pos : Pos) (keys : List (Option Expr)) (values : List Expr) (trs : List (TE × TE)) : Prop :=
  ∀ (pins : List (Addr × Obj)) (s : Shared) (σ : St) (H : Hp) (Q : List (V × V) → Hp → Prop), Inv X pins σ H s → tPairs trs σ H Q →
    wpAny (model X.prog X.w) X.A (evalPairs (pairTrees keys values X.env pos)) (fun vs s' => ∃ ps H', Inv X pins σ H' s' ∧ VV ps vs ∧ Q ps H') X.xe s
theorem pps_nil {X : Cx} {pos : Pos} : PPs X pos [] [] [] := fun pins s σ H Q I h => pairTrees_nil_walk ⟨[], H, I, .nil, h⟩
theorem pps_cons {X : Cx} {pos : Pos} {k v : Expr} {ks : List (Option Expr)} {vs : List Expr} {tk tv : TE} {trs : List (TE × TE)} (hk : PE X k tk) (hv : PE X v tv) (hr : PPs X pos ks vs trs) :
    PPs X pos (some k :: ks) (v :: vs) ((tk, tv) :: trs) := fun pins s σ H Q I h =>
  pairTrees_cons_walk (thn (hk pins s σ H _ I h) fun u s1 ⟨x, H1, I1, rx, q1⟩ => thn (hv pins s1 σ H1 _ I1 q1) fun w2 s2 ⟨y, H2, I2, ry, q2⟩ =>
    thn (hr pins s2 σ H2 _ I2 q2) fun ws s3 ⟨ps, H3, I3, rel, q3⟩ => ⟨(x, y) :: ps, H3, I3, .cons ⟨rx, ry⟩ rel, q3⟩)
def mergeK (kvs more : List (Key × V)) : List (Key × V) := more.foldl (fun acc kv => putK acc kv.1 kv.2) kvs
def tDisp (trs : List (TE × TE)) : TE := fun σ H Q => ∀ p, H p = none → tPairs trs σ (upd H p (.dK [])) fun ps H2 => H2 p = some (.dK []) ∧ ∃ kvs : List (Key × V), ps = kvs.map (fun kv => (kV kv.1, kv.2)) ∧ kvs.length ≤ 15 ∧ Q (.ref p) (upd H2 p (.dK (mergeK [] kvs)))
structure M1 (X : Cx) (o : Expr) (m : Str) (apos : Pos) (e : Expr) (cpos : Pos) : Prop where
  base : attributeBase o m X.env (eval o X.env) = eval o X.env
  few : ((backTo cpos (starEach [e] X.env)).all (fun x => !x.1) && (backToKw cpos (keywordEach [] X.env)).all (fun x => x.1.isSome)
    && decide (([e] : List Expr).length + ([] : List Keyword).length + (if ([] : List Keyword).isEmpty then 0 else 1) < 30)) = true
  line : (apos.endLine == cpos.line) = true
  trees : backTo cpos (starEach [e] X.env) = [(false, eval e X.env)]
structure M2 (X : Cx) (o : Expr) (m : Str) (apos : Pos) (e f : Expr) (cpos : Pos) : Prop where
  base : attributeBase o m X.env (eval o X.env) = eval o X.env
  few : ((backTo cpos (starEach [e, f] X.env)).all (fun x => !x.1) && (backToKw cpos (keywordEach [] X.env)).all (fun x => x.1.isSome)
    && decide (([e, f] : List Expr).length + ([] : List Keyword).length + (if ([] : List Keyword).isEmpty then 0 else 1) < 30)) = true
  line : (apos.endLine == cpos.line) = true
  trees : backTo cpos (starEach [e, f] X.env) = [(false, eval e X.env), (false, eval f X.env)]
def IsD (H : Hp) (a : Addr) : Prop := (∃ kvs, Rd H a (.dK kvs)) ∨ ∃ kvs, Rd H a (.dT kvs)
section
variable {X : Cx} {pins : List (Addr × Obj)} {σ : St} {H : Hp} {s : Shared} {a : Addr} {y d : V} {u r : Value} {o : Option V} {A : Around} {E : Value → Shared → Prop}
end
def tDGet1 (td ty : TE) : TE := fun σ H Q => td σ H fun x H1 => ∃ a, x = .ref a ∧ IsD H1 a ∧ ty σ H1 fun y H2 => ∃ o, DGet H2 a y o ∧ Q (o.getD .non) H2
def tDGet2 (td ty tx : TE) : TE := fun σ H Q => td σ H fun x H1 => ∃ a, x = .ref a ∧ IsD H1 a ∧ ty σ H1 fun y H2 => tx σ H2 fun z H3 => ∃ o, DGet H3 a y o ∧ Q (o.getD z) H3
def tDPop1 (td ty : TE) : TE := fun σ H Q => td σ H fun x H1 => ∃ a, x = .ref a ∧ IsD H1 a ∧ ty σ H1 fun y H2 => ∃ kvs k v, H2 a = some (.dK kvs) ∧ y = kV k ∧ valV kvs k = some v ∧ Q v (upd H2 a (.dK (dropK kvs k)))
def tDPop2 (td ty tx : TE) : TE := fun σ H Q => td σ H fun x H1 => ∃ a, x = .ref a ∧ IsD H1 a ∧ ty σ H1 fun y H2 => tx σ H2 fun z H3 => ∃ kvs k, H3 a = some (.dK kvs) ∧ y = kV k ∧
  (∀ v, valV kvs k = some v → Q v (upd H3 a (.dK (dropK kvs k)))) ∧ (valV kvs k = none → Q z H3)
section
variable {X : Cx} {o e f : Expr} {apos cpos : Pos} {td ty tx : TE}
end
section
variable {X : Cx} {pins : List (Addr × Obj)} {σ : St} {H : Hp} {s : Shared} {a : Addr} {kvs : List (Key × V)} {A : Around} {E : Value → Shared → Prop}
end
section
variable {X : Cx} {pins : List (Addr × Obj)} {σ : St} {H : Hp} {s : Shared} {a : Addr} {y : V} {u : Value} {A : Around} {E : Value → Shared → Prop}
end
end L2
namespace L2
open PySem PySem.Spec PyProof.Rows
section
variable {κ : Type} [DecidableEq κ]
end
end L2
namespace L2
open PySem PySem.Spec PyProof.Rows
theorem forIn_steps {α β : Type} {f : α → β → Sem (ForInStep β)} {g : β → α → β} : ∀ {l : List α} (c : β), (∀ x ∈ l, ∀ c, f x c = pure (.yield (g c x))) → forIn l c f = pure (l.foldl g c)
  | [], _, _ => rfl
  | x :: l, c, h => by
    rw [List.forIn_cons, h x (List.mem_cons_self ..), pure_bind]
    exact forIn_steps (g c x) fun y hy => h y (List.mem_cons_of_mem _ hy)
def clStep (env : Env) (acc : List (Str × Addr)) (y : Str × NameKind) : List (Str × Addr) :=
  if y.2 == .free then (match env.cells.lookup y.1 with | some c => (y.1, c) :: acc | none => acc) else acc
def clOf (env : Env) (sc : Scope) : List (Str × Addr) := sc.names.foldl (clStep env) []
theorem closure_is {env : Env} {sc : Scope} (h : ∀ y ∈ sc.names, y.2 = .free → ∃ c, env.cells.lookup y.1 = some c) : closureFor sc env = pure (clOf env sc) := by
  simp only [closureFor]
  rw [forIn_steps (g := clStep env) [] fun x hx c => ?_]
  · rfl
  · obtain ⟨n, k⟩ := x
    by_cases hk : k = .free
    · subst hk
      obtain ⟨d, hd⟩ := h _ hx rfl
      have hd' : env.cells.lookup n = some d := hd
      simp only [clStep, cellOf, hd', beq_self_eq_true, if_true, pure_bind]
    · have hb : (k == NameKind.free) = false := by simpa using hk
      simp only [clStep, hb, Bool.false_eq_true, if_false]
theorem cl_sound {env : Env} : ∀ (names : List (Str × NameKind)) (acc : List (Str × Addr)), (∀ y c, acc.lookup y = some c → env.cells.lookup y = some c) →
    ∀ y c, (names.foldl (clStep env) acc).lookup y = some c → env.cells.lookup y = some c
  | [], _, h => h
  | (n, k) :: r, acc, h => by
    refine cl_sound r _ fun y c e => ?_
    unfold clStep at e
    split at e
    · split at e
      · rename_i d hd
        rw [List.lookup_cons] at e
        cases hy : y == n with
        | true =>
          rw [hy] at e
          have hy' : y = n := eq_of_beq hy
          cases e
          rw [hy']
          exact hd
        | false => rw [hy] at e; exact h y c e
      · exact h y c e
    · exact h y c e
theorem cl_keep {env : Env} : ∀ (names : List (Str × NameKind)) (acc : List (Str × Addr)) (y : Str), (∃ c, acc.lookup y = some c) → ∃ c, (names.foldl (clStep env) acc).lookup y = some c
  | [], _, _, h => h
  | (n, k) :: r, acc, y, h => by
    refine cl_keep r _ y ?_
    unfold clStep
    split
    · split
      · rename_i d hd
        rw [List.lookup_cons]
        cases hy : y == n with
        | true => exact ⟨_, rfl⟩
        | false => exact h
      · exact h
    · exact h
theorem cl_has {env : Env} : ∀ (names : List (Str × NameKind)) (acc : List (Str × Addr)) (y : Str), names.lookup y = some .free → (∃ c, env.cells.lookup y = some c) → ∃ c, (names.foldl (clStep env) acc).lookup y = some c
  | [], _, _, h, _ => by simp at h
  | (n, k) :: r, acc, y, h, hc => by
    rw [List.lookup_cons] at h
    cases hy : y == n with
    | true =>
      rw [hy] at h
      cases h
      have hy' : y = n := eq_of_beq hy
      subst hy'
      obtain ⟨c, hc⟩ := hc
      refine cl_keep r _ y ?_
      refine ⟨c, ?_⟩
      unfold clStep
      rw [if_pos (by rfl)]
      show List.lookup y (match env.cells.lookup y with | some c => (y, c) :: acc | none => acc) = _
      rw [hc]
      simp
    | false =>
      rw [hy] at h
      exact cl_has r _ y h hc
theorem relabel_kind {env : Env} : ∀ {names : List (Str × NameKind)} {y : Str} {k : NameKind},
    (names.map fun (n, k) => if (k == NameKind.free && env.scope.kind == .function && env.kindOf n == some .cell) then (n, NameKind.cell) else (n, k)).lookup y = some k →
      names.lookup y = some k ∨ (names.lookup y = some .free ∧ k = .cell)
  | [], _, _, h => by simp at h
  | (n, k0) :: r, y, k, h => by
    have ih := @relabel_kind env r y k
    rw [List.map_cons] at h
    by_cases hc : (k0 == NameKind.free && env.scope.kind == .function && env.kindOf n == some .cell) = true
    · have h' : List.lookup y ((n, NameKind.cell) :: (r.map fun (n, k) => if (k == NameKind.free && env.scope.kind == .function && env.kindOf n == some .cell) then (n, NameKind.cell) else (n, k))) = some k := by
        have e : (if (k0 == NameKind.free && env.scope.kind == .function && env.kindOf n == some .cell) = true then (n, NameKind.cell) else (n, k0)) = (n, NameKind.cell) := if_pos hc
        rw [← e]
        exact h
      rw [List.lookup_cons] at h' ⊢
      cases hy : y == n with
      | true =>
        rw [hy] at h'
        cases h'
        have hk : k0 = .free := by
          rw [Bool.and_eq_true, Bool.and_eq_true] at hc
          exact eq_of_beq hc.1.1
        exact .inr ⟨by rw [hk], rfl⟩
      | false => rw [hy] at h'; exact ih h'
    · have h' : List.lookup y ((n, k0) :: (r.map fun (n, k) => if (k == NameKind.free && env.scope.kind == .function && env.kindOf n == some .cell) then (n, NameKind.cell) else (n, k))) = some k := by
        have e : (if (k0 == NameKind.free && env.scope.kind == .function && env.kindOf n == some .cell) = true then (n, NameKind.cell) else (n, k0)) = (n, k0) := if_neg hc
        rw [← e]
        exact h
      rw [List.lookup_cons] at h' ⊢
      cases hy : y == n with
      | true => rw [hy] at h'; exact .inl h'
      | false => rw [hy] at h'; exact ih h'
def hideStr (y : Str) : Str := ⟨#[46] ++ y.cps⟩
def hide (vs : List Str) (y : Str) : Str := if vs.contains y = true then hideStr y else y
structure CompScope (X : Cx) (vs : List Str) (sc : Scope) : Prop where
  kind : sc.kind = .function
  cell : ∀ y ∈ sc.names, y.2 ≠ .cell
  locs : ∀ y ∈ sc.names, y.2 = .local → sc.names.lookup y.1 = some .local
  own : ∀ y ∈ X.N.map (hide vs), sc.names.lookup y ≠ some .local
  hid : ∀ y ∈ vs, sc.names.lookup (hideStr y) = none
  nd : (vs ++ X.N.map (hide vs)).Nodup
  free : ∀ y ∈ sc.names, y.2 = .free → X.env.kindOf y.1 = some .cell ∨ X.env.kindOf y.1 = some .free
def cxC (X : Cx) (vs : List Str) (sc : Scope) (C : Addr) (s : Shared) (H : Hp) (fp : List Addr) : Cx where
  prog := X.prog
  w := X.w
  K := X.K
  mg := X.mg
  base := X.base
  A := X.A
  N := vs ++ X.N.map (hide vs)
  s₀ := s
  H₀ := H
  env := compEnvC sc (clOf X.env sc) C X.env
  outer := X.stack
  stack := X.stack
  ex := fp
  fn := fun _ => false
  calm := X.calm
  pn := X.pn
  xe := fun _ _ => False
def compSt (vs : List Str) (σ : St) : St := List.replicate vs.length none ++ σ
section
variable {X : Cx} {pins : List (Addr × Obj)} {σ : St} {H : Hp} {s : Shared} {vs : List Str} {sc : Scope}
theorem comp_inv {C : Addr} {fp : List Addr} {h' : Heap} {tk : Nat} {m0 : Str → Option Value} (S : CompScope X vs sc) (I : Inv X pins σ H s) (hf : ∀ b ∈ fp, FpOk X pins H b) (ho : ∀ b ∈ fp, ∃ o, s.heap.get? b = some o)
    (k : ∀ b o, s.heap.get? b = some o → h'.get? b = some o) (hns : h'.Ns C m0) (hC : s.heap.objs.size ≤ C) : Inv (cxC X vs sc C s H fp) pins (compSt vs σ) H { s with heap := h', toks := tk } := by
  have sound : ∀ y c, (clOf X.env sc).lookup y = some c → X.env.cells.lookup y = some c := cl_sound sc.names [] fun y c e => by simp at e
  have fr : ∀ y, sc.names.lookup y = some .free → X.env.kindOf y = some .cell ∨ X.env.kindOf y = some .free := fun y e => S.free (y, .free) (PySem.mem_of_lookup e) rfl
  have frc : ∀ y, (X.env.kindOf y = some .cell ∨ X.env.kindOf y = some .free) → ∃ c, X.env.cells.lookup y = some c := fun y e => I.ok.has y e
  have kinds : ∀ {y : Str} {kd : NameKind}, (relabel sc X.env).names.lookup y = some kd → kd = .cell ∨ kd = .free → sc.names.lookup y = some .free := fun {y kd} e hk => by
    rcases relabel_kind (names := sc.names) e with z | ⟨z, _⟩
    · rcases hk with q | q
      · subst q; exact absurd rfl (S.cell _ (PySem.mem_of_lookup z))
      · subst q; exact z
    · exact z
  have has : ∀ y, sc.names.lookup y = some .free → ∃ c, (clOf X.env sc).lookup y = some c := fun y e => cl_has sc.names [] y e (frc y (fr y e))
  have hlt : ∀ y c, X.env.cells.lookup y = some c → c < s.heap.objs.size := fun y c e => let ⟨_, z⟩ := I.cell y c e; z.lt
  have kc : ∀ {c v}, s.heap.IsCell c v → h'.IsCell c v := fun {c v} ⟨o, e, d⟩ => ⟨o, k _ _ e, d⟩
  refine ⟨⟨I.ok.mod, S.kind, I.ok.glob, I.ok.blt, hC, fun y z c h1 h2 => I.ok.inj y z c (sound y c h1) (sound z c h2), fun y hy => ?_, fun y c z _ => (nomatch z), I.ok.hd, I.ok.frames, .inl rfl, fun b hb => ⟨?_, fun y c e => ?_⟩, I.bs, Nat.le_trans I.ok.bsz I.sz, fun b o e hb => ?_, fun b hb hs => ?_, I.stack, I.stkFree⟩,
    rfl, I.bare, Un.kept k, ⟨m0, hns, fun i y v e1 e2 e3 => ?_⟩, fun y c e => ?_, I.hok.fresh hC, fun y c e => I.freeC y c (sound y c e), fun p hp => ?_, I.hok.kept k, ?_⟩
  · have hy' : (relabel sc X.env).names.lookup y = some .cell ∨ (relabel sc X.env).names.lookup y = some .free := hy
    rcases hy' with z | z
    · exact has y (kinds z (.inl rfl))
    · exact has y (kinds z (.inr rfl))
  · obtain ⟨o, e⟩ := ho b hb
    exact Nat.ne_of_lt (Nat.lt_of_lt_of_le (Heap.lt_size e) hC)
  · exact (hf b hb).2.2.2.2.1 y c (sound y c e)
  · obtain ⟨_, _, _, z, _⟩ := hf b hb
    rcases z with z | z
    · exact I.ok.noex b o e z
    · exact absurd (Nat.lt_of_lt_of_le (Heap.lt_size (I.ok.bs b o e).1) z) (Nat.lt_irrefl _)
  · obtain ⟨_, h1, h2, _⟩ := hf b hb
    rcases List.mem_cons.mp (I.stkSub b hs) with z | z
    · exact h1 z
    · exact h2 z
  · have e1' : (vs ++ X.N.map (hide vs))[i]? = some y := e1
    have e2' : (List.replicate vs.length none ++ σ)[i]? = some (some v) := e2
    have hi : vs.length ≤ i := by
      by_cases z : i < vs.length
      · rw [List.getElem?_append_left (by simpa using z), List.getElem?_replicate] at e2'
        split at e2' <;> cases e2'
      · omega
    rw [List.getElem?_append_right hi] at e1'
    rw [List.getElem?_append_right (by simpa using hi), List.length_replicate] at e2'
    have yN : y ∈ X.N.map (hide vs) := List.mem_of_getElem? e1'
    have e3' : (relabel sc X.env).names.lookup y = some .local ∨ (relabel sc X.env).names.lookup y = some .cell ∨ (relabel sc X.env).names.lookup y = some .free := e3
    have isf : sc.names.lookup y = some .free := by
      rcases e3' with z | z | z
      · rcases relabel_kind (names := sc.names) z with q | ⟨_, q⟩
        · exact absurd q (S.own y yN)
        · cases q
      · exact kinds z (.inl rfl)
      · exact kinds z (.inr rfl)
    have e1' : X.N[i - vs.length]? = some y := by
      rw [List.getElem?_map] at e1'
      cases e : X.N[i - vs.length]? with
      | none => rw [e] at e1'; cases e1'
      | some y0 =>
        rw [e] at e1'
        have e2 : hide vs y0 = y := Option.some.inj e1'
        unfold hide at e2
        split at e2
        · rename_i hc
          rw [← e2, S.hid y0 (by simpa using hc)] at isf
          cases isf
        · rw [e2]
    have ok := fr y isf
    obtain ⟨m, _, hl⟩ := I.loc
    obtain ⟨u, r, lk⟩ := hl (i - vs.length) y v e1' e2' (.inr ok)
    refine ⟨u, r, ?_⟩
    rcases lk with ⟨q, _⟩ | ⟨_, c, ec, hc⟩
    · rcases ok with z | z <;> rw [z] at q <;> cases q
    · obtain ⟨c', e'⟩ := has y isf
      have : c' = c := Option.some.inj ((sound y c' e').symm.trans ec)
      subst this
      refine .inr ⟨?_, c', e', kc hc⟩
      rcases e3' with z | z | z
      · rcases relabel_kind (names := sc.names) z with q | ⟨_, q⟩
        · exact absurd q (S.own y yN)
        · cases q
      · exact .inl z
      · exact .inr z
  · obtain ⟨v, z⟩ := I.cell y c (sound y c e)
    exact ⟨v, kc z⟩
  · obtain ⟨e, n, ne, nf, d⟩ := I.pin p hp
    refine ⟨k _ _ e, n, Nat.ne_of_lt (Nat.lt_of_lt_of_le (Heap.lt_size e) hC), fun z => ?_, d⟩
    rcases List.mem_cons.mp (I.stkSub p.1 z) with q | q
    · exact ne q
    · exact nf q
  · show (List.replicate vs.length none ++ σ).length = (vs ++ X.N.map (hide vs)).length
    rw [List.length_append, List.length_append, List.length_replicate, List.length_map, I.len]
theorem Inv.adopt {D : Addr} {ys : List V} {its : List Value} {n : Nat} (I : Inv X pins σ H s) (hz : ys.length ≤ sizeLine) (hv : Vals ys its) (hD : H D = none) (e : s.heap.get? D = some { cls := .type "list", data := .seq its.toArray n })
    (h0 : X.s₀.heap.objs.size ≤ D) (h1 : D ≠ X.env.locals) (h2 : ∀ x c, X.env.cells.lookup x = some c → c ≠ D) (h3 : ∀ p ∈ X.pn ++ pins, p.1 ≠ D) : Inv X pins σ (upd H D (.lst ys)) s := by
  have nd : ∀ b u, H b = some u → b ≠ D := fun b u q z => by rw [z, hD] at q; cases q
  have q := I.step (h' := s.heap) (H' := upd H D (.lst ys)) (g' := s.gens) (t' := s.toks) (d' := s.drawn) (ch := [D]) (fun b hb => by
      have z : b = D := by simpa using hb
      subst z
      exact ⟨.inr h0, h1, h2, h3⟩)
    (fun b o _ _ _ e _ => e) (fun b o _ _ _ e _ => ⟨o.slots, e⟩) (fun b o hb _ n => by rw [upd_ne (fun z => hb (by simp [z]))]; exact n) (fun b o _ e => ⟨o, e⟩)
    (fun b xs q => by rw [upd_ne (nd b _ q)]; exact q) (fun b o u q => by rw [upd_ne (nd b _ q)]; exact q) (fun b ps q => ⟨#[], by rw [upd_ne (nd b _ q), q]; simp⟩) (fun m hm => hm) (fun b u q => ?_) I.bare
  · exact q
  · by_cases hb : b = D
    · subst hb
      rw [upd_same] at q
      cases q
      exact ⟨hz, its, n, hv, e⟩
    · rw [upd_ne hb] at q
      exact (I.hok b u q).stay (fun _ _ _ z => z) (fun c z => by rw [upd_ne (nd c _ z)]; exact z) fun c xs z => by rw [upd_ne (nd c _ z)]; exact z
end
def PTs (X : Cx) (ifs : List Expr) (t : TT) : Prop :=
  ∀ (pins : List (Addr × Obj)) (s : Shared) (σ : St) (H : Hp) (Q : Bool → Hp → Prop), Inv X pins σ H s → t σ H Q →
    wpAny (model X.prog X.w) X.A (forIn ifs true fun c r => if r = true then do let ok ← isTrue c X.env (eval c X.env); pure (ForInStep.yield ok) else pure (ForInStep.yield r)) (TP X pins σ Q) X.xe s
def tYes : TT := fun _ H Q => Q true H
theorem yes_of {σ : St} {H : Hp} {F G : Hp → Prop} (h : F H) : tYes σ H (fun b H3 => if b = true then F H3 else G H3) := by
  show (if true = true then F H else G H)
  exact iteT h
theorem pts_nil {X : Cx} : PTs X [] tYes := fun _ _ _ H _ I h => wpAny_pure ⟨H, I, h⟩
theorem pts_one {X : Cx} {c : Expr} {t : TT} (h : PT X c t) : PTs X [c] t := fun pins s σ H Q I q => wpAny_tests_one (h pins s σ H Q I q)
theorem comp_loop {prog : Program} {w : World} {A : Around} {R : Result → Shared → Prop} {s : Shared} {elt tg iter : Expr} {ifs : List Expr} {sc : Scope} {pos : Pos} {it acc : Value} {env : Env} (Iv : Nat → Shared → Prop)
    (turn : ∀ n s, Iv n s → wpAny (model prog w) A (pyNext it) (fun r s1 => match r with
      | none => R (.ok .next) s1
      | some v => wpAny (model prog w) A (letOwnedTupleGo tg it v) (fun _ s1 => wpAny (model prog w) A (assign tg env v) (fun _ s2 =>
          wpAny (model prog w) A (forIn ifs true fun c r => if r = true then do let ok ← isTrue c env (eval c env); pure (ForInStep.yield ok) else pure (ForInStep.yield r)) (fun ok s3 =>
            if ok = true then wpAny (model prog w) A (eval elt env) (fun y s4 => wpAny (model prog w) A (call (.builtin "list.append") [acc, y]) (fun _ s5 => ∃ m, m < n ∧ Iv m s5) (fun _ _ => False) s4) (fun _ _ => False) s3
            else ∃ m, m < n ∧ Iv m s3) (fun _ _ => False) s2) (fun _ _ => False) s1) (fun _ _ => False) s1) (fun _ _ => False) s)
    (n : Nat) (h : Iv n s) : codeAny (model prog w) A (.compLoop (.ListComp elt [⟨tg, iter, ifs, 0⟩] sc pos) 0 it acc env) R s := by
  refine codeAny_loop rfl Iv (fun n s hI => ?_) n h
  show wpAny _ A ((compTurn (.ListComp elt [⟨tg, iter, ifs, 0⟩] sc pos) 0 it acc env).onRaise (fun x => do noteFrame x env; theTreesLotGoes x)) _ _ s
  refine wpAny_noted (wpAny_mono (E := fun _ _ => False) ?_ (fun _ _ q => q) fun _ _ z => z.elim)
  rw [compTurn_list]
  refine wpAny_bind (wpAny_standAt (wpAny_bind (thn (turn n s hI) fun r s1 h1 => ?_)))
  cases r with
  | none => exact wpAny_pure h1
  | some v =>
    refine wpAny_bind (thn h1 fun _ s2 h2 => wpAny_bind (thn h2 fun _ s3 h3 => wpAny_bind (thn h3 fun ok s4 h4 => ?_)))
    cases ok with
    | false => exact wpAny_pure ⟨rfl, h4⟩
    | true => exact wpAny_bind (wpAny_bind (thn h4 fun y s5 h5 => wpAny_bind (thn h5 fun _ s6 h6 => wpAny_pure (wpAny_pure ⟨rfl, h6⟩))))
def Keep0 (σ σ' : St) : Prop := ∀ (i : Nat) v, σ[i]? = some (some v) → σ'[i]? = some (some v)
theorem keep_one {σ : St} {x : Option V} : Keep0 (none :: σ) (x :: σ) := fun i v e => by
  cases i with
  | zero => cases e
  | succ i => exact e
theorem keep_two {σ : St} {x y : Option V} : Keep0 (none :: none :: σ) (x :: y :: σ) := fun i v e => by
  match i, e with
  | 0, e => cases e
  | 1, e => cases e
  | _ + 2, e => exact e
section
variable {X : Cx} {pins : List (Addr × Obj)} {σ : St} {H : Hp} {s : Shared} {vs : List Str} {sc : Scope} {tg elt iter : Expr} {ifs : List Expr} {pos : Pos} {g : TG} {tt : TT} {te : TE}
def CompW (vs : List Str) (g : TG) (tt : TT) (te : TE) (σ : St) (J : It) (H : Hp) (Fin : List V → Hp → Prop) : Prop :=
  ∃ W : Nat → Nat → List V → Hp → Prop, (∃ m, W 0 m [] H) ∧ ∀ i m ys H, W i m ys H →
    (J.stop i H ∧ ys.length ≤ sizeLine ∧ Fin ys H) ∨ (J.go i H ∧ ys.length < sizeLine ∧ ∃ N : List V → Hp → Prop, (∀ zs H', N zs H' → ∃ m', m' < m ∧ W (i + 1) m' zs H') ∧
      ∀ v H', J.yld i H v H' → g v (compSt vs σ) H' fun σ2 H2 => Keep0 (compSt vs σ) σ2 ∧ tt σ2 H2 fun b H3 => if b = true then te σ2 H3 fun y H4 => N (ys ++ [y]) H4 else N ys H3)
theorem comp_block {J : It} {fp : List Addr} {it : Addr} {tn : Nat → Heap → Prop} {E : Value → Shared → Prop} {RR : Value → Addr → Result → Shared → Prop} {Fin : List V → Hp → Prop}
    (S : CompScope X vs sc) (hc : X.calm = true) (hg : ∀ C s H fp, PG (cxC X vs sc C s H fp) tg g) (ht : ∀ C s H fp, PTs (cxC X vs sc C s H fp) ifs tt) (he : ∀ C s H fp, PE (cxC X vs sc C s H fp) elt te)
    (I : Inv X pins σ H s) (T : Turn X.prog X.w X.K tg J fp it tn) (st : tn 0 s.heap) (hf : ∀ b ∈ fp, FpOk X pins H b) (hW : CompW vs g tt te σ J H Fin)
    (hRR : ∀ D C s' H' ys m', Inv X pins σ (upd H' D (.lst ys)) s' → H' D = none → FpOk X pins (upd H' D (.lst ys)) C → s'.heap.Ns C m' → Fin ys H' → RR (.ref D) C (.ok .next) s') :
    wpAny (model X.prog X.w) X.A (newList []) (fun acc s3 => wpAny (model X.prog X.w) X.A (newFunctionEnv sc X.env.globals (clOf X.env sc) [] X.env.qual none .none (some X.env)) (fun cenv s4 =>
      codeAny (model X.prog X.w) X.A (.compStart (.ListComp elt [⟨tg, iter, ifs, 0⟩] sc pos) 0 (.ref it) acc { cenv with scope := relabel sc X.env }) (RR acc cenv.locals) s4) E s3) E s := by
  obtain ⟨W, ⟨m0, w0⟩, turn⟩ := hW
  refine wpAny_newObj_type (wpAny_newFunctionEnv S.cell (by intro y hy; simp at hy) (fun h1 hns hsb => ?_) S.kind)
  dsimp only at hns hsb ⊢
  generalize hH2 : s.heap.push { cls := .type "list", dict := none, data := .seq ([] : List Value).toArray } = H2 at hns hsb ⊢
  have hC : H2.objs.size = s.heap.objs.size + 1 := by rw [← hH2, Heap.size_push]
  generalize hCe : H2.objs.size = C at hns hsb hC ⊢
  generalize hDe : s.heap.objs.size = D at hC ⊢
  have hDC : D ≠ C := by omega
  have below : ∀ b o, s.heap.get? b = some o → b ≠ D ∧ b ≠ C := fun b o e => by
    have z : b < s.heap.objs.size := Heap.lt_size e
    rw [hDe] at z
    exact ⟨Nat.ne_of_lt z, Nat.ne_of_lt (by rw [hC]; exact Nat.lt_succ_of_lt z)⟩
  have old : ∀ b o, s.heap.get? b = some o → h1.get? b = some o := fun b o e => hsb.extBut b o (below b o e).2 (Heap.get?_push_of_some _ (hH2 ▸ Heap.get?_push_of_some _ e))
  have hD1 : h1.get? D = some { cls := .type "list", data := .seq ([] : List Value).toArray } :=
    hsb.extBut _ _ hDC (Heap.get?_push_of_some _ (by rw [← hH2, ← hDe]; exact Heap.get?_push_size _ rfl))
  have hobj : ∀ b ∈ fp, ∃ o, s.heap.get? b = some o := fun b hb => let ⟨o, e, _⟩ := T.obj 0 _ st b hb; ⟨o, e⟩
  have fne : ∀ b ∈ fp, b ≠ D ∧ b ≠ C := fun b hb => let ⟨o, e⟩ := hobj b hb; below b o e
  -- the frame facts of D and C, from the state ahead
  have fD : ∀ H', H' D = none → FpOk X pins H' D := fun H' n => I.fpOk (by omega) n
  have fC : ∀ H', H' C = none → FpOk X pins H' C := fun H' n => I.fpOk (by omega) n
  have Dpn : ∀ p ∈ X.pn ++ pins, p.1 ≠ D := fun p hp => (below _ _ (I.pin p hp).1).1
  have cells : ∀ y c, (clOf X.env sc).lookup y = some c → c ≠ D := fun y c e => by
    have e' := cl_sound sc.names [] (fun y c e => by simp at e) y c e
    obtain ⟨v, z⟩ := I.cell y c e'
    have z' : c < s.heap.objs.size := z.lt
    rw [hDe] at z'
    exact Nat.ne_of_lt z'
  have nfs : ∀ b, b ∈ frs X.stack → ∃ o, s.heap.get? b = some o := fun b hb => let ⟨_, o, ho, _⟩ := I.stack.mem hb; ⟨o, ho⟩
  have Dfs : D ∉ frs X.stack := fun z => let ⟨o, e⟩ := nfs D z; (below _ _ e).1 rfl
  -- an iterator's objects, in the block
  have fpC : ∀ {pl : List (Addr × Obj)} {H' : Hp}, (∀ p ∈ pl, p.1 = D) → (∀ b ∈ fp, H' b = none) → ∀ b ∈ fp, FpOk (cxC X vs sc C s H fp) (pins ++ pl) H' b := fun {pl H'} hpl hn b hb => by
    obtain ⟨_, q1, q2, q3, q4, q5⟩ := hf b hb
    refine ⟨hn b hb, (fne b hb).2, fun z => ?_, .inl hb, fun y c e => q4 y c (cl_sound sc.names [] (fun y c e => by simp at e) y c e), fun p hp => ?_⟩
    · rcases List.mem_cons.mp (I.stkSub b z) with y | y
      · exact q1 y
      · exact q2 y
    · rcases List.mem_append.mp hp with z | z
      · exact q5 p (List.mem_append_left _ z)
      · rcases List.mem_append.mp z with y | y
        · exact q5 p (List.mem_append_right _ y)
        · rw [hpl p y]; exact Ne.symm (fne b hb).1
  have loop : ∀ s3 : Shared, s3 = { s with heap := h1, toks := s.toks + ([] : List (Str × Value)).length } →
      codeAny (model X.prog X.w) X.A (.compLoop (.ListComp elt [⟨tg, iter, ifs, 0⟩] sc pos) 0 (.ref it) (.ref D) (compEnvC sc (clOf X.env sc) C X.env)) (RR (.ref D) C) s3 := by
    rintro s3 rfl
    have I0 : Inv (cxC X vs sc C s H fp) pins (compSt vs σ) H { s with heap := h1, toks := s.toks + ([] : List (Str × Value)).length } := comp_inv S I hf hobj old hns (by omega)
    refine comp_loop (fun n s' => ∃ i ys its no H', Inv (cxC X vs sc C s H fp) pins (compSt vs σ) H' s' ∧ tn i s'.heap ∧ (∀ b ∈ fp, H' b = none) ∧ H' D = none ∧
      s'.heap.get? D = some { cls := .type "list", data := .seq its.toArray no } ∧ Vals ys its ∧ W i n ys H') ?_ m0
      ⟨0, [], [], 0, H, I0, T.keep 0 _ _ st fun b hb o e => old b o e, fun b hb => (hf b hb).1, I.hok.fresh (by omega), hD1, .nil, w0⟩
    rintro n s' ⟨i, ys, its, no, H', I1, st1, fr1, dn1, dl1, va1, w1⟩
    -- the list is pinned through the turn
    have pinD : Inv (cxC X vs sc C s H fp) (pins ++ [(D, { cls := .type "list", data := .seq its.toArray no })]) (compSt vs σ) H' s' := I1.pins_of fun p hp => by
      rcases List.mem_append.mp hp with z | z
      · exact I1.pin p (List.mem_append_right _ z)
      · have e : p = (D, { cls := .type "list", data := .seq its.toArray no }) := by simpa using z
        subst e
        exact ⟨dl1, dn1, hDC, Dfs, fun v z => by have z' : Data.seq _ _ = Data.cell v := z; cases z'⟩
    have onlyD : ∀ p ∈ [((D, { cls := .type "list", data := .seq its.toArray no }) : Addr × Obj)], p.1 = D := fun p hp => by
      have e : p = (D, { cls := .type "list", data := .seq its.toArray no }) := by simpa using hp
      rw [e]
    rcases turn i n ys H' w1 with ⟨stop, hz, fin⟩ | ⟨go, hz, N, hN, step⟩
    · refine thn (T.done (cxC X vs sc C s H fp) rfl rfl rfl hc i _ s' _ H' (fun _ _ => False) pinD (fpC onlyD fr1) st1 stop) fun r s4 ⟨hr, I4⟩ => ?_
      subst hr
      have d4 : s4.heap.get? D = some { cls := .type "list", data := .seq its.toArray no } := (I4.pin (D, _) (List.mem_append_right _ (List.mem_append_right _ (List.mem_cons_self ..)))).1
      have Io : Inv X pins σ H' s4 := I.call' (H' := H') (ch := fp) I4.os I4.base I4.hok I4.bare fun b hb => by
        obtain ⟨_, q1, _, q3, q4, q5⟩ := hf b hb
        exact ⟨q3, q1, q4, q5⟩
      obtain ⟨_, a1, _, a3, a4, a5⟩ := fD H' dn1
      have Ia := Io.adopt hz va1 dn1 d4 (Nat.le_trans I.sz (by omega)) a1 a4 a5
      obtain ⟨m4, ns4, _⟩ := I4.loc
      refine hRR D C s4 H' ys m4 Ia dn1 (fC _ ?_) ns4 fin
      rw [upd_ne (Ne.symm hDC)]
      exact I4.free
    · refine thn (T.item (cxC X vs sc C s H fp) rfl rfl rfl hc i _ s' _ H' (fun _ _ => False) pinD (fpC onlyD fr1) st1 go) fun r s4 ⟨u, hr, h4⟩ => ?_
      subst hr
      refine thn h4 fun _ s5 ⟨x, H5, I5, r5, y5, st5, fr5⟩ => ?_
      have I5' := I5.pinned (fpC onlyD fr5) (T.obj _ _ st5)
      refine thn (hg C s H fp _ s5 _ H5 x u _ I5' r5 (step x H5 y5)) fun _ s6 ⟨σ6, H6, I6, k6, q6⟩ => ?_
      refine thn (ht C s H fp _ s6 σ6 H6 _ I6 q6) fun ok s7 ⟨H7, I7, q7⟩ => ?_
      -- back at the head of the loop
      have len6 : (compSt vs σ).length = σ6.length := by rw [I1.len, I6.len]
      have pinned : ∀ {H8 : Hp} {s8 : Shared}, Inv (cxC X vs sc C s H fp) (pins ++ [(D, { cls := .type "list", data := .seq its.toArray no })] ++ pinsAt fp s5.heap) σ6 H8 s8 →
          tn (i + 1) s8.heap ∧ (∀ b ∈ fp, H8 b = none) ∧ H8 D = none ∧ s8.heap.get? D = some { cls := .type "list", data := .seq its.toArray no } := fun {H8 s8} I8 => by
        refine ⟨T.keep _ _ _ st5 fun b hb o e => (I8.pin (b, o) (List.mem_append_right _ (List.mem_append_right _ (mem_pinsAt hb e)))).1, fun b hb => ?_, ?_, ?_⟩
        · obtain ⟨o, e, d⟩ := T.obj _ _ st5 b hb
          exact (I8.pin (b, o) (List.mem_append_right _ (List.mem_append_right _ (mem_pinsAt hb e)))).2.1
        · exact (I8.pin (D, _) (List.mem_append_right _ (List.mem_append_left _ (List.mem_append_right _ (List.mem_cons_self ..))))).2.1
        · exact (I8.pin (D, _) (List.mem_append_right _ (List.mem_append_left _ (List.mem_append_right _ (List.mem_cons_self ..))))).1
      cases ok with
      | false =>
        rw [if_neg (by decide)] at q7 ⊢
        obtain ⟨m', hm, w7⟩ := hN _ _ q7
        obtain ⟨a1, a2, a3, a4⟩ := pinned I7
        exact ⟨m', hm, i + 1, ys, its, no, H7, (I7.unpinned.unpinned).weak len6 k6, a1, a2, a3, a4, va1, w7⟩
      | true =>
        rw [if_pos rfl] at q7 ⊢
        refine thn (he C s H fp _ s7 σ6 H7 _ I7 q7) fun yv s8 ⟨y, H8, I8, r8, n8⟩ => ?_
        obtain ⟨m', hm, w8⟩ := hN _ _ n8
        obtain ⟨a1, a2, a3, a4⟩ := pinned I8
        have szI : its.toArray.size ≤ sizeLine := by
          have := va1.length
          rw [List.size_toArray]
          omega
        refine wpAny_list_append_plain ⟨no, a4⟩ (fun h' pl sb => ?_) szI
        obtain ⟨no', pl'⟩ := pl
        have I9 : Inv (cxC X vs sc C s H fp) pins σ6 H8 { s8 with heap := h' } := (I8.unpinned.unpinned).turned (t' := s8.toks) (it := D) (fun b o hb e => (sb.2 b hb).trans e) a3 hDC (.inr (Nat.le_of_eq hDe)) cells Dpn
        refine ⟨m', hm, i + 1, ys ++ [y], its ++ [yv], no', H8, I9.weak len6 k6, T.keep _ _ _ a1 fun b hb o e => (sb.2 b (fne b hb).1).trans e, a2, a3, ?_, va1.append (.cons r8 .nil), w8⟩
        rw [pl']
        simp
  exact codeAny_compStart_list (loop _ rfl) (T.self _ 0 _ _ _ (T.keep 0 _ _ st fun b hb o e => old b o e) (loop _ rfl))
def tComp (vs : List Str) (wi : TI) (g : TG) (tt : TT) (te : TE) : TE := fun σ H Q => wi σ H fun J H1 => CompW vs g tt te σ J H1 fun ys H' => ∀ p, H' p = none → Q (.ref p) (upd H' p (.lst ys))
theorem CompScope.clos {pins : List (Addr × Obj)} {σ : St} {H : Hp} {s : Shared} (S : CompScope X vs sc) (I : Inv X pins σ H s) : closureFor sc X.env = pure (clOf X.env sc) :=
  closure_is fun y hy hk => I.ok.has y.1 (S.free y hy hk)
theorem pe_comp {wi : TI} (S : CompScope X vs sc) (hc : X.calm = true) (hi : PI X tg iter wi) (hg : ∀ C s H fp, PG (cxC X vs sc C s H fp) tg g) (ht : ∀ C s H fp, PTs (cxC X vs sc C s H fp) ifs tt)
    (he : ∀ C s H fp, PE (cxC X vs sc C s H fp) elt te) (hs : ∀ x, foldedSetIterable iter X.env x = pure x := by intro _; rfl) : PE X (.ListComp elt [⟨tg, iter, ifs, 0⟩] sc pos) (tComp vs wi g tt te) := by
  intro pins s σ H Q I h
  rw [eval_ListComp]
  refine wpAny_comprehension_free (use := none) rfl hs (S.clos I) S.kind S.locs ?_
  refine thn (hi pins s σ H _ I h) fun v s1 h1 => thn h1 fun itv s2 h2 => ?_
  obtain ⟨it, fp, tn, J, H2, e, I2, T, st2, f2, hW⟩ := h2
  subst e
  refine comp_block (RR := fun acc C => compPost (model X.prog X.w) X.A X.xe none (EP X pins σ Q) acc C) S hc hg ht he I2 T st2 f2 hW fun D C s' H' ys m' I' hD fC ns fin => ?_
  obtain ⟨c0, c1, c2, c3, c4, c5⟩ := fC
  refine ⟨m', ns, fun h' sb => ⟨.ref D, _, ?_, rfl, fin D hD⟩⟩
  exact I'.turned (t' := s'.toks) (it := C) (fun b o hb e => (sb.2 b hb).trans e) c0 c1 c3 c4 c5
theorem pg_own {x : Str} {p : Pos} (S : CompScope X [x] sc) (hx : sc.names.lookup x = some .local) : ∀ C s H fp, PG (cxC X [x] sc C s H fp) (.Name x p) (gName 0) := fun C s H fp =>
  pg_name S.nd rfl (.inl (lookup_relabel_local hx)) (.inr (lookup_relabel_local hx))
theorem pe_comp1 {wi : TI} {x : Str} {p : Pos} (S : CompScope X [x] sc) (hc : X.calm = true) (hx : sc.names.lookup x = some .local) (hi : PI X (.Name x p) iter wi) (ht : ∀ C s H fp, PTs (cxC X [x] sc C s H fp) ifs tt)
    (he : ∀ C s H fp, PE (cxC X [x] sc C s H fp) elt te) (hs : ∀ x, foldedSetIterable iter X.env x = pure x := by intro _; rfl) : PE X (.ListComp elt [⟨.Name x p, iter, ifs, 0⟩] sc pos) (tComp [x] wi (gName 0) tt te) :=
  pe_comp S hc hi (pg_own S hx) ht he hs
theorem ps_setC {wi : TI} {j : Nat} {y : Str} {py spos : Pos} (S : CompScope X vs sc) (hc : X.calm = true) (hN : X.N.Nodup) (hj : X.N[j]? = some y) (hy : X.env.scope.names.lookup y = some .local) (hi : PI X tg iter wi) (hg : ∀ C s H fp, PG (cxC X vs sc C s H fp) tg g) (ht : ∀ C s H fp, PTs (cxC X vs sc C s H fp) ifs tt)
    (he : ∀ C s H fp, PE (cxC X vs sc C s H fp) elt te) (hsw : swapsWith (.ListComp elt [⟨tg, iter, ifs, 0⟩] sc pos) (some (.Name y py)) spos.line X.env = pure true := by rfl) (hs : ∀ x, foldedSetIterable iter X.env x = pure x := by intro _; rfl) :
    PS X (.Assign [.Name y py] (.ListComp elt [⟨tg, iter, ifs, 0⟩] sc pos) spos) (tAsg (tComp vs wi g tt te) (gName j)) := by
  intro pins s σ H D I h
  rw [exec_Assign_Name_used _ _ _ _ hsw]
  refine wpAny_bind (wpAny_standAt (wpAny_bind ?_))
  show wpAny _ X.A (do let _ ← comprehension (.ListComp elt [⟨tg, iter, ifs, 0⟩] sc pos) sc X.env _ (newList []) false (eval iter X.env) (some (assign (.Name y py) X.env))) _ _ s
  refine wpAny_bind (wpAny_mono (wpAny_comprehension_free (use := some (assign (.Name y py) X.env)) (Q := fun _ s' => SP X pins D .next s') rfl hs (S.clos I) S.kind S.locs ?_) (fun _ s' hq => wpAny_pure (wpAny_pure hq)) fun _ _ e => e)
  refine thn (hi pins s σ H _ I h) fun v s1 h1 => thn h1 fun itv s2 h2 => ?_
  obtain ⟨it, fp, tn, J, H2, e, I2, T, st2, f2, hW⟩ := h2
  subst e
  refine comp_block (RR := fun acc C => compPost (model X.prog X.w) X.A X.xe (some (assign (.Name y py) X.env)) (fun _ s' => SP X pins D .next s') acc C) S hc hg ht he I2 T st2 f2 hW fun D' C s' H' ys m' I' hD fC ns fin => ?_
  obtain ⟨c0, c1, c2, c3, c4, c5⟩ := fC
  show wpAny _ X.A (assign (.Name y py) X.env (.ref D')) _ _ _
  refine wpAny_assign_Name (store_ok2 (v := .ref D') I' hN hj (.inl hy) (show RelV (.ref D') (.ref D') from rfl) (fun s3 I3 ⟨a, sb, ha⟩ => ?_) (.inr hy))
  have hac : a ≠ C := by
    rcases ha with z | z
    · rw [z]; exact Ne.symm c1
    · exact c4 y a z
  refine ⟨m', ns.sameBut sb (Ne.symm hac), fun h' sb' => ⟨_, _, I3.turned (t' := s3.toks) (it := C) (fun b o hb e => (sb'.2 b hb).trans e) c0 c1 c3 c4 c5, fin D' hD⟩⟩
theorem ps_setC1 {wi : TI} {j : Nat} {x y : Str} {p py spos : Pos} (S : CompScope X [x] sc) (hc : X.calm = true) (hx : sc.names.lookup x = some .local) (hN : X.N.Nodup) (hj : X.N[j]? = some y) (hy : X.env.scope.names.lookup y = some .local) (hi : PI X (.Name x p) iter wi)
    (ht : ∀ C s H fp, PTs (cxC X [x] sc C s H fp) ifs tt) (he : ∀ C s H fp, PE (cxC X [x] sc C s H fp) elt te)
    (hsw : swapsWith (.ListComp elt [⟨.Name x p, iter, ifs, 0⟩] sc pos) (some (.Name y py)) spos.line X.env = pure true := by rfl) (hs : ∀ x, foldedSetIterable iter X.env x = pure x := by intro _; rfl) :
    PS X (.Assign [.Name y py] (.ListComp elt [⟨.Name x p, iter, ifs, 0⟩] sc pos) spos) (tAsg (tComp [x] wi (gName 0) tt te) (gName j)) := ps_setC S hc hN hj hy hi (pg_own S hx) ht he hsw hs
end
section
variable {K : PySem.W.Frag} {a : Addr} {xs : List V} {vs : List Str} {g : TG} {tt : TT} {te : TE} {σ : St} {H : Hp} {Fin : List V → Hp → Prop}
theorem comp_tup (Pv : Nat → List V → Hp → Prop) (hz : xs.length ≤ sizeLine) (h0 : Pv 0 [] H) (hl : ∀ i ys H, i ≤ xs.length → Pv i ys H → SqT K H a xs ∧ ys.length ≤ i)
    (hs : ∀ i v ys H, xs[i]? = some v → Pv i ys H → g v (compSt vs σ) H fun σ2 H2 => Keep0 (compSt vs σ) σ2 ∧ tt σ2 H2 fun b H3 => if b = true then te σ2 H3 fun y H4 => Pv (i + 1) (ys ++ [y]) H4 else Pv (i + 1) ys H3)
    (hd : ∀ ys H, Pv xs.length ys H → Fin ys H) : CompW vs g tt te σ (Itt K a) H Fin := by
  refine ⟨fun i m ys H => m = xs.length - i ∧ i ≤ xs.length ∧ Pv i ys H, ⟨xs.length, by simp, Nat.zero_le _, h0⟩, ?_⟩
  rintro i m ys H ⟨rfl, hi, p⟩
  obtain ⟨q, hy⟩ := hl i ys H hi p
  by_cases hlt : i < xs.length
  · refine .inr ⟨⟨xs, xs[i], q, by simp [hlt]⟩, by omega, Pv (i + 1), fun zs H' p' => ⟨xs.length - (i + 1), by omega, rfl, hlt, p'⟩, fun v H' y => ?_⟩
    obtain ⟨e, y⟩ := y
    subst e
    exact hs i v ys _ (y xs q) p
  · have e : i = xs.length := by omega
    subst e
    exact .inl ⟨⟨xs, q, Nat.le_refl _⟩, by omega, hd ys H p⟩
theorem comp_list (Pv : Nat → List V → Hp → Prop) (hz : xs.length ≤ sizeLine) (h0 : Pv 0 [] H) (hl : ∀ i ys H, i ≤ xs.length → Pv i ys H → SqL K H a xs ∧ ys.length ≤ i)
    (hs : ∀ i v ys H, xs[i]? = some v → Pv i ys H → g v (compSt vs σ) H fun σ2 H2 => Keep0 (compSt vs σ) σ2 ∧ tt σ2 H2 fun b H3 => if b = true then te σ2 H3 fun y H4 => Pv (i + 1) (ys ++ [y]) H4 else Pv (i + 1) ys H3)
    (hd : ∀ ys H, Pv xs.length ys H → Fin ys H) : CompW vs g tt te σ (Itl K a) H Fin := by
  refine ⟨fun i m ys H => m = xs.length - i ∧ i ≤ xs.length ∧ Pv i ys H, ⟨xs.length, by simp, Nat.zero_le _, h0⟩, ?_⟩
  rintro i m ys H ⟨rfl, hi, p⟩
  obtain ⟨q, hy⟩ := hl i ys H hi p
  by_cases hlt : i < xs.length
  · refine .inr ⟨⟨xs, xs[i], q, by simp [hlt]⟩, by omega, Pv (i + 1), fun zs H' p' => ⟨xs.length - (i + 1), by omega, rfl, hlt, p'⟩, fun v H' y => ?_⟩
    obtain ⟨e, y⟩ := y
    subst e
    exact hs i v ys _ (y xs q) p
  · have e : i = xs.length := by omega
    subst e
    exact .inl ⟨⟨xs, q, Nat.le_refl _⟩, by omega, hd ys H p⟩
theorem comp_range {lo : Int} {n : Nat} (Pv : Nat → List V → Hp → Prop) (hz : n ≤ sizeLine) (h0 : Pv 0 [] H) (hl : ∀ i ys H, i ≤ n → Pv i ys H → ys.length ≤ i)
    (hs : ∀ i ys H, i < n → Pv i ys H → g (.int (lo + i)) (compSt vs σ) H fun σ2 H2 => Keep0 (compSt vs σ) σ2 ∧ tt σ2 H2 fun b H3 => if b = true then te σ2 H3 fun y H4 => Pv (i + 1) (ys ++ [y]) H4 else Pv (i + 1) ys H3)
    (hd : ∀ ys H, Pv n ys H → Fin ys H) : CompW vs g tt te σ (Itr lo n) H Fin := by
  refine ⟨fun i m ys H => m = n - i ∧ i ≤ n ∧ Pv i ys H, ⟨n, by simp, Nat.zero_le _, h0⟩, ?_⟩
  rintro i m ys H ⟨rfl, hi, p⟩
  have hy := hl i ys H hi p
  by_cases hlt : i < n
  · refine .inr ⟨hlt, by omega, Pv (i + 1), fun zs H' p' => ⟨n - (i + 1), by omega, rfl, hlt, p'⟩, fun v H' y => ?_⟩
    obtain ⟨e, y⟩ := y
    subst e y
    exact hs i ys _ hlt p
  · have e : i = n := by omega
    subst e
    exact .inl ⟨Nat.le_refl _, by omega, hd ys H p⟩
theorem map_tup {x : Str} {xs : List V} {f : V → V} (hz : xs.length ≤ sizeLine) (hq : SqT K H a xs) (hs : ∀ v (Q : VK), v ∈ xs → Q (f v) H → te (some v :: σ) H Q) (hd : Fin (xs.map f) H) :
    CompW [x] (gName 0) tYes te σ (Itt K a) H Fin := by
  refine comp_tup (fun i ys H' => H' = H ∧ ys = (xs.take i).map f) hz ⟨rfl, rfl⟩ (fun i ys H' hi ⟨e, ey⟩ => ?_) (fun i v ys H' hv ⟨e, ey⟩ => ⟨keep_one, ?_⟩) (fun ys H' ⟨e, ey⟩ => ?_)
  · subst e ey
    exact ⟨hq, by simp; omega⟩
  · subst e ey
    refine yes_of (hs v _ (List.mem_of_getElem? hv) ⟨rfl, ?_⟩)
    rw [List.take_add_one, hv, List.map_append]
    rfl
  · subst e ey
    rw [List.take_length]
    exact hd
theorem map_list {x : Str} {xs : List V} {f : V → V} (hz : xs.length ≤ sizeLine) (hq : SqL K H a xs) (hs : ∀ v (Q : VK), v ∈ xs → Q (f v) H → te (some v :: σ) H Q) (hd : Fin (xs.map f) H) :
    CompW [x] (gName 0) tYes te σ (Itl K a) H Fin := by
  refine comp_list (fun i ys H' => H' = H ∧ ys = (xs.take i).map f) hz ⟨rfl, rfl⟩ (fun i ys H' hi ⟨e, ey⟩ => ?_) (fun i v ys H' hv ⟨e, ey⟩ => ⟨keep_one, ?_⟩) (fun ys H' ⟨e, ey⟩ => ?_)
  · subst e ey
    exact ⟨hq, by simp; omega⟩
  · subst e ey
    refine yes_of (hs v _ (List.mem_of_getElem? hv) ⟨rfl, ?_⟩)
    rw [List.take_add_one, hv, List.map_append]
    rfl
  · subst e ey
    rw [List.take_length]
    exact hd
theorem map_range {x : Str} {lo : Int} {n : Nat} {f : Nat → V} (hz : n ≤ sizeLine) (hs : ∀ i (Q : VK), i < n → Q (f i) H → te (some (.int (lo + (i : Nat))) :: σ) H Q) (hd : Fin ((List.range n).map f) H) :
    CompW [x] (gName 0) tYes te σ (Itr lo n) H Fin := by
  refine comp_range (fun i ys H' => H' = H ∧ ys = (List.range i).map f) hz ⟨rfl, rfl⟩ (fun i ys H' hi ⟨e, ey⟩ => ?_) (fun i ys H' hv ⟨e, ey⟩ => ⟨keep_one, ?_⟩) (fun ys H' ⟨e, ey⟩ => ?_)
  · subst e ey
    simp
  · subst e ey
    refine yes_of (hs i _ hv ⟨rfl, ?_⟩)
    rw [List.range_succ, List.map_append]
    rfl
  · subst e ey
    exact hd
end
end L2
namespace L2
open PySem PySem.Spec PyProof.Rows
inductive Dt where
  | non | int (i : Int) | str (x : Str) | lst (ds : List Dt) | tup (ds : List Dt)
inductive Rep (K : PySem.W.Frag) (H : Hp) : Nat → Dt → V → Prop where
  | non (n : Nat) : Rep K H n .non .non
  | int (n : Nat) (i : Int) : Rep K H n (.int i) (.int i)
  | str (n : Nat) (x : Str) : Rep K H n (.str x) (.str x)
  | lst {n : Nat} {ds : List Dt} {a : Addr} {xs : List V} (h : SqL K H a xs) (hl : xs.length = ds.length) (hi : ∀ (i : Nat) d v, ds[i]? = some d → xs[i]? = some v → Rep K H n d v) : Rep K H (n + 1) (.lst ds) (.ref a)
  | tup {n : Nat} {ds : List Dt} {a : Addr} {xs : List V} (h : SqT K H a xs) (hl : xs.length = ds.length) (hi : ∀ (i : Nat) d v, ds[i]? = some d → xs[i]? = some v → Rep K H n d v) : Rep K H (n + 1) (.tup ds) (.ref a)
theorem ext_items {α : Type} {xs ys : List α} (hl : xs.length = ys.length) (h : ∀ (i : Nat) a b, xs[i]? = some a → ys[i]? = some b → a = b) : xs = ys := by
  refine List.ext_getElem hl fun i h1 h2 => ?_
  exact h i _ _ (by simp [h1]) (by simp [h2])
theorem Same.sqt {K : PySem.W.Frag} {H H' : Hp} {a : Addr} {xs : List V} (e : Same H H') (h : SqT K H a xs) : SqT K H' a xs := by
  rcases h with (h | ⟨o, h⟩) | h
  · exact .inl (.inl (e _ _ h))
  · exact .inl (.inr ⟨o, e _ _ h⟩)
  · exact .inr h
theorem Rep.same {K : PySem.W.Frag} {H H' : Hp} (e : Same H H') {n : Nat} {d : Dt} {v : V} (r : Rep K H n d v) : Rep K H' n d v := by
  induction r with
  | non n => exact .non n
  | int n i => exact .int n i
  | str n x => exact .str n x
  | lst h hl _ ih => exact .lst (e.seq h) hl ih
  | tup h hl _ ih => exact .tup (e.sqt h) hl ih
section
variable {X : Cx} {pins : List (Addr × Obj)} {σ : St} {H : Hp} {s : Shared}
theorem noSqLT {a : Addr} {xs ys : List V} (I : Inv X pins σ H s) (h : SqL X.K H a xs) (h' : SqT X.K H a ys) : False := by
  obtain ⟨_, _, p, _⟩ := I.list h
  obtain ⟨_, _, q, _⟩ := I.tuple h'
  exact SeqAt.ne_of_list_tuple p.isList (show s.heap.IsTuple a _ from q) rfl
theorem rep_inj (I : Inv X pins σ H s) : ∀ (n : Nat) {d d' : Dt} {v : V}, Rep X.K H n d v → Rep X.K H n d' v → d = d' := by
  intro n
  induction n with
  | zero =>
    intro d d' v r r'
    cases r <;> cases r' <;> rfl
  | succ n ih =>
    intro d d' v r r'
    cases r with
    | non => cases r'; rfl
    | int => cases r'; rfl
    | str => cases r'; rfl
    | @lst _ ds a xs h hl hi =>
      cases r' with
      | @lst _ ds' _ xs' h' hl' hi' =>
        have e := I.list_inj h h'
        subst e
        refine congrArg Dt.lst (ext_items (hl.symm.trans hl') fun i d d' e1 e2 => ?_)
        have hlt : i < xs.length := by rw [hl]; exact (List.getElem?_eq_some_iff.mp e1).1
        exact ih (hi i d xs[i] e1 (List.getElem?_eq_getElem hlt)) (hi' i d' xs[i] e2 (List.getElem?_eq_getElem hlt))
      | tup h' _ _ => exact (noSqLT I h h').elim
    | @tup _ ds a xs h hl hi =>
      cases r' with
      | lst h' _ _ => exact (noSqLT I h' h).elim
      | @tup _ ds' _ xs' h' hl' hi' =>
        have e := I.tuple_inj h h'
        subst e
        refine congrArg Dt.tup (ext_items (hl.symm.trans hl') fun i d d' e1 e2 => ?_)
        have hlt : i < xs.length := by rw [hl]; exact (List.getElem?_eq_some_iff.mp e1).1
        exact ih (hi i d xs[i] e1 (List.getElem?_eq_getElem hlt)) (hi' i d' xs[i] e2 (List.getElem?_eq_getElem hlt))
theorem items_all {ds ds' : List Dt} (hl : ds.length = ds'.length) {e : Nat → Bool} {N : Nat} (hN : N = ds.length) (he : ∀ (j : Nat) d d', ds[j]? = some d → ds'[j]? = some d' → (e j = true ↔ d = d')) : ((List.range N).all e = true ↔ ds = ds') := by
  subst hN
  rw [List.all_eq_true]
  constructor
  · intro h
    refine ext_items hl fun i a b e1 e2 => ?_
    exact (he i a b e1 e2).mp (h i (List.mem_range.mpr (List.getElem?_eq_some_iff.mp e1).1))
  · intro h i hi
    have hi' := List.mem_range.mp hi
    subst h
    exact (he i ds[i] ds[i] (by simp [hi']) (by simp [hi'])).mpr rfl
theorem pick_items {P : Nat → Bool → Prop} (h : ∀ j, ∃ b, P j b) : ∃ e : Nat → Bool, ∀ j, P j (e j) := ⟨fun j => Classical.choose (h j), fun j => Classical.choose_spec (h j)⟩
theorem items_pick {A : Around} {its its' : List Value} {ds ds' : List Dt} (h1 : its.length = ds.length) (h2 : its'.length = ds'.length)
    (h : ∀ (j : Nat) u u' d d', its[j]? = some u → its'[j]? = some u' → ds[j]? = some d → ds'[j]? = some d' → ∃ b, SeqAt.EqAt A s u u' b ∧ (b = true ↔ d = d')) :
    ∃ e : Nat → Bool, (∀ j (g1 : j < its.toArray.size) (g2 : j < its'.toArray.size), SeqAt.EqAt A s its.toArray[j] its'.toArray[j] (e j)) ∧ ∀ (j : Nat) d d', ds[j]? = some d → ds'[j]? = some d' → (e j = true ↔ d = d') := by
  obtain ⟨e, he⟩ := pick_items (P := fun j b => (∀ u u', its[j]? = some u → its'[j]? = some u' → SeqAt.EqAt A s u u' b) ∧ ∀ d d', ds[j]? = some d → ds'[j]? = some d' → (b = true ↔ d = d')) fun j => by
    by_cases g : j < its.length ∧ j < its'.length
    · obtain ⟨b, h3, h4⟩ := h j its[j] its'[j] (ds[j]'(by omega)) (ds'[j]'(by omega)) (by simp [g.1]) (by simp [g.2]) (List.getElem?_eq_getElem _) (List.getElem?_eq_getElem _)
      refine ⟨b, fun u u' q q' => ?_, fun d d' q q' => ?_⟩
      · rw [List.getElem?_eq_getElem g.1] at q
        rw [List.getElem?_eq_getElem g.2] at q'
        cases q
        cases q'
        exact h3
      · rw [List.getElem?_eq_getElem (by omega)] at q
        rw [List.getElem?_eq_getElem (by omega)] at q'
        cases q
        cases q'
        exact h4
    · refine ⟨true, fun u u' q q' => absurd ⟨(List.getElem?_eq_some_iff.mp q).1, (List.getElem?_eq_some_iff.mp q').1⟩ g, fun d d' q q' => ?_⟩
      have q1 := (List.getElem?_eq_some_iff.mp q).1
      have q2 := (List.getElem?_eq_some_iff.mp q').1
      exact absurd ⟨by omega, by omega⟩ g
  refine ⟨e, fun j g1 g2 => ?_, fun j => (he j).2⟩
  simp only [List.size_toArray] at g1 g2
  exact (he j).1 _ _ (by simp [g1]) (by simp [g2])
theorem rc_rep (I : Inv X pins σ H s) {n : Nat} {A : Around} (hu : A.units < cLine) {d d' : Dt} {a a' : Addr} (r : Rep X.K H (n + 1) d (.ref a)) (r' : Rep X.K H (n + 1) d' (.ref a'))
    (ih : ∀ {d d' : Dt} {v v' : V} {u u' : Value}, Rep X.K H n d v → Rep X.K H n d' v' → RelV v u → RelV v' u' → ∃ b, SeqAt.EqAt A.in1 s u u' b ∧ (b = true ↔ d = d')) :
    ∃ b, SeqAt.RcAt A s (.ref a) (.ref a') b ∧ SeqAt.RcNeAt A s (.ref a) (.ref a') (!b) ∧ (b = true ↔ d = d') := by
  cases r with
  | @lst _ ds _ xs h hl hi =>
    obtain ⟨its, rv, p, _⟩ := I.list h
    have l1 := rv.length
    cases r' with
    | @lst _ ds' _ xs' h' hl' hi' =>
      obtain ⟨its', rv', p', _⟩ := I.list h'
      have l2 := rv'.length
      by_cases hs : ds.length = ds'.length
      · obtain ⟨e, e1, e2⟩ := items_pick (A := A.in1) (s := s) (its := its) (its' := its') (ds := ds) (ds' := ds') (by omega) (by omega) fun j u u' d d' q1 q2 q3 q4 => by
          have g1 := (List.getElem?_eq_some_iff.mp q3).1
          have g2 := (List.getElem?_eq_some_iff.mp q4).1
          have k1 : xs[j]? = some (xs[j]'(by omega)) := List.getElem?_eq_getElem _
          have k2 : xs'[j]? = some (xs'[j]'(by omega)) := List.getElem?_eq_getElem _
          obtain ⟨w1, z1, y1⟩ := rv.get k1
          obtain ⟨w2, z2, y2⟩ := rv'.get k2
          rw [q1] at z1
          rw [q2] at z2
          cases z1
          cases z2
          exact ih (hi j d _ q3 k1) (hi' j d' _ q4 k2) y1 y2
        have hz : its.toArray.size = its'.toArray.size := by simp only [List.size_toArray]; omega
        refine ⟨_, SeqAt.RcAt.lists p.isList p'.isList hz hu e1, SeqAt.RcNeAt.lists p.isList p'.isList hz hu e1, ?_⟩
        rw [items_all hs (by simp only [List.size_toArray]; omega) e2]
        exact ⟨fun z => by rw [z], fun z => by cases z; rfl⟩
      · have hz : (its.toArray.size != its'.toArray.size) = true := by
          rw [bne_iff_ne]
          simp only [List.size_toArray]
          omega
        refine ⟨false, SeqAt.RcAt.lists_lengths p.isList p'.isList hz hu, SeqAt.RcNeAt.lists_lengths p.isList p'.isList hz hu, ⟨fun z => (by cases z), fun z => ?_⟩⟩
        cases z
        exact absurd rfl hs
    | @tup _ ds' _ xs' h' hl' hi' =>
      obtain ⟨its', rv', p', _⟩ := I.tuple h'
      exact ⟨false, SeqAt.RcAt.list_tuple p.isList (show s.heap.IsTuple a' _ from p') hu, SeqAt.RcNeAt.list_tuple p.isList (show s.heap.IsTuple a' _ from p') hu, ⟨fun z => (by cases z), fun z => (by cases z)⟩⟩
  | @tup _ ds _ xs h hl hi =>
    obtain ⟨its, rv, p, _⟩ := I.tuple h
    have l1 := rv.length
    cases r' with
    | @lst _ ds' _ xs' h' hl' hi' =>
      obtain ⟨its', rv', p', _⟩ := I.list h'
      exact ⟨false, SeqAt.RcAt.tuple_list (show s.heap.IsTuple a _ from p) p'.isList hu, SeqAt.RcNeAt.tuple_list (show s.heap.IsTuple a _ from p) p'.isList hu, ⟨fun z => (by cases z), fun z => (by cases z)⟩⟩
    | @tup _ ds' _ xs' h' hl' hi' =>
      obtain ⟨its', rv', p', _⟩ := I.tuple h'
      have l2 := rv'.length
      obtain ⟨e, e1, e2⟩ := items_pick (A := A.in1) (s := s) (its := its) (its' := its') (ds := ds) (ds' := ds') (by omega) (by omega) fun j u u' d d' q1 q2 q3 q4 => by
          have g1 := (List.getElem?_eq_some_iff.mp q3).1
          have g2 := (List.getElem?_eq_some_iff.mp q4).1
          have k1 : xs[j]? = some (xs[j]'(by omega)) := List.getElem?_eq_getElem _
          have k2 : xs'[j]? = some (xs'[j]'(by omega)) := List.getElem?_eq_getElem _
          obtain ⟨w1, z1, y1⟩ := rv.get k1
          obtain ⟨w2, z2, y2⟩ := rv'.get k2
          rw [q1] at z1
          rw [q2] at z2
          cases z1
          cases z2
          exact ih (hi j d _ q3 k1) (hi' j d' _ q4 k2) y1 y2
      refine ⟨_, SeqAt.RcAt.tuples (show s.heap.IsTuple a _ from p) (show s.heap.IsTuple a' _ from p') hu e1, SeqAt.RcNeAt.tuples (show s.heap.IsTuple a _ from p) (show s.heap.IsTuple a' _ from p') hu e1, ?_⟩
      by_cases hs : ds.length = ds'.length
      · have hz : (its.toArray.size == its'.toArray.size) = true := by
          rw [beq_iff_eq]
          simp only [List.size_toArray]
          omega
        rw [hz, Bool.and_true, items_all hs (by simp only [List.size_toArray]; omega) e2]
        exact ⟨fun z => by rw [z], fun z => by cases z; rfl⟩
      · have hz : (its.toArray.size == its'.toArray.size) = false := by
          rw [beq_eq_false_iff_ne]
          simp only [List.size_toArray]
          omega
        rw [hz, Bool.and_false]
        refine ⟨fun z => (by cases z), fun z => ?_⟩
        cases z
        exact absurd rfl hs
theorem eq_flat {n m : Nat} {d d' : Dt} {v v' : V} (r : Rep X.K H n d v) (r' : Rep X.K H m d' v') (f : flatV v = true) (f' : flatV v' = true) : (eqV v v' = true ↔ d = d') := by
  cases r <;> first | (cases f; done) | skip
  all_goals (cases r' <;> first | (cases f'; done) | skip)
  all_goals first | exact ⟨fun _ => rfl, fun _ => rfl⟩ | exact ⟨fun z => Bool.noConfusion z, fun z => by cases z⟩ | exact ⟨fun z => congrArg Dt.int (eq_of_beq z), fun z => by injection z with z; exact beq_iff_eq.mpr z⟩ | exact ⟨fun z => congrArg Dt.str (eq_of_beq z), fun z => by injection z with z; exact beq_iff_eq.mpr z⟩
theorem eq_rep (I : Inv X pins σ H s) : ∀ (n : Nat) {A : Around}, A.units + n < cLine → ∀ {d d' : Dt} {v v' : V} {u u' : Value}, Rep X.K H n d v → Rep X.K H n d' v' → RelV v u → RelV v' u' → ∃ b, SeqAt.EqAt A s u u' b ∧ (b = true ↔ d = d') := by
  intro n
  induction n with
  | zero =>
    intro A hu d d' v v' u u' r r' q q'
    have f : flatV v = true := by cases r <;> rfl
    have f' : flatV v' = true := by cases r' <;> rfl
    exact ⟨_, eqAt_V q q' f f', eq_flat r r' f f'⟩
  | succ n ih =>
    intro A hu d d' v v' u u' r r' q q'
    by_cases f : flatV v = true
    · by_cases f' : flatV v' = true
      · exact ⟨_, eqAt_V q q' f f', eq_flat r r' f f'⟩
      · refine ⟨false, ?_, ⟨fun z => (by cases z), fun z => ?_⟩⟩
        · cases r' with
          | non => exact absurd rfl f'
          | int => exact absurd rfl f'
          | str => exact absurd rfl f'
          | @lst _ ds a xs h hl hi =>
            cases q'
            obtain ⟨its, _, p, _⟩ := I.list h
            cases r with
            | non => cases q; exact SeqAt.EqAt.none_list p.isList (by omega)
            | int _ i => obtain ⟨t, rfl⟩ := q; exact SeqAt.EqAt.int_list i t p.isList (by omega)
            | str _ x => obtain ⟨t, rfl⟩ := q; exact SeqAt.EqAt.str_list x t p.isList (by omega)
            | lst _ _ _ => cases f
            | tup _ _ _ => cases f
          | @tup _ ds a xs h hl hi =>
            cases q'
            obtain ⟨its, _, p, _⟩ := I.tuple h
            have p' : s.heap.IsTuple a its.toArray := p
            cases r with
            | non => cases q; exact SeqAt.EqAt.none_tuple p' (by omega)
            | int _ i => obtain ⟨t, rfl⟩ := q; exact SeqAt.EqAt.int_tuple i t p' (by omega)
            | str _ x => obtain ⟨t, rfl⟩ := q; exact SeqAt.EqAt.str_tuple x t p' (by omega)
            | lst _ _ _ => cases f
            | tup _ _ _ => cases f
        · subst z
          cases r <;> first | (cases f; done) | skip
          all_goals (cases r'; exact absurd rfl f')
    · by_cases f' : flatV v' = true
      · refine ⟨false, ?_, ⟨fun z => (by cases z), fun z => ?_⟩⟩
        · cases r with
          | non => exact absurd rfl f
          | int => exact absurd rfl f
          | str => exact absurd rfl f
          | @lst _ ds a xs h hl hi =>
            cases q
            obtain ⟨its, _, p, _⟩ := I.list h
            cases r' with
            | non => cases q'; exact SeqAt.EqAt.list_none p.isList (by omega)
            | int _ i => obtain ⟨t, rfl⟩ := q'; exact SeqAt.EqAt.list_int i t p.isList (by omega)
            | str _ x => obtain ⟨t, rfl⟩ := q'; exact SeqAt.EqAt.list_str x t p.isList (by omega)
            | lst _ _ _ => cases f'
            | tup _ _ _ => cases f'
          | @tup _ ds a xs h hl hi =>
            cases q
            obtain ⟨its, _, p, _⟩ := I.tuple h
            have p' : s.heap.IsTuple a its.toArray := p
            cases r' with
            | non => cases q'; exact SeqAt.EqAt.tuple_none p' (by omega)
            | int _ i => obtain ⟨t, rfl⟩ := q'; exact SeqAt.EqAt.tuple_int i t p' (by omega)
            | str _ x => obtain ⟨t, rfl⟩ := q'; exact SeqAt.EqAt.tuple_str x t p' (by omega)
            | lst _ _ _ => cases f'
            | tup _ _ _ => cases f'
        · subst z
          cases r' <;> first | (cases f'; done) | skip
          all_goals (cases r; exact absurd rfl f)
      · have ex : ∀ {m : Nat} {d : Dt} {v : V}, Rep X.K H m d v → ¬ flatV v = true → ∃ a, v = .ref a := fun {m d v} r f => by
          cases r <;> first | exact ⟨_, rfl⟩ | exact absurd rfl f
        obtain ⟨a, rfl⟩ := ex r f
        obtain ⟨a', rfl⟩ := ex r' f'
        cases q
        cases q'
        by_cases ha : a = a'
        · subst ha
          exact ⟨true, SeqAt.EqAt.same _, ⟨fun _ => rep_inj I (n + 1) r r', fun _ => rfl⟩⟩
        · obtain ⟨b, h1, _, h3⟩ := rc_rep I (A := A) (by omega) r r' fun r r' q q' => ih (A := A.in1) (by show A.units + 1 + n < cLine; omega) r r' q q'
          exact ⟨b, .of_refs ha h1, h3⟩
def rEqD (K : PySem.W.Frag) (neg : Bool) : R2 := fun x y H Q => ∃ a a' n d d', x = .ref a ∧ y = .ref a' ∧ Rep K H (n + 1) d (.ref a) ∧ Rep K H (n + 1) d' (.ref a') ∧ n ≤ 30 ∧ ∀ b, (b = true ↔ d = d') → Q (.bl (if neg then !b else b)) H
theorem op_eqD (hu : X.A.units + 64 < cLine) : OpR X (compareOp .Eq) (rEqD X.K false) := by
  intro pins s σ H x y v u Q I rx ry h
  obtain ⟨a, a', n, d, d', rfl, rfl, r, r', hn, q⟩ := h
  cases rx
  cases ry
  obtain ⟨b, h1, _, h3⟩ := rc_rep I (A := X.A) (by omega) r r' fun r r' q q' => eq_rep I n (A := X.A.in1) (by show X.A.units + 1 + n < cLine; omega) r r' q q'
  exact h1 _ _ _ _ ⟨.bl b, H, I, rfl, q b h3⟩
theorem op_neD (hu : X.A.units + 64 < cLine) : OpR X (compareOp .NotEq) (rEqD X.K true) := by
  intro pins s σ H x y v u Q I rx ry h
  obtain ⟨a, a', n, d, d', rfl, rfl, r, r', hn, q⟩ := h
  cases rx
  cases ry
  obtain ⟨b, _, h2, h3⟩ := rc_rep I (A := X.A) (by omega) r r' fun r r' q q' => eq_rep I n (A := X.A.in1) (by show X.A.units + 1 + n < cLine; omega) r r' q q'
  exact h2 _ _ _ _ ⟨.bl (!b), H, I, rfl, q b h3⟩
end
theorem rep_ints {K : PySem.W.Frag} {H : Hp} {n : Nat} {is : List Int} (i : Nat) (d : Dt) (v : V) (h1 : (is.map Dt.int)[i]? = some d) (h2 : (is.map V.int)[i]? = some v) : Rep K H n d v := by
  rw [List.getElem?_map] at h1 h2
  cases e : is[i]? with
  | none => rw [e] at h1; cases h1
  | some k =>
    rw [e] at h1 h2
    cases h1
    cases h2
    exact .int n k
theorem repL {K : PySem.W.Frag} {H : Hp} {n : Nat} {is : List Int} {a : Addr} (h : SqL K H a (is.map V.int)) : Rep K H (n + 1) (.lst (is.map Dt.int)) (.ref a) := .lst h (by simp) rep_ints
theorem repT {K : PySem.W.Frag} {H : Hp} {n : Nat} {is : List Int} {a : Addr} (h : SqT K H a (is.map V.int)) : Rep K H (n + 1) (.tup (is.map Dt.int)) (.ref a) := .tup h (by simp) rep_ints
theorem map_inj {α β : Type} {f : α → β} (hf : ∀ a b, f a = f b → a = b) : ∀ {xs ys : List α}, xs.map f = ys.map f → xs = ys
  | [], [], _ => rfl
  | [], _ :: _, h => by simp at h
  | _ :: _, [], h => by simp at h
  | a :: xs, b :: ys, h => by
    simp only [List.map_cons, List.cons.injEq] at h
    rw [hf a b h.1, map_inj hf h.2]
theorem dt_ints {xs ys : List Int} : Dt.lst (xs.map Dt.int) = Dt.lst (ys.map Dt.int) ↔ xs = ys :=
  ⟨fun h => by injection h with h; exact map_inj (fun a b e => by injection e) h, fun h => by rw [h]⟩
theorem dt_intsT {xs ys : List Int} : Dt.tup (xs.map Dt.int) = Dt.tup (ys.map Dt.int) ↔ xs = ys :=
  ⟨fun h => by injection h with h; exact map_inj (fun a b e => by injection e) h, fun h => by rw [h]⟩
def rangeV (n : Nat) : List V := (List.range n).map fun (i : Nat) => V.int (i : Int)
section
variable {X : Cx}
def rRange : List V → Hp → VK → Prop := fun xs H Q => ∃ j : Int, xs = [.int j] ∧ ∀ p, H p = none → Q (.ref p) (upd H p (.rng 0 j))
theorem call_rangeV : CallR X (.type "range") rRange := by
  intro pins s σ H xs us Q I r h
  obtain ⟨j, rfl, q⟩ := h
  obtain ⟨u, rfl, t, rfl⟩ := vals1 r
  refine call_range_1 ⟨.ref s.heap.objs.size, _, I.laid (t' := s.toks + 1 + 1) (fun b o e => Heap.get?_push_of_some _ e) (Nat.le_refl _) (show ObjOk X.prog X.w _ _ _ (.rng 0 j) from ⟨_, _, _, Heap.get?_push_size _ rfl⟩), rfl, q _ (I.hok.fresh (Nat.le_refl _))⟩
theorem items_range {n : Nat} {acc : Array Value} (h : ItemsOf (fun i v => ∃ t, v = Value.int ((0 : Int) + (i : Nat) * 1) t) acc n) : Vals (rangeV n) acc.toList := by
  obtain ⟨hs, hi⟩ := h
  have go : ∀ (xs : List V) (us : List Value), xs.length = us.length → (∀ (j : Nat) x u, xs[j]? = some x → us[j]? = some u → RelV x u) → Vals xs us := by
    intro xs
    induction xs with
    | nil => intro us hl _; cases us with
      | nil => exact .nil
      | cons => simp at hl
    | cons x xs ih =>
      intro us hl h
      cases us with
      | nil => simp at hl
      | cons u us => exact .cons (h 0 x u rfl rfl) (ih us (by simpa using hl) fun j a b e1 e2 => h (j + 1) a b (by simpa using e1) (by simpa using e2))
  refine go _ _ (by simp [rangeV, hs]) fun j x u e1 e2 => ?_
  obtain ⟨t, rfl⟩ := hi j u (by simpa using e2)
  unfold rangeV at e1
  rw [List.getElem?_map] at e1
  have hj : j < n := by
    have := (List.getElem?_eq_some_iff.mp e2).1
    simpa [hs] using this
  rw [List.getElem?_range hj] at e1
  cases e1
  refine ⟨t, ?_⟩
  congr 1
  omega
theorem range_small {j : Int} (h0 : 0 ≤ j) (h1 : j ≤ 1000000) : Builtin.Range.small 0 j 1 = true := small_one (by decide) (by decide) (by omega) (by omega)
theorem range_count {j : Int} (h0 : 0 ≤ j) : Builtin.Range.rangeSize 0 j 1 = (j.toNat : Nat) := by
  rw [rangeSize_one]
  split <;> omega
def rListRng : List V → Hp → VK → Prop := fun xs H Q => ∃ p j, xs = [.ref p] ∧ H p = some (.rng 0 j) ∧ 0 ≤ j ∧ j ≤ 1000000 ∧ ∀ l, H l = none → Q (.ref l) (upd H l (.lst (rangeV j.toNat)))
theorem call_list_rng (hc : X.calm = true) : CallR X (.type "list") rListRng := by
  intro pins s σ H xs us Q I r h
  obtain ⟨p, j, rfl, hp, h0, h1, q⟩ := h
  obtain ⟨u, rfl, rx⟩ := vals1 r
  cases rx
  obtain ⟨t1, t2, t3, e⟩ := I.hok p _ hp
  refine call_list_range (I.ok.hd hc) e (range_small h0 h1) (range_count h0) (by omega) fun h' tk acc c' kp e' hit => ?_
  have hv := items_range hit
  have e2 : h'.get? s.heap.objs.size = some { cls := .type "list", data := .seq acc.toList.toArray c' } := by simpa using e'
  exact ⟨.ref s.heap.objs.size, _, I.laid (t' := tk) kp (Nat.le_refl _) (show ObjOk X.prog X.w _ h' _ (.lst (rangeV j.toNat)) from ⟨by rw [sizeLine_eq]; simp [rangeV]; omega, acc.toList, c', hv, e2⟩), rfl, q _ (I.hok.fresh (Nat.le_refl _))⟩
end
section
open AutoSeq1 (wpAny_loadPart')
abbrev RngItems (j : Int) (acc : Array Value) : Prop := ItemsOf (fun i v => ∃ t, v = Value.int ((0 : Int) + (i : Nat) * 1) t) acc j.toNat
theorem collect_rng {prog : Program} {w : World} {A : Around} {E : Value → Shared → Prop} {s : Shared} {Q : List Value → Shared → Prop} {r : Addr} {j : Int} {t u v : Tok} (hh : A.handled = none) (hr : IsRange s.heap r 0 j 1 t u v) (h0 : 0 ≤ j) (h1 : j ≤ 1000000)
    (hQ : ∀ h' tk acc, (∀ b o, s.heap.get? b = some o → h'.get? b = some o) → RngItems j acc → Q acc.toList { s with heap := h', toks := tk }) : wpAny (model prog w) A (collect (.ref r)) Q E s := by
  have hS : (s.heap.push { cls := .type "list", data := .seq ([] : List Value).toArray }).get? s.heap.objs.size = some { cls := .type "list", data := .seq #[] 0 } := by exact Heap.get?_push_size _ rfl
  unfold collect; refine wpAny_bind (wpAny_runValue (codeAny_builtin F.entry_proto_collect ?_)); rw [Around.under_plainId F.plain_proto_collect _]
  show wpAny _ A.in1 (newList [] >>= fun l => again (.builtin "list.__iadd__" ⟨[l, .ref r], []⟩)) _ _ s
  refine wpAny_bind (wpAny_newObj_type (wpAny_pure ⟨plainId_quiet F.plain_list_iadd _, codeAny_builtin F.entry_list_iadd ?_⟩)); rw [Around.under_plainId F.plain_list_iadd _]
  show wpAny _ A.in1 (Builtin.List.listExtendWith (.ref s.heap.objs.size) (.ref r) (.ref s.heap.objs.size)) _ _ _
  have fin' : ∀ s', (∃ h' tk acc c', s' = { s with heap := h', toks := tk } ∧ (∀ b o, s.heap.get? b = some o → h'.get? b = some o) ∧ h'.get? s.heap.objs.size = some { cls := .type "list", dict := none, data := .seq acc c', slots := #[] } ∧ RngItems j acc) →
      wpAny (model prog w) A (match Value.ref s.heap.objs.size with
        | Value.ref a => do
          let o ← load a
          match o.data with
            | Data.seq xs _ => pure xs.toList
            | _ => unsupported "internal:collect"
        | _ => unsupported "internal:collect") Q E s' := by
    rintro s' ⟨h', tk, acc, c', rfl, kp, hS', hit⟩
    show wpAny _ A (load s.heap.objs.size >>= _) _ _ _
    exact wpAny_bind (wpAny_load hS' (wpAny_pure (hQ h' tk acc kp hit)))
  refine wpAny_mono (wpAny_extend_range (A := A) (R := fun r s' => r = .ok (.ret (.ref s.heap.objs.size)) ∧ ∃ h' tk acc c', s' = { s with heap := h', toks := tk } ∧ (∀ b o, s.heap.get? b = some o → h'.get? b = some o) ∧ h'.get? s.heap.objs.size = some { cls := .type "list", dict := none, data := .seq acc c', slots := #[] } ∧ RngItems j acc)
    (s := { s with heap := s.heap.push { cls := .type "list", data := .seq ([] : List Value).toArray } }) hh (Heap.get?_push_of_some _ hr) (range_small h0 h1) (range_count h0) (by omega) _ (.ref s.heap.objs.size) 0 hS fun h' tk acc c' kp hS' hit =>
      ⟨rfl, h', tk, acc, c', rfl, fun b o e => kp b o (Nat.ne_of_lt (Heap.lt_size e)) (Heap.get?_push_of_some _ e), hS', hit⟩) (fun fin s' h => ?_) (fun e s' h => absurd h.1 (by simp))
  cases fin with
  | done f => obtain ⟨e, g⟩ := h; cases e; exact fin' _ g
  | again c' => exact ⟨h.1, codeAny_mono h.2 fun r s'' hr => by obtain ⟨rfl, g⟩ := hr; exact fin' _ g⟩
theorem meets_tuple_rng (r : Addr) (j : Int) (t u v : Tok) (h0 : 0 ≤ j) (h1 : j ≤ 1000000) : Meets (Builtin.«tuple.__new__» ⟨[.type "tuple", .ref r], []⟩)
    (fun A R s => A.handled = none ∧ IsRange s.heap r 0 j 1 t u v ∧ ∀ (h' : Heap) tk acc, (∀ b o, s.heap.get? b = some o → h'.get? b = some o) → RngItems j acc →
      R (.ok (.ret (.ref h'.objs.size))) { s with heap := h'.push { cls := .type "tuple", data := .seq acc }, toks := tk }) :=
  .of_wp fun prog w A R s h => by
    obtain ⟨hp, g, d, tk, os⟩ := s; obtain ⟨hh, hr, h⟩ := h
    have hsub := sub_tuple_self; have hinit := init_tuple_lookup; have hmh := madeHere_tuple
    have hT : Shared.TypeIs ⟨hp, g, d, tk, os⟩ (.ref r) "range" := ⟨_, hr, rfl⟩
    wp_walk using wpAny_loadPart' hr, wpAny_typeOf hT, collect_rng (A := A.in1) hh hr h0 h1
    intro h' tk' acc hk hit
    show wpAny _ _ (Builtin.Tuple.tupleExact acc.toList.toArray >>= fun v => ret v) _ _ _
    have hz : acc.toList.toArray.size ≤ sizeLine := by
      have := hit.1
      rw [sizeLine_eq]
      simp only [List.size_toArray, Array.length_toList]
      omega
    unfold Builtin.Tuple.tupleExact; refine wpAny_bind (wpAny_newObj_type (wpAny_pure ⟨_, rfl, ?_⟩) hz)
    have e : acc.toList.toArray = acc := by simp
    rw [e]; exact h h' tk' acc hk hit
end
section
variable {X : Cx}
def rTupRng : List V → Hp → VK → Prop := fun xs H Q => ∃ p j, xs = [.ref p] ∧ H p = some (.rng 0 j) ∧ 0 ≤ j ∧ j ≤ 1000000 ∧ ∀ l, H l = none → Q (.ref l) (upd H l (.tup (rangeV j.toNat)))
theorem call_tup_rng (hc : X.calm = true) : CallR X (.type "tuple") rTupRng := by
  intro pins s σ H xs us Q I r h
  obtain ⟨p, j, rfl, hp, h0, h1, q⟩ := h
  obtain ⟨u, rfl, rx⟩ := vals1 r
  cases rx
  obtain ⟨t1, t2, t3, e⟩ := I.hok p _ hp
  refine callType_new F.called_tuple (by decide) (F.typeCall_tuple_1 _) (F.newCall_tuple_1 _) (fun obj => F.args_object_init_2 obj _) F.entry_tuple_new (meets_tuple_rng p j t1 t2 t3 h0 h1) ⟨I.ok.hd hc, e, fun h' tk acc kp hit => ⟨⟨_, Heap.get?_push_size _ rfl, rfl⟩, ?_⟩⟩
  have hv := items_range hit
  have I1 : Inv X pins σ H { s with heap := h', toks := tk } := I.kept kp
  have hz : (rangeV j.toNat).length ≤ sizeLine := by rw [sizeLine_eq]; simp [rangeV]; omega
  have I2 : Inv X pins σ (upd H h'.objs.size (.tup (rangeV j.toNat))) { s with heap := h'.push { cls := .type "tuple", data := .seq acc }, toks := tk } :=
    I1.laid (t' := tk) (fun b o e => Heap.get?_push_of_some _ e) (Nat.le_refl _) (show ObjOk X.prog X.w _ _ _ (.tup (rangeV j.toNat)) from ⟨hz, acc.toList, hv, by simpa using IsTup.new h' acc⟩)
  exact ⟨.ref h'.objs.size, _, I2, rfl, q _ (I1.hok.fresh (Nat.le_refl _))⟩
def rIsi (K : PySem.W.Frag) : List V → Hp → VK → Prop := fun xs H Q => ∃ x n t b, xs = [x, .ty n] ∧ TyOf K H x t ∧ PySem.W.kitOne K t (.type n) = some b ∧ Q (.bl b) H
end
end L2
namespace L2
open PySem PySem.Spec PyProof.Rows
structure CompSc (N : List Str) (osc : Scope) (vs : List Str) (sc : Scope) : Prop where
  kind : sc.kind = .function
  cell : ∀ y ∈ sc.names, y.2 ≠ .cell
  locs : ∀ y ∈ sc.names, y.2 = .local → sc.names.lookup y.1 = some .local
  own : ∀ y ∈ N.map (hide vs), sc.names.lookup y ≠ some .local
  hid : ∀ y ∈ vs, sc.names.lookup (hideStr y) = none
  nd : (vs ++ N.map (hide vs)).Nodup
  free : ∀ y ∈ sc.names, y.2 = .free → osc.names.lookup y.1 = some .cell ∨ osc.names.lookup y.1 = some .free
theorem CompSc.to {X : Cx} {N : List Str} {osc : Scope} {vs : List Str} {sc : Scope} (h : CompSc N osc vs sc) (hN : X.N = N := by rfl) (hs : X.env.scope = osc := by rfl) : CompScope X vs sc := by
  subst hN hs
  exact ⟨h.kind, h.cell, h.locs, h.own, h.hid, h.nd, h.free⟩
def Callee (P : Program) (w : World) (K : PySem.W.Frag) (mg : Str → Option Value) (base : Heap) (x : Str) (k : Nat) (ps : List Str) (sp : Sp) : Prop :=
  ∃ f fd, FnOk P w K mg base CX0 k f fd ps sp ∧ mg x = some (.ref f) ∧ PySem.W.keepIn K (.ref f) = true ∧ Binds K fd ps []
theorem pe_callD {X : Cx} {x : Str} {k : Nat} {ps : List Str} {sp : Sp} {e : Expr} {es : List Expr} {t : TA} {p pos : Pos} (c : Callee X.prog X.w X.K X.mg X.base x k ps sp) (hr : Room k X.A) (hg : Gl X x) (ha : PA X (e :: es) t)
    (hd : (x == ("__debug__" : Str)) = false := by decide) (hs : starEach (e :: es) X.env = (false, eval e X.env) :: starEach es X.env := by rfl) (hp : (backTo pos (starEach es X.env)).any (·.1) = false := by rfl) :
    PE X (.Call (.Name x p) (e :: es) [] pos) (tCall sp [] E0 t) := by
  obtain ⟨f, fd, F, m, kp, b⟩ := c
  exact pe_call F hr hg m kp b .nil pass0 ha hd hs hp
theorem IxR.k {X : Cx} {K : PySem.W.Frag} (r : PySem.W.Frag → R2) (h : IxR X (r X.K)) (hK : X.K = K) : IxR X (r K) := hK ▸ h
theorem OpR.k {X : Cx} {K : PySem.W.Frag} {f : Value → Value → Sem Value} (r : PySem.W.Frag → R2) (h : OpR X f (r X.K)) (hK : X.K = K) : OpR X f (r K) := hK ▸ h
theorem CallR.k {X : Cx} {K : PySem.W.Frag} {f : Value} (r : PySem.W.Frag → List V → Hp → VK → Prop) (h : CallR X f (r X.K)) (hK : X.K = K) : CallR X f (r K) := hK ▸ h
theorem SlR.k {X : Cx} {K : PySem.W.Frag} (r : PySem.W.Frag → V → Option Int → Option Int → Hp → VK → Prop) (h : SlR X (r X.K)) (hK : X.K = K) : SlR X (r K) := hK ▸ h
abbrev rLen (K : PySem.W.Frag) : List V → Hp → VK → Prop := fun xs H Q => ∃ p ys, xs = [.ref p] ∧ (SqL K H p ys ∨ SqT K H p ys) ∧ Q (.int ys.length) H
abbrev rListOf (K : PySem.W.Frag) : List V → Hp → VK → Prop := fun xs H Q => ∃ p ys, xs = [.ref p] ∧ (SqL K H p ys ∨ SqT K H p ys) ∧ ∀ l, H l = none → Q (.ref l) (upd H l (.lst ys))
abbrev rTupOf (K : PySem.W.Frag) : List V → Hp → VK → Prop := fun xs H Q => ∃ p ys, xs = [.ref p] ∧ ((SqL K H p ys ∧ ∀ l, H l = none → Q (.ref l) (upd H l (.tup ys))) ∨ (SqT K H p ys ∧ Q (.ref p) H))
theorem same_new {H : Hp} {p : Addr} (h : H p = none) (o : HO) : Same H (upd H p o) := fun b u q => by rw [upd_ne (ne_of_none q h)]; exact q
theorem small {n : Nat} (h : n ≤ 1000) : n ≤ sizeLine := Nat.le_of_lt (small1000 h)
abbrev nv (n : Nat) : V := .int (n : Int)
theorem nv_ints (xs : List Nat) : xs.map nv = (xs.map fun (n : Nat) => (n : Int)).map V.int := by rw [List.map_map]; rfl
theorem cast_inj {xs ys : List Nat} : (xs.map fun (n : Nat) => (n : Int)) = (ys.map fun (n : Nat) => (n : Int)) ↔ xs = ys :=
  ⟨fun h => map_inj (fun a b e => Int.ofNat.inj e) h, fun h => by rw [h]⟩
theorem repLn {K : PySem.W.Frag} {H : Hp} {n : Nat} {is : List Nat} {a : Addr} (h : SqL K H a (is.map nv)) : Rep K H (n + 1) (.lst ((is.map fun (n : Nat) => (n : Int)).map Dt.int)) (.ref a) := repL (by rw [← nv_ints]; exact h)
theorem repTn {K : PySem.W.Frag} {H : Hp} {n : Nat} {is : List Nat} {a : Addr} (h : SqT K H a (is.map nv)) : Rep K H (n + 1) (.tup ((is.map fun (n : Nat) => (n : Int)).map Dt.int)) (.ref a) := repT (by rw [← nv_ints]; exact h)
theorem dt_nats {xs ys : List Nat} : Dt.lst ((xs.map fun (n : Nat) => (n : Int)).map Dt.int) = Dt.lst ((ys.map fun (n : Nat) => (n : Int)).map Dt.int) ↔ xs = ys := dt_ints.trans cast_inj
theorem dt_natsT {xs ys : List Nat} : Dt.tup ((xs.map fun (n : Nat) => (n : Int)).map Dt.int) = Dt.tup ((ys.map fun (n : Nat) => (n : Int)).map Dt.int) ↔ xs = ys := dt_intsT.trans cast_inj
theorem at_nv {xs : List Nat} {k : Nat} (h : k < xs.length) : atI (xs.map nv) (k : Int) = some (nv (xs.getD k 0)) := atI_nat (by rw [List.getElem?_map, List.getElem?_eq_getElem h, List.getD_eq_getElem?_getD, List.getElem?_eq_getElem h]; rfl)
def NewT (H : Hp) (xs : List V) (Q : VK) : Prop := ∀ r H', Same H H' → H' r = some (.tup xs) → Q (.ref r) H'
def NewL (H : Hp) (xs : List V) (Q : VK) : Prop := ∀ r H', Same H H' → H' r = some (.lst xs) → Q (.ref r) H'
def tCut (t : TS) : TS := fun D σ H => ∃ S : St → Hp → Prop, t { D with nx := S } σ H ∧ ∀ σ' H', S σ' H' → D.nx σ' H'
theorem ps_cut {X : Cx} {st : Stmt} {t : TS} (h : PS X st t) : PS X st (tCut t) := by
  intro pins s σ H D I q
  obtain ⟨S, q1, q2⟩ := q
  refine thn (h pins s σ H _ I q1) fun f s' z => ?_
  cases f with
  | next => obtain ⟨σ', H', I', z⟩ := z; exact ⟨σ', H', I', q2 σ' H' z⟩
  | brk => exact z
  | cont => exact z
  | ret u => exact z
theorem same_upd {H H' : Hp} {l : Addr} {o : HO} (g : Same H H') (hl : H l = none) : Same H (upd H' l o) := fun b u e => by rw [upd_ne (ne_of_none e hl)]; exact g b u e
theorem at_int {cs : List Int} {k : Nat} (h : k < cs.length) : atI (cs.map V.int) (k : Int) = some (.int (cs.getD k 0)) := atI_nat (by rw [List.getElem?_map, List.getElem?_eq_getElem h, List.getD_eq_getElem?_getD, List.getElem?_eq_getElem h]; rfl)
theorem ixN_nat {n k : Nat} (h : k < n) : ixN n (k : Int) = some k := by
  unfold ixN
  rw [if_pos (by omega), if_pos (by omega), Int.toNat_natCast]
theorem mod_nv (c : Int) {n : Nat} (h : 1 ≤ n) : V.int (c % (n : Int)) = nv (c % (n : Int)).toNat ∧ (c % (n : Int)).toNat < n := by
  have h1 := Int.emod_nonneg c (by omega : (n : Int) ≠ 0)
  have h2 := Int.emod_lt_of_pos c (by omega : (0 : Int) < (n : Int))
  refine ⟨?_, by omega⟩
  show V.int _ = V.int (((c % (n : Int)).toNat : Nat) : Int)
  rw [Int.toNat_of_nonneg h1]
theorem set_nv (ys : List Nat) (j v : Nat) : (ys.map nv).set j (nv v) = (ys.set j v).map nv := (List.map_set).symm
theorem set_lt {ys : List Nat} {j v n : Nat} (h : ∀ y ∈ ys, y < n) (hv : v < n) : ∀ y ∈ ys.set j v, y < n := by
  intro y hy
  rcases List.mem_or_eq_of_mem_set hy with z | z
  · exact h y z
  · rw [z]; exact hv
theorem getD_lt {ys : List Nat} {j n : Nat} (h : ∀ y ∈ ys, y < n) (hj : j < ys.length) : ys.getD j 0 < n := by
  rw [List.getD_eq_getElem?_getD, List.getElem?_eq_getElem hj]
  exact h _ (List.getElem_mem hj)
end L2
namespace L2
open PySem PySem.Spec PyProof.Rows
theorem dlenH_meets {P : Program} {w : World} {a : Addr} {κ : Type} [DecidableEq κ] {kd : HeapKind P w κ} (na : (a == sysModules) = false) :
    MeetsIn P w (Builtin.«dict.__len__» ⟨[.ref a], []⟩) fun _ R s => ∃ xs, s.heap.DictOfH kd a xs ∧ R (.ok (.ret (.int xs.length s.toks))) { s with toks := s.toks + 1 } :=
  .of_wp fun A R s ⟨xs, dd, q⟩ => by
    obtain ⟨ob, en, ep, g1, g2, g3, g4, _⟩ := dd
    have ez : en.size = xs.length := size_of_entries g4
    show wpAny _ _ (dictSize a >>= _) _ _ s
    unfold dictSize
    refine wpAny_bind (wpAny_bind (wpAny_dictEntries g1 g3 (wpAny_pure (wpAny_bind (wpAny_pendingCount_other na (wpAny_ret_mkInt ?_))))))
    rw [Nat.add_zero, ez]
    exact q
theorem dlenH_body {P : Program} {w : World} {A : Around} {E : Value → Shared → Prop} {s : Shared} {a : Addr} {κ : Type} [DecidableEq κ] {kd : HeapKind P w κ} {xs : List (κ × Addr × Value)} {Q : Value → Shared → Prop} (na : (a == sysModules) = false)
    (dd : s.heap.DictOfH kd a xs) (few : (xs.length : Int) < 2 ^ 63) (q : Q (.int xs.length (s.toks + 1)) { s with toks := s.toks + 1 + 1 }) : wpAny (model P w) A (Builtin.«len» ⟨[.ref a], []⟩) (fun fin s' => ∃ r, fin = .done (.ret r) ∧ Q r s') E s := by
  have n0 : ¬ ((xs.length : Nat) : Int) < 0 := by omega
  have n1 : ¬ ((xs.length : Nat) : Int) ≥ 2 ^ 63 := by omega
  unfold Builtin.«len»
  refine wpAny_bind (m := oneArg "len" _) (wpAny_pure (wpAny_bind (m := callSpecial? (.ref a) (Str.ofString "__len__")) ?_))
  refine wpAny_callSpecial?_slot (name := Str.ofString "__len__") dd.typeIs F.slot_dict_len (call_meetsIn F.slot_dict_len dd.typeIs F.entry_dict_len (F.args_dict_len_1 _) (dlenH_meets (kd := kd) na) ⟨xs, dd, ?_⟩)
  show wpAny _ _ _ _ _ { s with toks := s.toks + 1 }
  refine wpAny_bind (wpAny_holding (wpAny_pure (wpAny_bind (wpAny_letGo ?_))))
  show wpAny _ _ (if ((xs.length : Nat) : Int) < 0 then _ else (if ((xs.length : Nat) : Int) ≥ 2 ^ 63 then _ else _)) _ _ _
  rw [if_neg n0, if_neg n1]
  exact wpAny_bind (wpAny_mkInt (wpAny_pure ⟨_, rfl, q⟩))
section
variable {X : Cx}
theorem call_lenT : CallR X (.builtin "len") (fun xs H Q => ∃ a kvs, xs = [V.ref a] ∧ H a = some (.dT kvs) ∧ Q (.int kvs.length) H) := by
  intro pins s σ H xs us Q I r h
  obtain ⟨a, kvs, rfl, ha, q⟩ := h
  obtain ⟨u, rfl, ru⟩ := vals1 r
  cases ru
  obtain ⟨z, na, ys, rel, dd⟩ := dt_of I.hok ha
  have el : kvs.length = ys.length := Paired.length rel
  refine Calls.call_function_entry kind_len plain_len entry_len (args_len1 _) (dlenH_body na dd (by rw [← el]; rw [sizeLine_eq] at z; omega) ?_)
  exact ⟨.int kvs.length, H, I.tok _, ⟨_, by rw [el]⟩, q⟩
end
def nk (xs : List Nat) : List Key := xs.map fun (n : Nat) => (Sum.inl (n : Int) : Key)
theorem nk_kV (xs : List Nat) : (nk xs).map kV = xs.map nv := by
  unfold nk
  rw [List.map_map]
  rfl
theorem nk_inj {xs ys : List Nat} (h : nk xs = nk ys) : xs = ys := by
  unfold nk at h
  exact map_inj (fun a b e => by injection e with e; exact Int.ofNat.inj e) h
end L2
namespace L2
open PySem PySem.Spec PyProof.Rows
section
variable {X : Cx}
def rCatS (K : PySem.W.Frag) : R2 := fun x y H Q => ∃ l b xs zs, x = .ref l ∧ y = .ref b ∧ SqL K H l xs ∧ SqL K H b zs ∧ xs.length + zs.length ≤ sizeLine ∧ ∀ p, H p = none → Q (.ref p) (upd H p (.lst (xs ++ zs)))
theorem op_catS : OpR X (binaryOp .Add) (rCatS X.K) := by
  intro pins s σ H x y v u Q I rx ry h
  obtain ⟨l, b, xs, zs, rfl, rfl, hl, hb, hz, q⟩ := h
  cases rx
  cases ry
  obtain ⟨its, r, ⟨⟨c1, d1, k1, s1⟩, n, e, ec, ed, ek⟩, _⟩ := I.list hl
  obtain ⟨its2, r2, ⟨⟨c2, d2, k2, s2⟩, n2, e2, ec2, ed2, ek2⟩, _⟩ := I.list hb
  simp only at ec ed ek ec2 ed2 ek2
  subst ec ed ek ec2 ed2 ek2
  have l1 := r.length
  have l2 := r2.length
  have ea : its.toArray ++ its2.toArray = (its ++ its2).toArray := by simp
  refine concat_meets ⟨_, e, rfl⟩ ⟨_, e2, rfl⟩ noFill_list_add seq_list_add F.slot_list_add F.entry_list_add (F.args_list_add_2 _ _) (list_addW l b its.toArray its2.toArray n n2 none none s1 s2 (by simp only [List.size_toArray]; omega)) ⟨e, e2, ?_⟩
  rw [ea]
  exact ⟨.ref _, _, I.lnew (t' := s.toks) (r.append r2) (by rw [List.length_append]; omega), rfl, q _ I.fresh⟩
def rIndex (K : PySem.W.Frag) : V → List V → Hp → VK → Prop := fun x vs H Q => ∃ (l : Addr) (ns : List Int) (i : Int), x = .ref l ∧ vs = [.int i] ∧ SqL K H l (ns.map V.int) ∧ i ∈ ns ∧ Q (.int (ns.idxOf i : Nat)) H
end
end L2
namespace L2
open PySem PySem.Spec PyProof.Rows
section
variable {X : Cx}
def rSlA : V → Option Int → Option Int → Hp → VK → Prop := fun x lo hi H Q => ∃ a xs, x = .ref a ∧ H a = some (.tup xs) ∧ ∀ p H', Same H H' → H' p = some (.tup (cutV xs lo hi)) → Q (.ref p) H'
end
end L2
namespace L2
open PySem PySem.Spec PyProof.Rows
section
variable {X : Cx}
def rCatA : R2 := fun x y H Q => ∃ a b xs ys, x = .ref a ∧ y = .ref b ∧ H a = some (.tup xs) ∧ H b = some (.tup ys) ∧ xs.length + ys.length ≤ sizeLine ∧ ∀ p H', Same H H' → H' p = some (.tup (xs ++ ys)) → Q (.ref p) H'
end
end L2
namespace L2
open PySem PySem.Spec PyProof.Rows
open AutoSeq1 (wpAny_loadPart')
section
variable {X : Cx}
def rRepA : R2 := fun x y H Q => ∃ a xs k, x = .ref a ∧ y = .int ((k + 1 : Nat) : Int) ∧ H a = some (.tup xs) ∧ k ≤ 1000 ∧ xs.length ≤ 1000 ∧ ∀ p H', Same H H' → H' p = some (.tup (List.replicate (k + 1) xs).flatten) → Q (.ref p) H'
end
end L2
namespace L2
open PySem PySem.Spec PyProof.Rows
section
variable {X : Cx}
def rAll (K : PySem.W.Frag) : List V → Hp → VK → Prop := fun xs H Q => ∃ (p : Addr) (bs : List Bool), xs = [.ref p] ∧ SqL K H p (bs.map V.bl) ∧ Q (.bl (bs.all id)) H
abbrev TJ := Str → St → Hp → (Str → Hp → Prop) → Prop
def PJ (X : Cx) (vs : List Expr) (t : TJ) : Prop := ∀ (pins : List (Addr × Obj)) (s : Shared) (σ : St) (H : Hp) (out : Str) (Q : Str → Hp → Prop), Inv X pins σ H s → t out σ H Q →
  wpAny (model X.prog X.w) X.A (joinParts out (evalEach vs X.env)) (fun u s' => ∃ x H', Inv X pins σ H' s' ∧ RelV (.str x) u ∧ Q x H') X.xe s
def jNil : TJ := fun out _ H Q => out.length ≤ sizeLine ∧ Q out H
def jStr (x : Str) (t : TJ) : TJ := fun out σ H Q => (out ++ x).length ≤ sizeLine ∧ t (out ++ x) σ H Q
def jInt (te : TE) (t : TJ) : TJ := fun out σ H Q => te σ H fun v H1 => ∃ i : Int, v = .int i ∧ i.natAbs.log2 < 1920 ∧ (out ++ Str.ofString (toString i)).length ≤ sizeLine ∧ t (out ++ Str.ofString (toString i)) σ H1 Q
theorem pj_nil : PJ X [] jNil := fun pins s σ H out Q I h => joinParts_nil ⟨out, H, I.tok _, ⟨_, rfl⟩, h.2⟩ h.1
theorem pj_str {x : Str} {j : Nat} {pos : Pos} {vs : List Expr} {t : TJ} (hr : PJ X vs t) : PJ X (.Constant (.str x) j pos :: vs) (jStr x t) := by
  intro pins s σ H out Q I h
  show wpAny _ _ (joinParts out (eval (.Constant (.str x) j pos) X.env :: evalEach vs X.env)) _ _ s
  exact joinParts_cons (Calls.Constant_str ⟨h.1, hr pins _ σ H _ Q (I.tok _) h.2⟩)
theorem pj_int {e : Expr} {pos : Pos} {vs : List Expr} {te : TE} {t : TJ} (he : PE X e te) (hr : PJ X vs t) : PJ X (.FormattedValue e (-1) none pos :: vs) (jInt te t) := by
  intro pins s σ H out Q I h
  show wpAny _ _ (joinParts out (eval (.FormattedValue e (-1) none pos) X.env :: evalEach vs X.env)) _ _ s
  refine joinParts_cons (FormattedValue_plain (thn (he pins s σ H _ I h) fun v s1 ⟨y, H1, I1, r1, i, e1, hz, hl, q⟩ => ?_))
  subst e1
  obtain ⟨tk, rfl⟩ := r1
  exact formatField_int_small hz ⟨hl, hr pins _ σ H1 _ Q (I1.tok _) q⟩
theorem pe_fstr {v1 v2 : Expr} {vs : List Expr} {pos : Pos} {t : TJ} (h : PJ X (v1 :: v2 :: vs) t) : PE X (.JoinedStr (v1 :: v2 :: vs) pos) (fun σ H Q => t Str.empty σ H fun x H' => Q (.str x) H') := by
  intro pins s σ H Q I hq
  exact JoinedStr_many (thn (h pins s σ H Str.empty _ I hq) fun u s1 ⟨x, H1, I1, r, q⟩ => ⟨.str x, H1, I1, r, q⟩)
def rJoin (K : PySem.W.Frag) : V → List V → Hp → VK → Prop := fun x vs H Q => ∃ (z : Str) (l : Addr) (ys : List Str), x = .str z ∧ vs = [.ref l] ∧ SqL K H l (ys.map V.str) ∧ z.length ≤ 16 ∧ (ys.map (·.length)).sum + ys.length ≤ 1048576 ∧ Q (.str (Txt.join z ys)) H
end
end L2
namespace L2
open PySem PySem.Spec PyProof.Rows
structure PL (X : Cx) (es : List Expr) (t : TA) : Prop where
  pa : PA X es t
structure QE (X : Cx) (e : Expr) (t : TE) : Prop where
  pe : PE X e t
structure QS (X : Cx) (st : Stmt) (t : TS) : Prop where
  ps : PS X st t
structure QSs (X : Cx) (b : List Stmt) (t : TS) : Prop where
  pss : PSs X b t
section
variable {X : Cx} {e a b : Expr} {es : List Expr} {te ta tb : TE} {t : TA} {pos : Pos}
theorem pl_nil : PL X [] tNil := ⟨pa_nil⟩
theorem pl_cons (ha : PE X e te) (hr : PL X es t) (hs : starEach (e :: es) X.env = (false, eval e X.env) :: starEach es X.env) : PL X (e :: es) (tCons te t) := ⟨pa_cons ha hr.pa hs⟩
theorem pl_at (h : PL X es t) : PA X es t := h.pa
end
section
variable {X : Cx} {e : Expr} {te : TE} {st : Stmt} {rest : List Stmt} {t u : TS} {pos : Pos}
end
end L2
namespace Cyc
def beh (xs ys : List Nat) : List Nat := xs.map fun x => ys.getD x 0
def Turn (t : List Nat) : Prop := ∀ x ∈ t, x < t.length
def it (t : List Nat) (r : Nat) : Nat → Nat
  | 0 => r
  | k + 1 => t.getD (it t r k) 0
def pw (t : List Nat) : Nat → List Nat
  | 0 => List.range t.length
  | k + 1 => beh (pw t k) t
theorem getD_lt {t : List Nat} (h : Turn t) {x : Nat} (hx : x < t.length) : t.getD x 0 < t.length := by
  rw [List.getD_eq_getElem?_getD, List.getElem?_eq_getElem hx]
  exact h _ (List.getElem_mem hx)
theorem it_lt {t : List Nat} (h : Turn t) {r : Nat} (hr : r < t.length) : ∀ k, it t r k < t.length
  | 0 => hr
  | k + 1 => getD_lt h (it_lt h hr k)
theorem pw_eq (t : List Nat) : ∀ k, pw t k = (List.range t.length).map fun r => it t r k
  | 0 => by
    show List.range t.length = _
    have : (List.range t.length).map (fun r => it t r 0) = (List.range t.length).map id := List.map_congr_left fun r _ => rfl
    rw [this, List.map_id]
  | k + 1 => by
    show beh (pw t k) t = _
    rw [pw_eq t k]
    unfold beh
    rw [List.map_map]
    rfl
theorem pw_same {t : List Nat} {i j : Nat} : pw t i = pw t j ↔ ∀ r, r < t.length → it t r i = it t r j := by
  rw [pw_eq, pw_eq]
  constructor
  · intro h r hr
    have e := congrArg (fun l : List Nat => l[r]?) h
    simpa [List.getElem?_map, List.getElem?_range hr] using e
  · intro h
    exact List.map_congr_left fun r hr => h r (List.mem_range.mp hr)
theorem pw_len (t : List Nat) (k : Nat) : (pw t k).length = t.length := by rw [pw_eq]; simp
theorem pw_lt {t : List Nat} (h : Turn t) (k : Nat) : ∀ x ∈ pw t k, x < t.length := by
  intro x hx
  rw [pw_eq] at hx
  obtain ⟨r, hr, rfl⟩ := List.mem_map.mp hx
  exact it_lt h (List.mem_range.mp hr) k
theorem php : ∀ (n : Nat) (f : Nat → Nat), (∀ k, k ≤ n → f k < n) → ∃ i j, i < j ∧ j ≤ n ∧ f i = f j
  | 0, f, h => absurd (h 0 (Nat.le_refl _)) (Nat.not_lt_zero _)
  | n + 1, f, h => by
    by_cases e : ∃ i, i ≤ n ∧ f i = f (n + 1)
    · obtain ⟨i, hi, e⟩ := e
      exact ⟨i, n + 1, by omega, Nat.le_refl _, e⟩
    · have ne : ∀ i, i ≤ n → f i ≠ f (n + 1) := fun i hi q => e ⟨i, hi, q⟩
      obtain ⟨i, j, h1, h2, h3⟩ := php n (fun k => if f k = n then f (n + 1) else f k) fun k hk => by
        have a := h k (by omega)
        have b := h (n + 1) (Nat.le_refl _)
        have c := ne k hk
        show (if f k = n then f (n + 1) else f k) < n
        split <;> omega
      refine ⟨i, j, h1, by omega, ?_⟩
      have c1 := ne i (by omega)
      have c2 := ne j h2
      have h3' : (if f i = n then f (n + 1) else f i) = (if f j = n then f (n + 1) else f j) := h3
      split at h3' <;> split at h3' <;> omega
structure Ring {α : Type} (x : Nat → α) (i c : Nat) : Prop where
  pos : 0 < c
  back : x (i + c) = x i
  apart : ∀ a b, a < b → b < i + c → x a ≠ x b
theorem ring_same {α : Type} {x : Nat → α} {F : α → α} (hx : ∀ k, x (k + 1) = F (x k)) {i c : Nat} (R : Ring x i c) : ∀ b a, a < b → (x a = x b ↔ (i ≤ a ∧ c ∣ b - a)) := by
  have per : ∀ k, x (i + k + c) = x (i + k) := by
    intro k
    induction k with
    | zero => exact R.back
    | succ k ih =>
      have e1 : i + (k + 1) + c = (i + k + c) + 1 := by omega
      have e2 : i + (k + 1) = (i + k) + 1 := by omega
      rw [e1, e2, hx, hx, ih]
  have pers : ∀ m k, x (i + k + m * c) = x (i + k) := by
    intro m
    induction m with
    | zero => intro k; simp
    | succ m ih =>
      intro k
      have e : i + k + (m + 1) * c = i + (k + m * c) + c := by rw [Nat.add_mul]; omega
      rw [e, per, ← ih k]
      congr 1
      omega
  intro b
  induction b using Nat.strongRecOn with
  | ind b ih =>
    intro a hab
    constructor
    · intro h
      by_cases hb : b < i + c
      · exact absurd h (R.apart a b hab hb)
      · have hp := R.pos
        have e : x b = x (b - c) := by
          have e1 : b = i + (b - c - i) + c := by omega
          have e2 : b - c = i + (b - c - i) := by omega
          rw [e2]
          conv => lhs; rw [e1]
          exact per _
        rw [e] at h
        by_cases h1 : a < b - c
        · obtain ⟨q1, q2⟩ := (ih (b - c) (by omega) a h1).mp h
          refine ⟨q1, ?_⟩
          have : b - a = (b - c - a) + c := by omega
          rw [this]
          exact Nat.dvd_add q2 (Nat.dvd_refl c)
        · by_cases h2 : a = b - c
          · refine ⟨by omega, ?_⟩
            have : b - a = c := by omega
            rw [this]
            exact Nat.dvd_refl c
          · obtain ⟨q1, q2⟩ := (ih a hab (b - c) (by omega)).mp h.symm
            have := Nat.le_of_dvd (by omega) q2
            omega
    · rintro ⟨h1, m, hm⟩
      have e1 : a = i + (a - i) := by omega
      have e2 : b = i + (a - i) + m * c := by
        rw [Nat.mul_comm]
        omega
      conv => rhs; rw [e2]
      rw [pers, ← e1]
theorem first_again {α : Type} [DecidableEq α] (x : Nat → α) : ∀ (N : Nat), (∃ a b, a < b ∧ b ≤ N ∧ x a = x b) → ∃ i c, Ring x i c ∧ i + c ≤ N := by
  intro N
  induction N with
  | zero => rintro ⟨a, b, h1, h2, _⟩; omega
  | succ N ih =>
    rintro ⟨a, b, h1, h2, h3⟩
    by_cases h : ∃ a b, a < b ∧ b ≤ N ∧ x a = x b
    · obtain ⟨i, c, R, hl⟩ := ih h
      exact ⟨i, c, R, by omega⟩
    · have hb : b = N + 1 := by
        by_cases q : b ≤ N
        · exact absurd ⟨a, b, h1, q, h3⟩ h
        · omega
      refine ⟨a, b - a, ⟨by omega, ?_, fun a' b' h4 h5 h6 => h ⟨a', b', h4, by omega, h6⟩⟩, by omega⟩
      have : a + (b - a) = b := by omega
      rw [this, h3]
theorem room_ring {t : List Nat} (h : Turn t) {r : Nat} (hr : r < t.length) : ∃ i c, Ring (it t r) i c ∧ i + c ≤ t.length :=
  first_again _ _ (let ⟨i, j, h1, h2, h3⟩ := php t.length (it t r) fun k _ => it_lt h hr k; ⟨i, j, h1, h2, h3⟩)
def fact : Nat → Nat
  | 0 => 1
  | n + 1 => (n + 1) * fact n
theorem dvd_fact : ∀ (n c : Nat), 0 < c → c ≤ n → c ∣ fact n
  | 0, c, h1, h2 => by omega
  | n + 1, c, h1, h2 => by
    by_cases h : c = n + 1
    · rw [h]
      exact Nat.dvd_mul_right _ _
    · exact Nat.dvd_trans (dvd_fact n c h1 (by omega)) (Nat.dvd_mul_left _ _)
theorem fact_pos : ∀ n, 0 < fact n
  | 0 => Nat.one_pos
  | n + 1 => Nat.mul_pos (Nat.succ_pos n) (fact_pos n)
theorem fact_le : ∀ n, n ≤ 10 → fact n ≤ 3628800 := by decide
theorem pw_again {t : List Nat} (h : Turn t) : pw t t.length = pw t (t.length + fact t.length) := by
  rw [pw_same]
  intro r hr
  obtain ⟨i, c, R, hl⟩ := room_ring h hr
  have hp := R.pos
  refine (ring_same (F := fun y => t.getD y 0) (fun _ => rfl) R _ _ (by have := fact_pos t.length; omega)).mpr ⟨by omega, ?_⟩
  have : t.length + fact t.length - t.length = fact t.length := by omega
  rw [this]
  exact dvd_fact _ _ hp (by omega)
theorem it_add (t : List Nat) (r a : Nat) : ∀ k, it t r (a + k) = it t (it t r a) k
  | 0 => rfl
  | k + 1 => by
    show t.getD (it t r (a + k)) 0 = t.getD (it t (it t r a) k) 0
    rw [it_add t r a k]
theorem ring_dvd {t : List Nat} {r i c : Nat} (R : Ring (it t r) i c) {x k : Nat} (hx : i ≤ x) (hk : 0 < k) : it t r (x + k) = it t r x ↔ c ∣ k := by
  have := ring_same (F := fun y => t.getD y 0) (fun _ => rfl) R (x + k) x (by omega)
  rw [Nat.add_sub_cancel_left] at this
  exact ⟨fun h => (this.mp h.symm).2, fun h => (this.mpr ⟨hx, h⟩).symm⟩
theorem rings_apart {t : List Nat} (h : Turn t) {r s i c j d : Nat} (hr : r < t.length) (hs : s < t.length) (R : Ring (it t r) i c) (S : Ring (it t s) j d) : c = d ∨ c + d ≤ t.length := by
  by_cases hlt : c + d ≤ t.length
  · exact .inr hlt
  · refine .inl ?_
    have hc := R.pos
    have hd := S.pos
    obtain ⟨x, y, h1, h2, h3⟩ := php t.length (fun k => if k < c then it t r (i + k) else it t s (j + (k - c))) fun k _ => by
      try dsimp only
      split
      · exact it_lt h hr _
      · exact it_lt h hs _
    try dsimp only at h3
    by_cases hy : y < c
    · rw [if_pos (by omega), if_pos hy] at h3
      exact absurd h3 (R.apart _ _ (by omega) (by omega))
    · rw [if_neg hy] at h3
      by_cases hx : x < c
      · rw [if_pos hx] at h3
        have key : ∀ k, 0 < k → (c ∣ k ↔ d ∣ k) := by
          intro k hk
          rw [← ring_dvd R (x := i + x) (by omega) hk, ← ring_dvd S (x := j + (y - c)) (by omega) hk, it_add t r (i + x) k, it_add t s (j + (y - c)) k, h3]
        exact Nat.dvd_antisymm ((key d hd).mpr (Nat.dvd_refl d)) ((key c hc).mp (Nat.dvd_refl c))
      · rw [if_neg hx] at h3
        exact absurd h3 (S.apart _ _ (by omega) (by omega))
theorem few_rings {n : Nat} (c : Nat → Nat) (h5 : n ≤ 5) (pos : ∀ r, r < n → 0 < c r) (le : ∀ r, r < n → c r ≤ n) (ap : ∀ r s, r < n → s < n → c r = c s ∨ c r + c s ≤ n) : ∃ L, 0 < L ∧ L ≤ 6 ∧ ∀ r, r < n → c r ∣ L := by
  by_cases e5 : ∃ r, r < n ∧ c r = 5
  · obtain ⟨r, hr, e⟩ := e5
    refine ⟨5, by omega, by omega, fun s hs => ?_⟩
    have a := ap r s hr hs
    have b := pos s hs
    have : c s = 5 := by omega
    rw [this]
    exact Nat.dvd_refl _
  · by_cases e4 : ∃ r, r < n ∧ c r = 4
    · obtain ⟨r, hr, e⟩ := e4
      refine ⟨4, by omega, by omega, fun s hs => ?_⟩
      have a := ap r s hr hs
      have b := pos s hs
      have : c s = 4 ∨ c s = 1 := by omega
      rcases this with z | z <;> rw [z] <;> decide
    · by_cases e3 : ∃ r, r < n ∧ c r = 3
      · obtain ⟨r, hr, e⟩ := e3
        refine ⟨6, by omega, by omega, fun s hs => ?_⟩
        have a := ap r s hr hs
        have b := pos s hs
        have : c s = 3 ∨ c s = 1 ∨ c s = 2 := by omega
        rcases this with z | z | z <;> rw [z] <;> decide
      · refine ⟨2, by omega, by omega, fun s hs => ?_⟩
        have a := le s hs
        have b := pos s hs
        have n5 : c s ≠ 5 := fun z => e5 ⟨s, hs, z⟩
        have n4 : c s ≠ 4 := fun z => e4 ⟨s, hs, z⟩
        have n3 : c s ≠ 3 := fun z => e3 ⟨s, hs, z⟩
        have : c s = 1 ∨ c s = 2 := by omega
        rcases this with z | z <;> rw [z] <;> decide
theorem ring_five {t : List Nat} (h : Turn t) (h1 : 1 ≤ t.length) (h5 : t.length ≤ 5) {b c : Nat} (R : Ring (pw t) b c) : b < t.length ∧ c ≤ 6 := by
  have ex : ∀ r, ∃ q : Nat × Nat, r < t.length → Ring (it t r) q.1 q.2 ∧ q.1 + q.2 ≤ t.length := fun r => by
    by_cases hr : r < t.length
    · obtain ⟨i, c, R, hl⟩ := room_ring h hr
      exact ⟨(i, c), fun _ => ⟨R, hl⟩⟩
    · exact ⟨(0, 0), fun z => absurd z hr⟩
  obtain ⟨f, hf⟩ : ∃ f : Nat → Nat × Nat, ∀ r, r < t.length → Ring (it t r) (f r).1 (f r).2 ∧ (f r).1 + (f r).2 ≤ t.length := ⟨fun r => Classical.choose (ex r), fun r => Classical.choose_spec (ex r)⟩
  obtain ⟨L, hL0, hL6, hL⟩ := few_rings (n := t.length) (fun r => (f r).2) h5 (fun r hr => (hf r hr).1.pos) (fun r hr => by have := (hf r hr).2; omega) (fun r s hr hs => rings_apart h hr hs (hf r hr).1 (hf s hs).1)
  have e : pw t (t.length - 1) = pw t (t.length - 1 + L) := by
    rw [pw_same]
    intro r hr
    obtain ⟨q1, q2⟩ := hf r hr
    have := q1.pos
    exact ((ring_dvd q1 (x := t.length - 1) (by omega) hL0).mpr (hL r hr)).symm
  have := (ring_same (F := fun p => beh p t) (fun _ => rfl) R (t.length - 1 + L) (t.length - 1) (by omega)).mp e
  rw [Nat.add_sub_cancel_left] at this
  have hle := Nat.le_of_dvd hL0 this.2
  omega
end Cyc
namespace Cyc
def Tn (n : Nat) (t : List Nat) : Prop := t.length = n ∧ ∀ x ∈ t, x < n
theorem Tn.turn {n : Nat} {t : List Nat} (h : Tn n t) : Turn t := fun x hx => by rw [h.1]; exact h.2 x hx
theorem beh_len {x y : List Nat} : (beh x y).length = x.length := by simp [beh]
theorem beh_tn {n : Nat} {x y : List Nat} (hx : Tn n x) (hy : Tn n y) : Tn n (beh x y) := by
  refine ⟨by rw [beh_len, hx.1], fun z hz => ?_⟩
  obtain ⟨a, ha, rfl⟩ := List.mem_map.mp hz
  have hl : a < y.length := by rw [hy.1]; exact hx.2 a ha
  show y.getD a 0 < n
  rw [List.getD_eq_getElem?_getD, List.getElem?_eq_getElem hl]
  exact hy.2 _ (List.getElem_mem hl)
theorem beh_assoc {x y z : List Nat} (h : ∀ a ∈ x, a < y.length) : beh (beh x y) z = beh x (beh y z) := by
  unfold beh
  rw [List.map_map]
  refine List.map_congr_left fun a ha => ?_
  have hl := h a ha
  show z.getD (y.getD a 0) 0 = (y.map fun x => z.getD x 0).getD a 0
  rw [List.getD_eq_getElem?_getD (l := y), List.getD_eq_getElem?_getD (l := y.map _), List.getElem?_map, List.getElem?_eq_getElem hl]
  rfl
theorem assoc {n : Nat} {x y z : List Nat} (hx : Tn n x) (hy : Tn n y) : beh (beh x y) z = beh x (beh y z) := beh_assoc fun a ha => by rw [hy.1]; exact hx.2 a ha
theorem range_tn (n : Nat) : Tn n (List.range n) := ⟨List.length_range, fun _ h => List.mem_range.mp h⟩
theorem beh_range {n : Nat} {y : List Nat} (hy : y.length = n) : beh (List.range n) y = y := by
  refine List.ext_getElem? fun i => ?_
  unfold beh
  rw [List.getElem?_map]
  by_cases h : i < n
  · rw [List.getElem?_range h, List.getElem?_eq_getElem (by omega)]
    show some (y.getD i 0) = _
    rw [List.getD_eq_getElem?_getD, List.getElem?_eq_getElem (by omega)]
    rfl
  · rw [List.getElem?_eq_none (by simp; omega), List.getElem?_eq_none (by omega)]
    rfl
theorem pw_one (t : List Nat) : pw t 1 = t := beh_range rfl
theorem pw_tn {n : Nat} {t : List Nat} (h : Tn n t) (k : Nat) : Tn n (pw t k) := ⟨by rw [pw_len, h.1], fun x hx => by have := pw_lt h.turn k x hx; rw [h.1] at this; exact this⟩
theorem pw_add {n : Nat} {t : List Nat} (h : Tn n t) (a : Nat) : ∀ b, beh (pw t a) (pw t b) = pw t (a + b)
  | 0 => by
    show beh (pw t a) (List.range t.length) = pw t a
    unfold beh
    have : (pw t a).map (fun x => (List.range t.length).getD x 0) = (pw t a).map id := List.map_congr_left fun x hx => by
      have hl := pw_lt h.turn a x hx
      rw [List.getD_eq_getElem?_getD, List.getElem?_range hl]
      rfl
    rw [this, List.map_id]
  | b + 1 => by
    show beh (pw t a) (beh (pw t b) t) = beh (pw t (a + b)) t
    rw [← pw_add h a b, assoc (pw_tn h a) (pw_tn h b)]
def Idem (e : List Nat) : Prop := beh e e = e
instance (e : List Nat) : Decidable (Idem e) := inferInstanceAs (Decidable (beh e e = e))
theorem idem_mul {n : Nat} {t : List Nat} (h : Tn n t) {k : Nat} (i : Idem (pw t k)) : ∀ m, pw t (k * (m + 1)) = pw t k
  | 0 => by rw [Nat.zero_add, Nat.mul_one]
  | m + 1 => by
    rw [Nat.mul_succ, ← pw_add h, idem_mul h i m]
    exact i
theorem idem_uniq {n : Nat} {t : List Nat} (h : Tn n t) {k j : Nat} (hk : 1 ≤ k) (hj : 1 ≤ j) (i : Idem (pw t k)) (i' : Idem (pw t j)) : pw t k = pw t j := by
  obtain ⟨a, rfl⟩ : ∃ a, k = a + 1 := ⟨k - 1, by omega⟩
  obtain ⟨b, rfl⟩ : ∃ b, j = b + 1 := ⟨j - 1, by omega⟩
  rw [← idem_mul h i b, ← idem_mul h i' a, Nat.mul_comm]
theorem ring_of {t : List Nat} (h : Turn t) : ∃ b c, Ring (pw t) b c ∧ b + c ≤ t.length + fact t.length := first_again _ _ ⟨t.length, t.length + fact t.length, by have := fact_pos t.length; omega, Nat.le_refl _, pw_again h⟩
theorem idem_ex {n : Nat} {t : List Nat} (h : Tn n t) {b c : Nat} (R : Ring (pw t) b c) : Idem (pw t (c * (b + 1))) := by
  show beh _ _ = _
  have hp := R.pos
  have hm : c * (b + 1) ≥ b + 1 := Nat.le_mul_of_pos_left _ hp
  rw [pw_add h]
  refine ((ring_same (F := fun p => beh p t) (fun _ => rfl) R _ _ (by omega)).mpr ⟨by omega, ?_⟩).symm
  rw [Nat.add_sub_cancel]
  exact Nat.dvd_mul_right _ _
def Again (t : List Nat) : Prop := ∃ c, 1 ≤ c ∧ pw t (c + 1) = t
theorem again_ring {t : List Nat} {b c : Nat} (R : Ring (pw t) b c) : Again t ↔ b ≤ 1 := by
  constructor
  · rintro ⟨d, hd, e⟩
    have e' : pw t 1 = pw t (d + 1) := by rw [e, pw_one]
    exact ((ring_same (F := fun p => beh p t) (fun _ => rfl) R _ _ (by omega)).mp e').1
  · intro hb
    have hp := R.pos
    have := (ring_same (F := fun p => beh p t) (fun _ => rfl) R (c + 1) 1 (by omega)).mpr ⟨hb, by rw [Nat.add_sub_cancel]; exact Nat.dvd_refl _⟩
    exact ⟨c, hp, by rw [← this, pw_one]⟩
def In (t e : List Nat) : Prop := Again t ∧ ∃ k, 1 ≤ k ∧ pw t k = e
section
open Classical
noncomputable def gp (us : List (List Nat)) (e : List Nat) (i : Nat) : List Nat := (List.range i).filter fun k => decide (In (us.getD k []) e)
theorem gp_succ {us : List (List Nat)} {e u : List Nat} {i : Nat} (h : us[i]? = some u) : gp us e (i + 1) = gp us e i ++ (if In u e then [i] else []) := by
  unfold gp
  rw [List.range_succ, List.filter_append]
  congr 1
  by_cases z : In u e
  · rw [if_pos z]
    simp [List.filter_cons, h, z]
  · rw [if_neg z]
    simp [List.filter_cons, h, z]
theorem gp_le {us : List (List Nat)} {e : List Nat} (i : Nat) : (gp us e i).length ≤ i := by
  unfold gp
  exact Nat.le_trans (List.length_filter_le _ _) (by simp)
theorem mem_gp {us : List (List Nat)} {e : List Nat} {i k : Nat} : k ∈ gp us e i ↔ k < i ∧ In (us.getD k []) e := by
  unfold gp
  rw [List.mem_filter, List.mem_range, decide_eq_true_iff]
end
theorem in_uniq {n : Nat} {t e f : List Nat} (h : Tn n t) (ie : Idem e) (if' : Idem f) (he : In t e) (hf : In t f) : e = f := by
  obtain ⟨_, k, hk, rfl⟩ := he
  obtain ⟨_, j, hj, rfl⟩ := hf
  exact idem_uniq h hk hj ie if'
def Unit (n : Nat) (e t : List Nat) : Prop := Tn n t ∧ beh t e = t ∧ beh e t = t ∧ ∃ s, Tn n s ∧ beh s e = s ∧ beh e s = s ∧ beh t s = e ∧ beh s t = e
theorem in_unit {n : Nat} {t e : List Nat} (h : Tn n t) (ie : Idem e) (i : In t e) : Unit n e t := by
  obtain ⟨⟨c, hc, ec⟩, k, hk, rfl⟩ := i
  -- t is among its own powers arbitrarily late
  have far : ∀ m, pw t (m * c + 1) = t := fun m => by
    induction m with
    | zero => rw [Nat.zero_mul, pw_one]
    | succ m ih =>
      rw [show (m + 1) * c + 1 = (m * c + 1) + c by rw [Nat.succ_mul]; omega, ← pw_add h, ih]
      have z := pw_add h 1 c
      rw [pw_one] at z
      rw [z, Nat.add_comm, ec]
  have te : beh t (pw t k) = t := by
    have z : k * c + 1 = (k * c + 1) := rfl
    have e1 : pw t (k * c + 1) = t := far k
    obtain ⟨a, rfl⟩ : ∃ a, c = a + 1 := ⟨c - 1, by omega⟩
    have e2 : pw t (k * (a + 1)) = pw t k := idem_mul h ie a
    have e3 : beh t (pw t (k * (a + 1))) = pw t (1 + k * (a + 1)) := by
      have z := pw_add h 1 (k * (a + 1))
      rw [pw_one] at z
      exact z
    rw [e2, Nat.add_comm, e1] at e3
    exact e3
  have et : beh (pw t k) t = t := by
    have z1 := pw_add h 1 k
    have z2 := pw_add h k 1
    rw [pw_one] at z1 z2
    rw [z2, Nat.add_comm, ← z1]
    exact te
  refine ⟨h, te, et, pw t (k + (k - 1)), pw_tn h _, ?_, ?_, ?_, ?_⟩
  · rw [pw_add h, show k + (k - 1) + k = k + k + (k - 1) by omega, ← pw_add h, ← pw_add h, show beh (pw t k) (pw t k) = pw t k from ie, pw_add h]
  · rw [pw_add h, show k + (k + (k - 1)) = k + k + (k - 1) by omega, ← pw_add h, ← pw_add h, show beh (pw t k) (pw t k) = pw t k from ie, pw_add h]
  · have z1 := pw_add h 1 (k + (k - 1))
    rw [pw_one] at z1
    rw [z1, show 1 + (k + (k - 1)) = k + k by omega, ← pw_add h]
    exact ie
  · have z1 := pw_add h (k + (k - 1)) 1
    rw [pw_one] at z1
    rw [z1, show (k + (k - 1)) + 1 = k + k by omega, ← pw_add h]
    exact ie
theorem unit_pw {n : Nat} {e t : List Nat} (ie : Idem e) (he : Tn n e) (u : Unit n e t) : ∀ k, 1 ≤ k → Unit n e (pw t k)
  | 0, h => absurd h (by omega)
  | k + 1, _ => by
    obtain ⟨h, te, et, s, hs, se, es, ts, st⟩ := id u
    by_cases hk : k = 0
    · subst hk
      rw [pw_one]
      exact u
    · obtain ⟨h', te', et', s', hs', se', es', ts', st'⟩ := unit_pw ie he u k (by omega)
      show Unit n e (beh (pw t k) t)
      refine ⟨beh_tn h' h, by rw [assoc h' h, te], by rw [← assoc he h', et'], beh s s', beh_tn hs hs', by rw [assoc hs hs', se'], by rw [← assoc he hs, es], ?_, ?_⟩
      · rw [assoc h' h, ← assoc h hs, ts, es', ts']
      · rw [assoc hs hs', ← assoc hs' h', st', et, st]
theorem unit_idem {n : Nat} {e f : List Nat} (he : Tn n e) (u : Unit n e f) (i : Idem f) : f = e := by
  obtain ⟨h, fe, ef, s, hs, se, es, fs, sf⟩ := u
  have z : beh (beh f f) s = e := by rw [show beh f f = f from i, fs]
  rw [assoc h h, fs, fe] at z
  exact z
theorem unit_in {n : Nat} {e t : List Nat} (ie : Idem e) (he : Tn n e) (u : Unit n e t) : In t e := by
  obtain ⟨b, c, R, _⟩ := ring_of u.1.turn
  have i := idem_ex u.1 R
  have hp := R.pos
  have hm : c * (b + 1) ≥ b + 1 := Nat.le_mul_of_pos_left _ hp
  have ek := unit_idem he (unit_pw ie he u (c * (b + 1)) (by omega)) i
  refine ⟨⟨c * (b + 1), by omega, ?_⟩, c * (b + 1), by omega, ek⟩
  show beh (pw t (c * (b + 1))) t = t
  rw [ek, u.2.2.1]
theorem unit_beh {n : Nat} {e t v : List Nat} (he : Tn n e) (u : Unit n e t) (u' : Unit n e v) : Unit n e (beh t v) := by
  obtain ⟨h, te, et, s, hs, se, es, ts, st⟩ := u
  obtain ⟨h', te', et', s', hs', se', es', ts', st'⟩ := u'
  refine ⟨beh_tn h h', by rw [assoc h h', te'], by rw [← assoc he h, et], beh s' s, beh_tn hs' hs, by rw [assoc hs' hs, se], by rw [← assoc he hs', es'], ?_, ?_⟩
  · rw [assoc h h', ← assoc h' hs', ts', es, ts]
  · rw [assoc hs' hs, ← assoc hs h, st, et', st']
theorem in_beh {n : Nat} {e t v : List Nat} (h : Tn n t) (h' : Tn n v) (he : Tn n e) (ie : Idem e) (i : In t e) (i' : In v e) : In (beh t v) e := unit_in ie he (unit_beh he (in_unit h ie i) (in_unit h' ie i'))
end Cyc
namespace PySem
theorem Runs.det {M : Model} {Γ : Ctx} {p : Pos} {t : Sem Fin} {fs : List Frame} {s : Shared} {e : End} {s' : Shared} (h1 : Runs M Γ p t fs s e s') : ∀ {e2 : End} {s2 : Shared}, Runs M Γ p t fs s e2 s2 → e = e2 ∧ s' = s2 := by
  induction h1 with
  | done => intro e2 s2 h2; cases h2; exact ⟨rfl, rfl⟩
  | raise => intro e2 s2 h2; cases h2; exact ⟨rfl, rfl⟩
  | again q h ih => intro e2 s2 h2; cases h2 with | again q2 h2 => exact ih h2
  | rule h ih => intro e2 s2 h2; cases h2 with | rule h2 => exact ih h2
  | «at» h ih => intro e2 s2 h2; cases h2 with | «at» h2 => exact ih h2
  | load e h ih => intro e2 s2 h2; cases h2 with | load e' h2 => rw [e] at e'; cases e'; exact ih h2
  | update e h ih => intro e2 s2 h2; cases h2 with | update e' h2 => exact ih h2
  | loadIfAlive h ih => intro e2 s2 h2; cases h2 with | loadIfAlive h2 => exact ih h2
  | point h ih => intro e2 s2 h2; cases h2 with | point h2 => exact ih h2
  | alloc h ih => intro e2 s2 h2; cases h2 with | alloc h2 => exact ih h2
  | fresh h ih => intro e2 s2 h2; cases h2 with | fresh h2 => exact ih h2
  | ask h ih => intro e2 s2 h2; cases h2 with | ask h2 => exact ih h2
  | choose n h ih => intro e2 s2 h2; cases h2 with | choose n2 h2 => exact ih h2
  | os h ih => intro e2 s2 h2; cases h2 with | os h2 => exact ih h2
  | handled h ih => intro e2 s2 h2; cases h2 with | handled h2 => exact ih h2
  | genState e h ih => intro e2 s2 h2; cases h2 with | genState e' h2 => rw [e] at e'; cases e'; exact ih h2
  | stack h ih => intro e2 s2 h2; cases h2 with | stack h2 => exact ih h2
  | thread h ih => intro e2 s2 h2; cases h2 with | thread h2 => exact ih h2
  | newGen h ih => intro e2 s2 h2; cases h2 with | newGen h2 => exact ih h2
  | call h k ih1 ih2 =>
    intro e2 s2 h2
    cases h2 with
    | call h' k' => obtain ⟨e1, e3⟩ := ih1 h'; cases e1; cases e3; exact ih2 k'
    | callSusp h' => obtain ⟨e1, _⟩ := ih1 h'; cases e1
  | callSusp h ih =>
    intro e2 s2 h2
    cases h2 with
    | call h' k' => obtain ⟨e1, _⟩ := ih h'; cases e1
    | callSusp h' => obtain ⟨e1, e3⟩ := ih h'; cases e1; cases e3; exact ⟨rfl, rfl⟩
  | yield => intro e2 s2 h2; cases h2; exact ⟨rfl, rfl⟩
  | resumeFresh g h q k ih1 ih2 =>
    intro e2 s2 h2
    cases h2 with
    | resumeFresh g' h' q' k' => rw [g] at g'; cases g'; obtain ⟨e1, e3⟩ := ih1 h'; cases e1; cases e3; exact ih2 k'
    | resumeSuspended g' h' q' k' => rw [g] at g'; cases g'
    | resumeJustStarted g' v' k' => exact absurd rfl v'
    | resumeRunning g' k' => rw [g] at g'; cases g'
    | resumeFinished g' k' => rw [g] at g'; cases g'
  | resumeSuspended g h q k ih1 ih2 =>
    intro e2 s2 h2
    cases h2 with
    | resumeFresh g' h' q' k' => rw [g] at g'; cases g'
    | resumeSuspended g' h' q' k' => rw [g] at g'; cases g'; obtain ⟨e1, e3⟩ := ih1 h'; cases e1; cases e3; exact ih2 k'
    | resumeJustStarted g' v' k' => rw [g] at g'; cases g'
    | resumeThrowFresh g' k' => rw [g] at g'; cases g'
    | resumeRunning g' k' => rw [g] at g'; cases g'
    | resumeFinished g' k' => rw [g] at g'; cases g'
  | resumeJustStarted g v k ih =>
    intro e2 s2 h2
    cases h2 with
    | resumeFresh g' h' q' k' => exact absurd rfl v
    | resumeSuspended g' h' q' k' => rw [g] at g'; cases g'
    | resumeJustStarted g' v' k' => exact ih k'
    | resumeRunning g' k' => rw [g] at g'; cases g'
    | resumeFinished g' k' => rw [g] at g'; cases g'
  | resumeThrowFresh g k ih =>
    intro e2 s2 h2
    cases h2 with
    | resumeSuspended g' h' q' k' => rw [g] at g'; cases g'
    | resumeThrowFresh g' k' => exact ih k'
    | resumeRunning g' k' => rw [g] at g'; cases g'
    | resumeFinished g' k' => rw [g] at g'; cases g'
  | resumeRunning g k ih =>
    intro e2 s2 h2
    cases h2 with
    | resumeFresh g' h' q' k' => rw [g] at g'; cases g'
    | resumeSuspended g' h' q' k' => rw [g] at g'; cases g'
    | resumeJustStarted g' v' k' => rw [g] at g'; cases g'
    | resumeThrowFresh g' k' => rw [g] at g'; cases g'
    | resumeRunning g' k' => exact ih k'
    | resumeFinished g' k' => rw [g] at g'; cases g'
  | resumeFinished g k ih =>
    intro e2 s2 h2
    cases h2 with
    | resumeFresh g' h' q' k' => rw [g] at g'; cases g'
    | resumeSuspended g' h' q' k' => rw [g] at g'; cases g'
    | resumeJustStarted g' v' k' => rw [g] at g'; cases g'
    | resumeThrowFresh g' k' => rw [g] at g'; cases g'
    | resumeRunning g' k' => rw [g] at g'; cases g'
    | resumeFinished g' k' => exact ih k'
  | segRet h k ih1 ih2 =>
    intro e2 s2 h2
    cases h2 with
    | segRet h' k' => obtain ⟨e1, e3⟩ := ih1 h'; cases e1; cases e3; exact ih2 k'
    | segSuspOut q h' => obtain ⟨e1, _⟩ := ih1 h'; cases e1
    | segSuspGen q h' q2 k' => obtain ⟨e1, _⟩ := ih1 h'; cases e1
  | segGen h k ih1 ih2 =>
    intro e2 s2 h2
    cases h2 with
    | segGen h' k' => obtain ⟨e1, e3⟩ := ih1 h'; cases e1; cases e3; exact ih2 k'
    | segSuspOut q h' => obtain ⟨e1, _⟩ := ih1 h'; cases e1
    | segSuspGen q h' q2 k' => obtain ⟨e1, _⟩ := ih1 h'; cases e1
  | segSuspOut q h ih =>
    intro e2 s2 h2
    cases h2 with
    | segRet h' k' => obtain ⟨e1, _⟩ := ih h'; cases e1
    | segGen h' k' => obtain ⟨e1, _⟩ := ih h'; cases e1
    | segSuspOut q' h' => obtain ⟨e1, e3⟩ := ih h'; cases e1; cases e3; exact ⟨rfl, rfl⟩
    | segSuspGen q' h' q2 k' => rw [q] at q'; cases q'
  | segSuspGen q h q2 k ih1 ih2 =>
    intro e2 s2 h2
    cases h2 with
    | segRet h' k' => obtain ⟨e1, _⟩ := ih1 h'; cases e1
    | segGen h' k' => obtain ⟨e1, _⟩ := ih1 h'; cases e1
    | segSuspOut q' h' => rw [q] at q'; cases q'
    | segSuspGen q' h' q3 k' => rw [q] at q'; cases q'; obtain ⟨e1, e3⟩ := ih1 h'; cases e1; cases e3; exact ih2 k'
theorem Wakes.det {M : Model} {Γ : Ctx} {p : Pos} {g : Nat} {r : Resume} {s : Shared} {res res2 : GenResult} {s' s2 : Shared} (h1 : Wakes M Γ p g r s res s') (h2 : Wakes M Γ p g r s res2 s2) : res = res2 ∧ s' = s2 := by
  have ex : ∀ {Γ' : Ctx} {p' : Pos} {tr : Sem Fin} {fs : List Frame} {t0 : Shared}, (∃ e₁ s₁, Runs M Γ' p' tr fs t0 e₁ s₁ ∧ e₁.quiet = true ∧ res = e₁.result ∧ s' = s₁.setGen g e₁.genState) → (∃ e₁ s₁, Runs M Γ' p' tr fs t0 e₁ s₁ ∧ e₁.quiet = true ∧ res2 = e₁.result ∧ s2 = s₁.setGen g e₁.genState) → res = res2 ∧ s' = s2 := by
    intro _ _ _ _ _ ⟨e1, s1, a1, _, a3, a4⟩ ⟨f1, t1, b1, _, b3, b4⟩
    obtain ⟨z1, z2⟩ := a1.det b1
    subst z1 z2
    exact ⟨a3.trans b3.symm, a4.trans b4.symm⟩
  unfold Wakes at h1 h2
  cases e : s.gens[g]? with
  | none => rw [e] at h1; exact h1.elim
  | some st =>
    rw [e] at h1 h2
    cases st with
    | fresh c =>
      cases r with
      | send v => cases v <;> first | exact ex h1 h2 | exact ⟨h1.1.trans h2.1.symm, h1.2.trans h2.2.symm⟩
      | throw x => exact ⟨h1.1.trans h2.1.symm, h1.2.trans h2.2.symm⟩
    | suspended k0 l0 c0 p0 fs cl => exact ex h1 h2
    | running => exact ⟨h1.1.trans h2.1.symm, h1.2.trans h2.2.symm⟩
    | finished => exact ⟨h1.1.trans h2.1.symm, h1.2.trans h2.2.symm⟩
theorem Sem.wp_and {α : Type} {M : Model} {Γ : Ctx} {t : Sem α} {Q Q2 : α → Pos → Shared → Prop} {E E2 : Value → Pos → Shared → Prop} : ∀ {p : Pos} {s : Shared}, Sem.wp M Γ t Q E p s → Sem.wp M Γ t Q2 E2 p s → Sem.wp M Γ t (fun a p s => Q a p s ∧ Q2 a p s) (fun e p s => E e p s ∧ E2 e p s) p s := by
  induction t with
  | pure x => intro p s h1 h2; exact ⟨h1, h2⟩
  | raise v => intro p s h1 h2; exact ⟨h1, h2⟩
  | unsupported | finish | yield | fork | await | register => intro p s h1 _; exact h1
  | rule _ k ih | «at» _ k ih | alloc _ k ih | loadIfAlive _ k ih | point _ k ih | fresh k ih | ask k ih | os _ _ k ih | handled _ k ih | newGen _ k ih | stack k ih | thread k ih => intro p s h1 h2; exact ih _ h1 h2
  | load a _ k ih | genState a k ih =>
    intro p s ⟨o, h, h1⟩ ⟨o2, h', h2⟩
    rw [h] at h'
    cases h'
    exact ⟨o, h, ih _ h1 h2⟩
  | update a _ f k ih | choose _ _ k ih => intro p s ⟨h, h1⟩ ⟨_, h2⟩; exact ⟨h, ih _ h1 h2⟩
  | call c h g l k ih =>
    intro p s ⟨r, s', a, h1⟩ ⟨r2, s2, b, h2⟩
    obtain ⟨e1, e2⟩ := Runs.det a b
    cases e1
    cases e2
    exact ⟨r, s', a, ih _ h1 h2⟩
  | resume g r l k ih =>
    intro p s ⟨res, s', a, h1⟩ ⟨res2, s2, b, h2⟩
    obtain ⟨e1, e2⟩ := a.det b
    cases e1
    cases e2
    exact ⟨res, s', a, ih _ h1 h2⟩
theorem wpAny_and {α : Type} {M : Model} {A : Around} {t : Sem α} {Q Q2 : α → Shared → Prop} {E E2 : Value → Shared → Prop} {s : Shared} (h1 : wpAny M A t Q E s) (h2 : wpAny M A t Q2 E2 s) : wpAny M A t (fun a s => Q a s ∧ Q2 a s) (fun e s => E e s ∧ E2 e s) s :=
  fun Γ p i => Sem.wp_and (h1 Γ p i) (h2 Γ p i)
end PySem
namespace L2
open PySem PySem.Spec PyProof.Rows
def DictAt (e : Addr) (dc : Option Addr) (h : Heap) : Prop := ∃ o, h.get? e = some o ∧ o.dict = dc
section
variable {M : Model} {A : Around} {E : Value → Shared → Prop} {s : Shared}
theorem entry_D {base : Heap} {env : Env} {outer : List Env} {L e : Addr} {oe : Obj} {vs : Array Value} {head : Value} {hadNext : Bool} {Q : Unit → Shared → Prop} (hfr : A.frames = some (env :: outer)) (hl : s.heap.FunFrames base (env :: outer)) (hf : env.frame = some L)
    (he : s.heap.get? e = some oe) (hd : oe.data = .fields vs) (hsz : 1 < vs.size)
    (h : ∀ (h' : Heap) (o : Obj) (ws : Array Value) (T : Addr) (oT : Obj) (ts : Array Value), h'.get? e = some o → o.dict = oe.dict → o.data = .fields ws → ws[1]? = some (.ref T) → T ≠ e → h'.get? T = some oT → oT.data = .fields ts → 3 < ts.size → Q () { s with heap := h' }) :
    wpAny M A (do let a ← frameOf env; let pl ← entryPlaceOf L hadNext; let b ← EntryCells.newEntry head a .none (rawInt L) .none pl; setField (.ref e) 1 b) Q E s := by
  have hene : e ∉ (env :: outer).filterMap (·.frame) := fun hm => by
    obtain ⟨_, o, ho, hnf⟩ := hl.mem hm
    rw [he] at ho
    cases ho
    exact hnf vs hd
  refine wpAny_bind (wpAny_frameOf_fun hfr hl hf fun h1 hs => wpAny_bind (wpAny_entryPlaceOf fun pl hpl => ?_))
  unfold EntryCells.newEntry newFields
  refine wpAny_bind (wpAny_newObj_type ?_ (hpl.sizeOk5 _ _ _ _ _))
  have he1 : h1.get? e = some oe := (hs.2.1 e hene).trans he
  have ne : h1.objs.size ≠ e := Nat.ne_of_gt (Heap.lt_size he1)
  refine wpAny_setField (Heap.get?_push_of_some _ he1) hd hsz (h _ _ _ h1.objs.size _ _ (Heap.get?_update_self _ (Heap.get?_push_of_some _ he1) (Obj.isFreed_of_fields (Obj.data_mapFields hd _))) ?_ (Obj.data_mapFields hd _) (by simp [hsz]) ne ((Heap.get?_update_other _ _ (Ne.symm ne)).trans (Heap.get?_push_size h1 rfl)) rfl ?_)
  · obtain ⟨oc, od, odt, osl⟩ := oe
    cases hd
    rfl
  · simp only [List.size_toArray, List.length_append, List.length_cons, List.length_nil]
    omega
theorem flight_D {e T : Addr} {o oT : Obj} {ws ts : Array Value} {Q : Unit → Shared → Prop} (he : s.heap.get? e = some o) (hd : o.data = .fields ws) (h1 : ws[1]? = some (.ref T)) (ne : T ≠ e) (hT : s.heap.get? T = some oT) (hdT : oT.data = .fields ts) (h3 : 3 < ts.size)
    (h : ∀ h', DictAt e o.dict h' → Q () { s with heap := h' }) : wpAny M A (setFlight (.ref e) none) Q E s := by
  unfold setFlight
  refine wpAny_bind (wpAny_field he hd h1 ?_)
  rw [if_pos (show (Value.ref T != Value.none) = true from by simp)]
  exact wpAny_setField hT hdT h3 (h _ ⟨o, (Heap.get?_update_other _ _ ne).trans he, rfl⟩)
theorem note_D {base : Heap} {env : Env} {outer : List Env} {L e : Addr} {cls a0 : Value} {dc : Option Addr} {Q : Unit → Shared → Prop} (hfr : A.frames = some (env :: outer)) (hf : env.frame = some L) (fl : Heap.FlyingW base (env :: outer) e cls a0 s.heap) (hdc : DictAt e dc s.heap)
    (h : ∀ (h' : Heap) (o : Obj) (ws : Array Value) (T : Addr) (oT : Obj) (ts : Array Value), h'.get? e = some o → o.dict = dc → o.data = .fields ws → ws[1]? = some (.ref T) → T ≠ e → h'.get? T = some oT → oT.data = .fields ts → 3 < ts.size → Q () { s with heap := h' }) : wpAny M A (noteFrame (.ref e) env) Q E s := by
  obtain ⟨_, _, hl, oe, vs, T, oT, ts, he, _, hd, h1, _, hTe, hT, hdT, h3⟩ := fl
  obtain ⟨o', ho, hdc⟩ := hdc
  rw [he] at ho
  cases ho
  unfold noteFrame
  simp only [hf]
  refine wpAny_bind (wpAny_field he hd h1 ?_)
  rw [if_pos (show (Value.ref T != Value.none) = true from by simp)]
  refine wpAny_bind (wpAny_field hT hdT h3 ?_)
  rw [if_neg (show ¬ ((Value.none == rawInt L) = true) from by simp [rawInt])]
  refine wpAny_bind (wpAny_setField hT hdT (Array.getElem?_eq_some_iff.mp h3).1 ?_)
  have other : ∀ b, b ≠ T → (s.heap.update T (Obj.mapFields (·.setIfInBounds 3 Value.none))).get? b = s.heap.get? b := fun b hb => Heap.get?_update_other _ _ (Ne.symm hb)
  have nT : ∀ b o, s.heap.get? b = some o → (∀ vs, o.data ≠ .fields vs) → b ≠ T := fun b o hb hnf q => by
    rw [q, hT] at hb
    cases hb
    exact hnf ts hdT
  refine entry_D hfr (hl.of_keeps fun b o hb hnf => ⟨o, (other b (nT b o hb hnf)).trans hb, rfl⟩) hf ((other e (Ne.symm hTe)).trans he) hd (Array.getElem?_eq_some_iff.mp h1).1 fun h' o ws T' oT' ts' q1 q2 => h h' o ws T' oT' ts' q1 (q2.trans hdc)
theorem leave_firstD {base : Heap} {env : Env} {outer : List Env} {L e : Addr} {oe : Obj} {vs : Array Value} {a0 : Value} {Q : Unit → Shared → Prop} (hfr : A.frames = some (env :: outer)) (hl : s.heap.FunFrames base (env :: outer)) (hf : env.frame = some L)
    (he : s.heap.get? e = some oe) (hkb : base.StaysIn s.heap) (hen : base.get? e = none) (hd : oe.data = .fields vs) (h1 : vs[1]? = some .none) (h0 : vs[0]? = some a0)
    (h : ∀ h', Heap.LeftW base (env :: outer) e oe.cls a0 s.heap h' → DictAt e oe.dict h' → Q () { s with heap := h' }) : wpAny M A (leaving env (.ref e)) Q E s := by
  refine wpAny_mono (wpAny_and (wpAny_leaving_firstW (Q := fun _ s' => ∃ h', s' = { s with heap := h' } ∧ Heap.LeftW base (env :: outer) e oe.cls a0 s.heap h') (E := E) hfr hl hf he hkb hen hd h1 h0 fun h' q => ⟨h', rfl, q⟩) (Q2 := fun _ s' => DictAt e oe.dict s'.heap) (E2 := fun _ _ => True) ?_) (fun _ s' ⟨⟨h', e1, q⟩, d⟩ => by subst e1; exact h h' q d) fun _ _ z => z.1
  unfold leaving noteFrame
  simp only [hf]
  refine wpAny_bind (wpAny_bind (wpAny_field he hd h1 ?_))
  rw [if_neg (by decide)]
  exact entry_D hfr hl hf he hd (Array.getElem?_eq_some_iff.mp h1).1 fun h' o ws T oT ts q1 q2 q3 q4 q5 q6 q7 q8 => flight_D (s := { s with heap := h' }) q1 q3 q4 q5 q6 q7 q8 fun h'' d => q2 ▸ d
theorem leave_onD {base : Heap} {env : Env} {outer : List Env} {L e : Addr} {cls a0 : Value} {dc : Option Addr} {Q : Unit → Shared → Prop} (hfr : A.frames = some (env :: outer)) (hf : env.frame = some L) (fl : Heap.FlyingW base (env :: outer) e cls a0 s.heap) (hdc : DictAt e dc s.heap)
    (h : ∀ h', Heap.FlyingW base outer e cls a0 h' → s.heap.UpToSlots h' → DictAt e dc h' → Q () { s with heap := h' }) : wpAny M A (leaving env (.ref e)) Q E s := by
  refine wpAny_mono (wpAny_and (wpAny_leaves_onW (Q := fun _ s' => ∃ h', s' = { s with heap := h' } ∧ Heap.FlyingW base outer e cls a0 h' ∧ s.heap.UpToSlots h') (E := E) hfr hf fl fun h' q u => ⟨h', rfl, q, u⟩) (Q2 := fun _ s' => DictAt e dc s'.heap) (E2 := fun _ _ => True) ?_) (fun _ s' ⟨⟨h', e1, q, u⟩, d⟩ => by subst e1; exact h h' q u d) fun _ _ z => z.1
  unfold leaving
  exact wpAny_bind (note_D hfr hf fl hdc fun h' o ws T oT ts q1 q2 q3 q4 q5 q6 q7 q8 => flight_D (s := { s with heap := h' }) q1 q3 q4 q5 q6 q7 q8 fun h'' d => q2 ▸ d)
end
end L2
namespace L2
open PySem PySem.Spec PyProof.Rows
section
variable {P : Program} {w : World} {H H' : Hp} {h h' : Heap} {a : Addr} {o : HO}
theorem ObjOk.has (x : ObjOk P w H h a o) : ∃ ob, h.get? a = some ob := by
  induction o with
  | lst xs => obtain ⟨_, _, _, _, e⟩ := x; exact ⟨_, e⟩
  | tup xs => obtain ⟨_, _, _, ob, e, _⟩ := x; exact ⟨ob, e⟩
  | dK kvs => obtain ⟨_, _, _, _, ob, _, _, e, _⟩ := x; exact ⟨ob, e⟩
  | dT kvs => obtain ⟨_, _, _, _, ob, _, _, e, _⟩ := x; exact ⟨ob, e⟩
  | set S n => obtain ⟨ob, _, _, _, e, _⟩ := x; exact ⟨ob, e⟩
  | ins C dx fs => obtain ⟨_, _, _, e, _⟩ := x; exact ⟨_, e⟩
  | own y => exact x
  | xd fs => obtain ⟨_, ⟨ob, _, _, e, _⟩, _⟩ := x; exact ⟨ob, e⟩
  | rng lo hi => obtain ⟨_, _, _, e⟩ := x; exact ⟨_, e⟩
  | frz ob u _ => obtain ⟨e, _⟩ := x; exact ⟨_, e⟩
  | tbl ps => exact ⟨_, x⟩
  | met f y => exact ⟨_, x⟩
  | ext φ => exact x.2.1
theorem HOk.gone (x : HOk P w H h) (e : h.get? a = none) : H a = none := by
  cases q : H a with
  | none => rfl
  | some u =>
    obtain ⟨ob, z⟩ := (x a u q).has
    rw [e] at z
    cases z
end
structure Fl (h0 : Heap) (H : Hp) (h : Heap) (e : Addr) (cls : Value) (d : Option Addr) : Prop where
  ne : h0.get? e = none
  fe : H e = none
  ex : ∃ oe vs T oT ts a0, h.get? e = some oe ∧ oe.cls = cls ∧ oe.dict = d ∧ oe.data = .fields vs ∧ vs[0]? = some a0 ∧ vs[1]? = some (.ref T) ∧ h0.get? T = none ∧ H T = none ∧ T ≠ e ∧ h.get? T = some oT ∧ oT.data = .fields ts ∧ ts[3]? = some .none
def CX1 (P : Program) (w : World) : CXT := fun outer H s E v s' => ∃ e C d H', v = .ref e ∧ s'.os = s.os ∧ AllBare s'.gens ∧ Un (frs outer) [] H H' s.heap s'.heap ∧ HOk P w H' s'.heap ∧ Fl s.heap H' s'.heap e (.ref C) d ∧ E (.ref C) d H'
section
variable {X : Cx} {pins : List (Addr × Obj)} {σ : St} {H H' : Hp} {s : Shared}
theorem stk_sup (ok : X.Ok) : ∀ b ∈ frs X.outer, b ∈ frs X.stack := fun b hb => by
  rcases ok.stk with e | ⟨e, hf⟩
  · rw [e]; exact hb
  · rw [e]
    unfold frs
    rw [List.filterMap_cons, hf]
    exact List.mem_cons_of_mem _ hb
theorem leave_keep {g h'' : Heap} {S : List Addr} (I : Inv X pins σ H s) (hex : X.ex = []) (u : Un (frs X.stack) [] H H' s.heap g) (hok : HOk X.prog X.w H' g)
    (keep : ∀ b o, g.get? b = some o → b ∉ frs X.stack → b ∉ S → h''.get? b = some o) (slot : ∀ b o, g.get? b = some o → b ∈ frs X.stack → ∃ sl, h''.get? b = some { o with slots := sl })
    (hS : ∀ b ∈ S, s.heap.get? b = none ∧ H' b = none) : Un (frs X.outer) [] X.H₀ H' X.s₀.heap h'' ∧ HOk X.prog X.w H' h'' := by
  have hx : ∀ b : Addr, b ∉ X.ex := fun b z => by rw [hex] at z; cases z
  have nn : ∀ b : Addr, b ∉ ([] : List Addr) := fun b z => by cases z
  have frH : ∀ b ∈ frs X.stack, H' b = none := fun b hb => by
    obtain ⟨_, ob, ho, _⟩ := I.stack.mem hb
    exact u.free b ob ho (I.stkFree b hb) (nn b)
  have neL : ∀ b o, X.s₀.heap.get? b = some o → b ≠ X.env.locals := fun b o e => Nat.ne_of_lt (Nat.lt_of_lt_of_le (Heap.lt_size e) I.ok.above)
  have nst : ∀ b o, X.s₀.heap.get? b = some o → b ∉ frs X.outer → b ∉ frs X.stack := fun b o e n z => by
    rcases List.mem_cons.mp (I.stkSub b z) with q | q
    · exact neL b o e q
    · exact n q
  have nS : ∀ b o, s.heap.get? b = some o → b ∉ S := fun b o e z => by
    have := (hS b z).1
    rw [e] at this
    cases this
  refine ⟨⟨fun b o e n hb _ => ?_, fun b o e n hb _ => ?_, fun b o e n _ => ?_, fun b o e _ => ?_, fun b xs e => u.tups b xs (I.base.tups b xs e), fun b o xs e => u.frzs b o xs (I.base.frzs b o xs e), fun b ps e => ?_⟩, fun b o e => ?_⟩
  · have e1 := I.base.keep b o e n hb (hx b)
    have e2 := u.keep b o e1 (I.base.free b o e n (hx b)) (nst b o e hb) (nn b)
    exact keep b o e2 (nst b o e hb) (nS b o e1)
  · obtain ⟨sl, e1⟩ := I.base.slot b o e n hb (hx b)
    obtain ⟨sl2, e2⟩ := u.slot b _ e1 (I.base.free b o e n (hx b)) (stk_sup I.ok b hb) (nn b)
    obtain ⟨sl3, e3⟩ := slot b _ e2 (stk_sup I.ok b hb)
    exact ⟨sl3, e3⟩
  · obtain ⟨o', e1⟩ := I.base.there b o e (hx b)
    exact u.free b o' e1 (I.base.free b o e n (hx b)) (nn b)
  · obtain ⟨o', e1⟩ := I.base.there b o e (hx b)
    obtain ⟨o2, e2⟩ := u.there b o' e1 (nn b)
    by_cases hb : b ∈ frs X.stack
    · obtain ⟨sl, e3⟩ := slot b o2 e2 hb
      exact ⟨_, e3⟩
    · exact ⟨o2, keep b o2 e2 hb (nS b o' e1)⟩
  · obtain ⟨m1, e1⟩ := I.base.tbls b ps e
    obtain ⟨m2, e2⟩ := u.tbls b _ e1
    exact ⟨m1 ++ m2, by rw [e2, Array.append_assoc]⟩
  · have tr : ∀ c v, H' c = some v → c ∉ frs X.stack ∧ c ∉ S := fun c v q => ⟨fun z => (by rw [frH c z] at q; cases q), fun z => (by rw [(hS c z).2] at q; cases q)⟩
    refine (hok b o e).stay (fun c v hc q => ?_) (fun _ q => q) fun _ _ q => q
    rcases hc with z | z
    · rw [z] at q ⊢
      exact keep b v q (tr b o e).1 (tr b o e).2
    · exact keep c v q (tr c _ z).1 (tr c _ z).2
theorem frames_in : ∀ {l : List Env}, ∀ env ∈ l, ∀ b, env.frame = some b → b ∈ frs l := fun {l} env he b hb => List.mem_filterMap.mpr ⟨env, he, hb⟩
theorem flies {E : XK} {v : Value} {s' : Shared} (I : Inv X pins σ H s) (hx : CX1 X.prog X.w X.stack H s E v s') : ∃ e C d H' T a0, v = .ref e ∧ s'.os = s.os ∧ AllBare s'.gens ∧ Un (frs X.stack) [] H H' s.heap s'.heap ∧ HOk X.prog X.w H' s'.heap ∧ E (.ref C) d H' ∧ DictAt e d s'.heap ∧
    s.heap.get? e = none ∧ H' e = none ∧ s.heap.get? T = none ∧ H' T = none ∧ Heap.FlyingW (PySem.W.hideAll s'.heap (e :: T :: frs X.stack)) X.stack e (.ref C) a0 s'.heap := by
  obtain ⟨e, C, d, H', rfl, os, bare, u, hok, ⟨ne, fe, oe, ws, T, oT, ts, a0, he, hc, hdc, hd, h0, h1, nT, fT, hTe, hT', hdT, h3⟩, hE⟩ := hx
  refine ⟨e, C, d, H', T, a0, rfl, os, bare, u, hok, hE, ⟨oe, he, hdc⟩, ne, fe, nT, fT, fun b o q => PySem.W.of_hideAll _ q, PySem.W.hideAll_none _ (.head _), ?_, oe, ws, T, oT, ts, he, ⟨hc, h0⟩, hd, h1, PySem.W.hideAll_none _ (.tail _ (.head _)), hTe, hT', hdT, h3⟩
  refine PySem.W.funFrames_hide (base := X.base) ?_ fun env henv b hb => .tail _ (.tail _ (frames_in env henv b hb))
  have all : ∀ (l : List Env), (∀ b ∈ frs l, b ∈ frs X.stack) → s.heap.FunFrames X.base l → s'.heap.FunFrames X.base l := by
    intro l
    induction l with
    | nil => intro _ _; trivial
    | cons env r ih =>
      intro hs hl
      obtain ⟨hk, ⟨L, o, hf, hn, ho, hd⟩, hr⟩ := hl
      have hL : L ∈ frs X.stack := hs L (by unfold frs; rw [List.filterMap_cons, hf]; exact List.mem_cons_self)
      obtain ⟨sl, e1⟩ := u.slot L o ho (I.stkFree L hL) hL (by intro z; cases z)
      exact ⟨hk, ⟨L, _, hf, hn, e1, hd⟩, ih (fun b hb => hs b (by unfold frs; rw [List.filterMap_cons, hf]; exact List.mem_cons_of_mem _ hb)) hr⟩
  exact all X.stack (fun _ hb => hb) I.stack
end
end L2
namespace L2
open PySem PySem.Spec PyProof.Rows
section
variable {X : Cx} {pins : List (Addr × Obj)} {σ : St} {H H' : Hp} {s : Shared}
theorem leave_on {M : Model} {E1 : Value → Shared → Prop} {E : XK} {v : Value} {s' : Shared} (I : Inv X pins σ H s) (hex : X.ex = []) (hst : X.stack = X.env :: X.outer) (hf : X.env.frame = some X.env.locals) (hx : CX1 X.prog X.w X.stack H s E v s') :
    wpAny M X.A (leaving X.env v) (fun _ s'' => CX1 X.prog X.w X.outer X.H₀ X.s₀ E v s'') E1 s' := by
  obtain ⟨e, C, d, H', T, a0, rfl, os, bare, u, hok, hE, dc, ne, fe, nT, fT, fl⟩ := flies I hx
  have hfr : ∀ b ∈ frs X.stack, ∃ o, s'.heap.get? b = some o ∧ ∀ ws, o.data ≠ .fields ws := fun b hb => (fl.2.2.1.mem hb).2
  have fl' := fl
  rw [hst] at fl'
  refine leave_onD (by rw [I.ok.frames, hst]) hf fl' dc fun h'' fl2 up dc2 => ?_
  obtain ⟨st, _, _, oe, ws, T2, oT, ts, he, ⟨hc, h0⟩, hd, h1, hT, hTe, hT', hdT, h3⟩ := fl2
  obtain ⟨oe', heo, hdc⟩ := dc2
  rw [he] at heo
  cases heo
  rw [← hst] at st hT
  have slot : ∀ b o, s'.heap.get? b = some o → b ∈ frs X.stack → ∃ sl, h''.get? b = some { o with slots := sl } := fun b o q hb => by
    obtain ⟨o', e1, e2⟩ := hfr b hb
    rw [q] at e1
    cases e1
    exact up b o q e2
  obtain ⟨u2, hk⟩ := leave_keep (S := [e, T]) (g := s'.heap) I hex u hok (fun b o q hb hS => st b o (PySem.W.hideAll_get _ q fun z => by
      rcases List.mem_cons.mp z with y | z
      · exact hS (by rw [y]; exact .head _)
      · rcases List.mem_cons.mp z with y | z
        · exact hS (by rw [y]; exact .tail _ (.head _))
        · exact hb z)) slot fun b z => by
    rcases List.mem_cons.mp z with y | z
    · rw [y]; exact ⟨ne, fe⟩
    · rw [List.mem_singleton.mp z]; exact ⟨nT, fT⟩
  have n0 : ∀ b, s.heap.get? b = none → X.s₀.heap.get? b = none := fun b q => by
    cases z : X.s₀.heap.get? b with
    | none => rfl
    | some o =>
      obtain ⟨o', e1⟩ := I.base.there b o z (by rw [hex]; intro y; cases y)
      rw [q] at e1
      cases e1
  have nT2 : s.heap.get? T2 = none ∧ H' T2 = none := by
    by_cases z : T2 = T
    · rw [z]; exact ⟨nT, fT⟩
    · have g2 : s'.heap.get? T2 = none := by
        cases q : s'.heap.get? T2 with
        | none => rfl
        | some o =>
          by_cases y : T2 ∈ frs X.stack
          · obtain ⟨o', e1, e2⟩ := hfr T2 y
            obtain ⟨sl, e3⟩ := slot T2 o' e1 y
            rw [hT'] at e3
            cases e3
            exact absurd hdT (e2 ts)
          · rw [PySem.W.hideAll_get _ q (fun r => by
              rcases List.mem_cons.mp r with p | r
              · exact hTe p
              · rcases List.mem_cons.mp r with p | r
                · exact z p
                · exact y r)] at hT
            cases hT
      refine ⟨?_, hok.gone g2⟩
      cases q : s.heap.get? T2 with
      | none => rfl
      | some o =>
        obtain ⟨o', e1⟩ := u.there T2 o q (by intro y; cases y)
        rw [g2] at e1
        cases e1
  exact ⟨e, C, d, H', rfl, os.trans I.os, bare, u2, hk, ⟨n0 e ne, fe, oe, ws, T2, oT, ts, a0, he, hc, hdc, hd, h0, h1, n0 T2 nT2.1, nT2.2, hTe, hT', hdT, h3⟩, hE⟩
end
def Throws (X : Cx) (E : XK) : Prop := ∀ (pins : List (Addr × Obj)) (σ : St) (H : Hp) (s : Shared) (e C : Addr) (vs : List Value) (h' : Heap), Inv X pins σ H s → Heap.MadeExcOf s.heap h' e (.ref C) vs → E (.ref C) none H → X.xe (.ref e) { s with heap := h' }
section
variable {P : Program} {w : World} {K : PySem.W.Frag} {mg : Str → Option Value} {base : Heap}
theorem passes_def {N : List Str} {qual : Str} {scope : Scope} {f : Addr} {cd : Value} {A : Around} {outer : List Env} {s : Shared} {H : Hp} {E : XK} : Passes (CX1 P w) (cxOf (CX1 P w) P w K mg base N qual scope f cd A outer s H E) E :=
  fun _ _ _ _ _ _ I hx => leave_on I rfl rfl rfl hx
theorem Fun.okX {x qual : Str} {st : Stmt} {f : Addr} {fd : FuncData} {N ps : List Str} {k : Nat} {sp : Sp} (F : Fun K x qual st f fd) (S : FnScope N ps (defScope st)) (len : ∀ vs H Q E, sp vs H Q E → vs.length = ps.length)
    (body : ∀ (cdv : Value) (A : Around) (outer : List Env) (s : Shared) (H : Hp) (vs : List V) (Q : VK) (E : XK), Room k (A.deeper (envOfC qual (defScope st) s.heap.objs.size f cdv)) → sp vs H Q E →
      ∃ t, PSs (cxOf (CX1 P w) P w K mg base N qual (defScope st) f cdv A outer s H E) (defBody st) t ∧ t { nx := fun _ H' => Q .non H', rt := Q } (start N vs) H) : FnOk P w K mg base (CX1 P w) (k + 1) f fd ps sp := by
  obtain ⟨oc, od, kV, doc, pm, an, cdv, ct, osl, rfl, lk, hcd⟩ := F.ex
  exact fn_of lk hcd S len fun A outer s H vs Q E hr hsp => body cdv A outer s H vs Q E hr hsp
end
abbrev veMro : List Value := [.type "ValueError", .type "Exception", .type "BaseException", .type "object"]
def ErrC (K : PySem.W.Frag) (C : Addr) : Prop := PySem.W.excIn K C veMro "ValueError.__new__" = true
theorem ErrC.obj {K : PySem.W.Frag} {h : Heap} {C : Addr} (X : K.In h) (q : ErrC K C) : ∃ bm N nm qn bs hdct sn sub ab col dd k0 k1 k2 k3 k5 mN,
    h.get? C = some (excClassObj nm qn C N bs bm hdct sn sub ab col dd k0 k1 k2 k3 k5 "ValueError.__new__") ∧ h.Ns N mN ∧ mN "__init__" = none ∧ OwnTail h veMro bm ∧ K.lookup C = some (excClassObj nm qn C N bs bm hdct sn sub ab col dd k0 k1 k2 k3 k5 "ValueError.__new__") := by
  unfold ErrC PySem.W.excIn at q
  split at q
  · rename_i dd cd sl lk
    split at q
    · rename_i C' bm k0 k1 k2 k3 n k5 hm hs
      simp only [Bool.and_eq_true, beq_iff_eq, Bool.not_eq_true'] at q
      obtain ⟨⟨⟨⟨⟨rfl, rfl⟩, nd⟩, tl⟩, ok⟩, ni⟩ := q
      obtain ⟨nm, bs, mro, ns, qn, hd, sn, sub, ab, col, del⟩ := cd
      dsimp only at hm nd ok ni
      subst hm nd
      have es : sl = #[k0, k1, k2, k3, some (.builtin "ValueError.__new__"), k5] := by
        obtain ⟨l⟩ := sl
        simp only at hs
        rw [hs]
      subst es
      exact ⟨bm, ns, nm, qn, bs, hd, sn, sub, ab, col, dd, k0, k1, k2, k3, k5, h.nsMap ns, X _ _ lk, .of_isNs (PySem.W.isNs_of_in X ok), PySem.W.nsMap_none_of_in X ok ni, PySem.W.tail_of_in X tl, lk⟩
    · cases q
  · cases q
def tRaise (C : Addr) (E : XK) (t : TA) : TS := fun _ σ H => t σ H fun vs H1 => vs.length ≤ sizeLine ∧ E (.ref C) none H1
end L2
namespace L2
open PySem PySem.Spec PyProof.Rows
section
variable {X : Cx} {pins : List (Addr × Obj)} {σ : St} {H H' : Hp} {s : Shared}
abbrev Cx.caught (X : Cx) (e : Addr) : Cx := { X with A := X.A.mark (some (.ref e)), calm := false }
theorem Inv.caught (I : Inv X pins σ H s) (e : Addr) : Inv (X.caught e) pins σ H s :=
  ⟨⟨I.ok.mod, I.ok.kind, I.ok.glob, I.ok.blt, I.ok.above, I.ok.inj, I.ok.has, I.ok.cab, (fun z => by cases z), I.ok.frames, I.ok.stk, I.ok.exf, I.ok.bs, I.ok.bsz, I.ok.noex, I.ok.exfs, I.ok.funs, I.ok.frf⟩,
    I.os, I.bare, I.base, I.loc, I.cell, I.free, I.freeC, I.pin, I.hok, I.len⟩
theorem Inv.uncaught {e : Addr} (ok : X.Ok) (I : Inv (X.caught e) pins σ H s) : Inv X pins σ H s := ⟨ok, I.os, I.bare, I.base, I.loc, I.cell, I.free, I.freeC, I.pin, I.hok, I.len⟩
def PEx (X : Cx) (e : Expr) (t : XK → TE) : Prop := ∀ (pins : List (Addr × Obj)) (s : Shared) (σ : St) (H : Hp) (Q : VK) (E : XK) (Ex : Value → Shared → Prop), Inv X pins σ H s → t E σ H Q →
  (∀ H1 s1 v s', Inv X pins σ H1 s1 → CX1 X.prog X.w X.stack H1 s1 E v s' → Ex v s') → wpAny (model X.prog X.w) X.A (eval e X.env) (EP X pins σ Q) Ex s
def PSx (X : Cx) (b : List Stmt) (t : XK → TS) : Prop := ∀ (pins : List (Addr × Obj)) (s : Shared) (σ : St) (H : Hp) (D : Ends) (E : XK) (Ex : Value → Shared → Prop), Inv X pins σ H s → t E D σ H →
  (∀ H1 s1 v s', Inv X pins σ H1 s1 → CX1 X.prog X.w X.stack H1 s1 E v s' → Ex v s') → wpAny (model X.prog X.w) X.A (execs b X.env) (SP X pins D) Ex s
theorem psx_expr {e : Expr} {te : XK → TE} {pos : Pos} (he : PEx X e te) (hs : swapsWith e none pos.line X.env = pure false := by rfl) : PSx X [.Expr e pos] (fun E => tDrop (te E)) := by
  intro pins s σ H D E Ex I h hx
  refine wpAny_execs_cons (wpAny_Expr_any (thn (he pins s σ H _ E Ex I h hx) fun v s1 ⟨x, H1, I1, r1, q1⟩ => ?_) I.quiet hs)
  exact wpAny_execs_nil ⟨σ, H1, I1, q1⟩
theorem stay_keep {g h'' : Heap} {S : List Addr} (I : Inv X pins σ H s) (u : Un (frs X.stack) [] H H' s.heap g) (hok : HOk X.prog X.w H' g)
    (keep : ∀ b o, g.get? b = some o → b ∉ frs X.stack → b ∉ S → h''.get? b = some o) (slot : ∀ b o, g.get? b = some o → b ∈ frs X.stack → ∃ sl, h''.get? b = some { o with slots := sl })
    (hS : ∀ b ∈ S, s.heap.get? b = none ∧ H' b = none) : Un (frs X.stack) [] H H' s.heap h'' ∧ HOk X.prog X.w H' h'' := by
  have nn : ∀ b : Addr, b ∉ ([] : List Addr) := fun b z => by cases z
  have frH : ∀ b ∈ frs X.stack, H' b = none := fun b hb => by
    obtain ⟨_, ob, ho, _⟩ := I.stack.mem hb
    exact u.free b ob ho (I.stkFree b hb) (nn b)
  have nS : ∀ b o, s.heap.get? b = some o → b ∉ S := fun b o e z => by
    have := (hS b z).1
    rw [e] at this
    cases this
  refine ⟨⟨fun b o e n hb _ => keep b o (u.keep b o e n hb (nn b)) hb (nS b o e), fun b o e n hb _ => ?_, u.free, fun b o e _ => ?_, u.tups, u.frzs, u.tbls⟩, fun b o e => ?_⟩
  · obtain ⟨sl, e1⟩ := u.slot b o e n hb (nn b)
    obtain ⟨sl2, e2⟩ := slot b _ e1 hb
    exact ⟨sl2, e2⟩
  · obtain ⟨o', e1⟩ := u.there b o e (nn b)
    by_cases hb : b ∈ frs X.stack
    · obtain ⟨sl, e3⟩ := slot b o' e1 hb
      exact ⟨_, e3⟩
    · exact ⟨o', keep b o' e1 hb (nS b o e)⟩
  · have tr : ∀ c v, H' c = some v → c ∉ frs X.stack ∧ c ∉ S := fun c v q => ⟨fun z => (by rw [frH c z] at q; cases q), fun z => (by rw [(hS c z).2] at q; cases q)⟩
    refine (hok b o e).stay (fun c v hc q => ?_) (fun _ q => q) fun _ _ q => q
    rcases hc with z | z
    · rw [z] at q ⊢
      exact keep b v q (tr b o e).1 (tr b o e).2
    · exact keep c v q (tr c _ z).1 (tr c _ z).2
def ExcAt (e C : Addr) (d : Option Addr) : Heap → Prop := fun h => ∃ o, h.get? e = some o ∧ o.cls = .ref C ∧ o.dict = d ∧ ∃ ws, o.data = .fields ws
end
def SubC (K : PySem.W.Frag) (C D : Addr) : Prop := ∃ c dd cd sl, K.lookup C = some ⟨c, dd, .cls cd, sl⟩ ∧ cd.mro.contains (.ref D) = true
end L2
namespace L2
open PySem PySem.Spec PyProof.Rows
section
variable {X : Cx}
def gone (i : Nat) (D : Ends) : Ends := { nx := fun σ' H' => D.nx (σ'.set i none) H', rt := D.rt, bk := fun σ' H' => D.bk (σ'.set i none) H', ct := fun σ' H' => D.ct (σ'.set i none) H' }
def tTry (i : Nat) (K : PySem.W.Frag) (D' : Addr) (tb : XK → TS) (ts : TS) : TS := fun D σ H => ∃ E : XK, tb E D σ H ∧ ∀ C d H1, E (.ref C) d H1 → ErrC K C ∧ SubC K C D' ∧ ∀ e, H1 e = none →
  ts (gone i D) (σ.set i (some (.ref e))) (upd H1 e (.ext (ExcAt e C d)))
end
end L2
namespace L2
open PySem PySem.Spec PyProof.Rows
structure ErrA (K : PySem.W.Frag) (C : Addr) : Prop where
  err : ErrC K C
  ga : PySem.W.findIn K (.ref C) "__getattribute__" = some (some (.builtin "BaseException.__getattribute__"))
  gt : PySem.W.findIn K (.ref C) "__getattr__" = some none
  cl : PySem.W.findIn K (.ref C) "__class__" = some (some (.builtin "object.__class__"))
section
variable {P : Program} {w : World} {A : Around} {E : Value → Shared → Prop} {h : Heap} {g : Array GenState} {d : Drawn} {t : Nat} {os : OsState} {e C : Addr} {o : Obj} {K : PySem.W.Frag}
theorem ErrC.sub (X : K.In h) (q : ErrC K C) {B : String} (hB : veMro.contains (.type B) = true) : ∃ bm N nm qn bs hdct sn sub ab col dd k0 k1 k2 k3 k5,
    h.get? C = some (excClassObj nm qn C N bs bm hdct sn sub ab col dd k0 k1 k2 k3 k5 "ValueError.__new__") ∧ (Value.ref C :: bm).contains (.type B) = true := by
  obtain ⟨bm, N, nm, qn, bs, hdct, sn, sub, ab, col, dd, k0, k1, k2, k3, k5, mN, hC, _, _, T, _⟩ := q.obj X
  exact ⟨bm, N, nm, qn, bs, hdct, sn, sub, ab, col, dd, k0, k1, k2, k3, k5, hC, by rw [List.contains_cons, T.hasType hB, Bool.or_true]⟩
theorem find_wp {M : Model} {tv : Value} {nm : Str} {r : Option Value} {Q : Option Value → Shared → Prop} (X : K.In h) (e : PySem.W.findIn K tv nm = some r) (hq : Q r ⟨h, g, d, t, os⟩) : wpAny M A (typeLookup tv nm) Q E ⟨h, g, d, t, os⟩ :=
  PySem.W.looks_findIn X e _ _ _ _ (fun _ _ z => z) hq
end
def rIsiE (K : PySem.W.Frag) (c : V → Value → Prop) : List V → Hp → VK → Prop := fun xs H Q => ∃ e C d cv u b, xs = [.ref e, cv] ∧ c cv u ∧ H e = some (.ext (ExcAt e C d)) ∧ ErrA K C ∧ PySem.W.kitOne K (.ref C) u = some b ∧ Q (.bl b) H
end L2
namespace L2
open PySem PySem.Spec PyProof.Rows
def MkeIn (K : PySem.W.Frag) (C D : Addr) : Prop := ErrC K D ∧ ∃ N nm qn bs sn sub ab col dd k0 k1 k2 k3 k5, K.lookup C = some (excClassObj nm qn C N bs (.ref D :: veMro) true sn sub ab col dd k0 k1 k2 k3 k5 "ValueError.__new__")
structure MkE (K : PySem.W.Frag) (C D f : Addr) : Prop where
  cls : MkeIn K C D
  init : PySem.W.findIn K (.ref C) "__init__" = some (some (.ref f))
  fn : PySem.W.isFn K (.ref f) = true
  kp : PySem.W.keepIn K (.ref C) = true
theorem mke_obj {K : PySem.W.Frag} {h : Heap} {C D : Addr} (X : K.In h) (q : MkeIn K C D) : ∃ N nm qn bs sn sub ab col dd k0 k1 k2 k3 k5,
    h.get? C = some (excClassObj nm qn C N bs (.ref D :: veMro) true sn sub ab col dd k0 k1 k2 k3 k5 "ValueError.__new__") ∧ OwnTail h veMro (.ref D :: veMro) ∧ K.lookup C = some (excClassObj nm qn C N bs (.ref D :: veMro) true sn sub ab col dd k0 k1 k2 k3 k5 "ValueError.__new__") := by
  obtain ⟨up, N, nm, qn, bs, sn, sub, ab, col, dd, k0, k1, k2, k3, k5, lk⟩ := q
  obtain ⟨_, _, _, _, _, _, _, _, _, _, _, _, _, _, _, _, _, hD, hN, hni, _, _⟩ := up.obj X
  exact ⟨N, nm, qn, bs, sn, sub, ab, col, dd, k0, k1, k2, k3, k5, X _ _ lk, .own hD hN hni .base, lk⟩
section
variable {P : Program} {w : World} {A : Around} {E : Value → Shared → Prop} {h : Heap} {g : Array GenState} {d : Drawn} {t : Nat} {os : OsState} {C D f : Addr} {K : PySem.W.Frag}
theorem mke_type {us : List Value} {Q : Fin → Shared → Prop} (X : K.In h) (m : MkE K C D f) (hl : us.length ≤ sizeLine)
    (hq : ∀ h' e, Heap.MadeExcOf h h' e (.ref C) us → wpAny (model P w) A (call (.ref f) (.ref e :: us)) (fun r s' => r = .none ∧ Q (.done (.ret (.ref e))) s') E ⟨h', g, d, t, os⟩) :
    wpAny (model P w) A (Builtin.«type.__call__» ⟨.ref C :: us, []⟩) Q E ⟨h, g, d, t, os⟩ := by
  obtain ⟨N, nm, qn, bs, sn, sub, ab, col, dd, k0, k1, k2, k3, k5, hC, T, _⟩ := mke_obj X m.cls
  have hB : veMro.contains (.type "ValueError") = true := by rfl
  have Fn := F.excBase_ValueError
  repeat (first | with_reducible refine wpAny_loadPart_at hC ?_ | with_reducible refine wpAny_madeBy_exc hC ?_ | wp_step)
  refine codeAny_call_builtin_code (Code.quiet_builtin _ Fn.quiet) (wpAny_check_new_subU Fn hB T hC ?_)
  refine codeAny_exc_new_subU Fn hB Fn T hC ?_ hl
  show wpAny _ _ _ _ _ _
  have kp : ∀ b o, h.get? b = some o → ((h.push { cls := .type "tuple", data := .seq us.toArray }).push { cls := .ref C, data := .fields #[.ref h.objs.size, .none, .none, .none, .bool false, .none] }).get? b = some o := fun b o z => Heap.get?_push_of_some _ (Heap.get?_push_of_some _ z)
  have hC1 := kp _ _ hC
  have hget : ((h.push { cls := .type "tuple", data := .seq us.toArray }).push { cls := .ref C, data := .fields #[.ref h.objs.size, .none, .none, .none, .bool false, .none] }).get? (h.objs.size + 1) = some
      { cls := .ref C, data := .fields #[.ref h.objs.size, .none, .none, .none, .bool false, .none] } := by heap_get
  have hcC : (Value.ref C :: .ref D :: veMro).contains (.ref C) = true := by simp
  unfold isInstance
  repeat (first | with_reducible refine wpAny_loadPart_at hget ?_ | (with_reducible refine wpAny_isSubtype_exc hC1 ?_; rw [hcC]) | wp_step)
  show wpAny _ _ (typeLookup (.ref C) _) _ _ _
  refine find_wp (X.keeps kp) m.init ?_
  refine wpAny_holding (wpAny_bind ?_)
  unfold bindSpecial
  have ty := beq_iff_eq.mp m.fn
  refine wpAny_bind ((PySem.W.looks_typeIn (X.keeps kp) ty).at ?_)
  rw [if_pos (by decide)]
  refine wpAny_pure (wpAny_bind (wpAny_mono (hq _ (h.objs.size + 1) ⟨kp, Heap.get?_none_of_le (Nat.le_succ _), h.objs.size, hget, Heap.get?_none_of_le (Nat.le_refl _), ?_⟩) (fun r s' hr => ?_) fun _ _ x => x))
  · exact Heap.get?_push_of_some _ (Heap.get?_push_at rfl rfl)
  · obtain ⟨rfl, hQ⟩ := hr
    wp_walk
    exact hQ
theorem mke_call {us : List Value} {Q : Value → Shared → Prop} (X : K.In h) (m : MkE K C D f) (hl : us.length ≤ sizeLine)
    (hq : ∀ h' e, Heap.MadeExcOf h h' e (.ref C) us → wpAny (model P w) (A.under (.builtin "type.__call__" ⟨.ref C :: us, []⟩)) (call (.ref f) (.ref e :: us)) (fun r s' => r = .none ∧ Q (.ref e) s') E ⟨h', g, d, t, os⟩) :
    wpAny (model P w) A (call (.ref C) us) Q E ⟨h, g, d, t, os⟩ := by
  obtain ⟨N, nm, qn, bs, sn, sub, ab, col, dd, k0, k1, k2, k3, k5, hC, T, _⟩ := mke_obj X m.cls
  have f1 := tc_lookup
  have f2 := tc_bind (.ref C)
  have hT : (⟨h, g, d, t, os⟩ : Shared).TypeIs (.ref C) "type" := ⟨_, hC, rfl⟩
  refine wpAny_call (codeAny_of_tree ?_)
  show wpAny _ _ (callAny (.ref C) _) _ _ _
  repeat (any_goals (first | assumption | with_reducible refine wpAny_loadPart_at hC ?_ | wp_step))
  refine ⟨rfl, ?_⟩
  refine codeAny_call_builtin_at (Code.quiet_builtin _ (by decide +kernel)) entry_typeCall (wpAny_check_type_call_sub hC (mke_type X m hl fun h' e hm => ?_))
  exact hq h' e hm
end
def ExcX (e C : Addr) (d : Option Addr) : Heap → Prop := fun h => ∃ t0, h.get? e = some { cls := .ref C, dict := d, data := .fields #[.ref t0, .none, .none, .none, .bool false, .none] }
theorem excX_ok {P : Program} {w : World} {H : Hp} {h : Heap} {e C : Addr} {d : Option Addr} (x : ExcX e C d h) : ObjOk P w H h e (.ext (ExcX e C d)) := by
  obtain ⟨t0, h1⟩ := x
  exact ⟨⟨t0, h1⟩, ⟨_, h1⟩, fun g1 g2 ⟨t1, q1⟩ k => ⟨t1, k _ q1⟩⟩
structure SetE (K : PySem.W.Frag) (C : Addr) (a : Str) : Prop where
  sa : PySem.W.findIn K (.ref C) "__setattr__" = some (some (.builtin "object.__setattr__"))
  na : PySem.W.findIn K (.ref C) a = some none
section
variable {P : Program} {w : World} {A : Around} {E : Value → Shared → Prop} {h : Heap} {g : Array GenState} {d : Drawn} {t : Nat} {os : OsState} {e C D : Addr} {K : PySem.W.Frag} {a : Str} {v : Value} {t0 : Addr}
theorem seta_check {M : Model} {nv : Value} {Q : Unit → Shared → Prop} (X : K.In h) (m : MkeIn K C D) (he : h.get? e = some { cls := .ref C, data := .fields #[.ref t0, .none, .none, .none, .bool false, .none] }) (hq : Q () ⟨h, g, d, t, os⟩) :
    wpAny M A (checkBuiltinCall "object.__setattr__" ⟨[.ref e, nv, v], []⟩) Q E ⟨h, g, d, t, os⟩ := by
  obtain ⟨N, nm, qn, bs, sn, sub, ab, col, dd, k0, k1, k2, k3, k5, hC, T, _⟩ := mke_obj X m
  have hcB : (Value.ref C :: .ref D :: veMro).contains (.type "object") = true := by rw [List.contains_cons, T.hasType (b := true) (by rfl), Bool.or_true]
  have ha := F.store_ValueError.args (.ref e) nv v
  simp only [checkBuiltinCall, F.store_ValueError.kind, F.store_ValueError.split]
  refine wpAny_bind ?_
  unfold isInstance
  repeat (first | with_reducible refine wpAny_loadPart_at he ?_ | (with_reducible refine wpAny_isSubtype_exc hC ?_; rw [hcB]) | wp_step)
  exact hq
theorem seta_run {tk : Tok} {Q : Fin → Shared → Prop} (X : K.In h) (m : MkeIn K C D) (sE : SetE K C a) (he : h.get? e = some { cls := .ref C, data := .fields #[.ref t0, .none, .none, .none, .bool false, .none] })
    (hq : ∀ h' tk', h'.get? e = some { cls := .ref C, dict := some h.objs.size, data := .fields #[.ref t0, .none, .none, .none, .bool false, .none] } → h'.Ns1 h.objs.size (fun y => if y = a then some v else none) → (∀ b o, b ≠ e → h.get? b = some o → h'.get? b = some o) → Q (.done (.ret .none)) ⟨h', g, d, tk', os⟩) :
    wpAny (model P w) A (Builtin.«object.__setattr__» ⟨[.ref e, .str a tk, v], []⟩) Q E ⟨h, g, d, t, os⟩ := by
  obtain ⟨N, nm, qn, bs, sn, sub, ab, col, dd, k0, k1, k2, k3, k5, hC, T, _⟩ := mke_obj X m
  have hpass := F.store_ValueError.passes (.ref e)
  obtain ⟨o, ho⟩ : ∃ o : Obj, o = { cls := .ref C, data := .fields #[.ref t0, .none, .none, .none, .bool false, .none] } := ⟨_, rfl⟩
  rw [← ho] at he
  have hc : o.cls = .ref C := by rw [ho]
  have hdn : o.dict = none := by rw [ho]
  have hnc : ∀ c, o.data ≠ .cls c := fun c z => by rw [ho] at z; cases z
  unfold Builtin.«object.__setattr__»
  repeat (first | rw [refuse_eq] | (rw [refuseLoop_ref, refuseLoop_ref, hpass]) | (with_reducible refine wpAny_loadPart_at he ?_; rw [hc]) | with_reducible refine wpAny_mroOf_exc hC ?_ | with_reducible refine find_wp X sE.na ?_ | wp_step)
  rw [hdn, if_neg (by simp [typeHasDict])]
  split
  · rename_i hcd
    cases hcd
  split
  · rename_i c hcd
    exact absurd hcd (hnc c)
  · have hx₁ : (h.push { cls := .type "dict", data := .dict #[] }).get? e = some o := Heap.get?_push_of_some _ he
    have hxs : e ≠ h.objs.size := Nat.ne_of_lt (Heap.lt_size he)
    refine wpAny_bind (wpAny_alloc' ?_)
    refine wpAny_bind (wpAny_update' hx₁ ?_)
    refine wpAny_pure ?_
    have hgd : ((h.push { cls := .type "dict", data := .dict #[] }).update e fun o => { cls := o.cls, dict := some h.objs.size, data := o.data, slots := o.slots }).get? h.objs.size = some { cls := .type "dict", data := .dict #[] } :=
      (Heap.get?_update_ne _ _ _ _ hxs.symm).trans (Heap.get?_push_at rfl rfl)
    have hnd : ((h.push { cls := .type "dict", data := .dict #[] }).update e fun o => { cls := o.cls, dict := some h.objs.size, data := o.data, slots := o.slots }).Ns h.objs.size (fun _ => none) := ⟨_, #[], _, hgd, rfl, fun e he => absurd he (by simp), fun _ => rfl⟩
    show wpAny _ _ (Builtin.ObjectAttr.storeInDict h.objs.size (.str a tk) a v) _ _ _
    unfold Builtin.ObjectAttr.storeInDict Builtin.ObjectAttr.newKeyGuard
    refine wpAny_bind (wpAny_pure (wpAny_bind (wpAny_nsSet1 (Heap.Ns1.of_empty hnd) fun h' hn' hs => ?_)))
    obtain ⟨oD, esD, epD, hoD, hdD, hcD⟩ := hn'.count (Within.cons a v Within.nil)
    refine wpAny_bind (wpAny_lookBehind hoD (by rw [hdD]; exact pastItsLine_dict (Nat.le_trans hcD (by rw [List.length_cons, List.length_nil, sizeLine_eq]; omega))) ?_)
    wp_walk
    refine hq h' _ ?_ hn' fun b ob hbx hb => (hs.2 b (Nat.ne_of_lt (Heap.lt_size hb))).trans ((Heap.get?_update_ne _ _ _ _ hbx).trans (Heap.get?_push_of_some _ hb))
    refine (hs.2 e hxs).trans ((Heap.get?_update_self _ hx₁ ?_).trans ?_)
    · rw [ho]; rfl
    · rw [ho]
theorem set_exc {Q : Unit → Shared → Prop} (X : K.In h) (m : MkeIn K C D) (sE : SetE K C a) (he : h.get? e = some { cls := .ref C, data := .fields #[.ref t0, .none, .none, .none, .bool false, .none] })
    (hq : ∀ h' tk', h'.get? e = some { cls := .ref C, dict := some h.objs.size, data := .fields #[.ref t0, .none, .none, .none, .bool false, .none] } → h'.Ns1 h.objs.size (fun y => if y = a then some v else none) → (∀ b o, b ≠ e → h.get? b = some o → h'.get? b = some o) → Q () ⟨h', g, d, tk', os⟩) :
    wpAny (model P w) A (setAttr (.ref e) a v) Q E ⟨h, g, d, t, os⟩ := by
  have f3 := F.store_ValueError.slot.bind (.ref e)
  unfold setAttr callSpecial? specialOf
  repeat (any_goals (first | assumption | with_reducible refine wpAny_loadPart_at he ?_ | with_reducible refine find_wp X sE.sa ?_ | wp_step))
  refine codeAny_call_builtin F.store_ValueError.slot.plain F.store_ValueError.entry (seta_check X m he (seta_run X m sE he fun h' tk' q1 q2 q3 => ?_))
  repeat (any_goals (first | assumption | wp_step))
  exact hq h' _ q1 q2 q3
end
section
variable {X : Cx} {pins : List (Addr × Obj)} {σ : St} {H : Hp} {s : Shared}
theorem Inv.takeO {a : Addr} {o : HO} (I : Inv X pins σ H s) (ok : ObjOk X.prog X.w (upd H a o) s.heap a o) (hn : H a = none) (h0 : X.s₀.heap.get? a = none) (h1 : a ≠ X.env.locals) (h2 : ∀ x c, X.env.cells.lookup x = some c → c ≠ a) (h3 : ∀ p ∈ X.pn ++ pins, p.1 ≠ a) :
    Inv X pins σ (upd H a o) s := by
  have nd : ∀ b u, H b = some u → b ≠ a := fun b u q z => by rw [z, hn] at q; cases q
  have n0 : ∀ b o, X.s₀.heap.get? b = some o → b ≠ a := fun b o q z => by rw [z, h0] at q; cases q
  refine ⟨I.ok, I.os, I.bare, ⟨I.base.keep, I.base.slot, fun b o q n hx => ?_, I.base.there, fun b xs q => ?_, fun b o xs q => ?_, fun b ps q => ?_⟩, I.loc, I.cell, ?_, fun x c q => ?_, fun p hp => ?_, fun b u q => ?_, I.len⟩
  · rw [upd_ne (n0 b _ q)]
    exact I.base.free b _ q n hx
  · rw [upd_ne (nd b _ (I.base.tups b xs q))]
    exact I.base.tups b xs q
  · rw [upd_ne (nd b _ (I.base.frzs b o xs q))]
    exact I.base.frzs b o xs q
  · obtain ⟨m, e1⟩ := I.base.tbls b ps q
    exact ⟨m, by rw [upd_ne (nd b _ e1)]; exact e1⟩
  · rw [upd_ne (Ne.symm h1)]
    exact I.free
  · rw [upd_ne (h2 x c q)]
    exact I.freeC x c q
  · obtain ⟨a1, a2, a3⟩ := I.pin p hp
    exact ⟨a1, by rw [upd_ne (h3 p hp)]; exact a2, a3⟩
  · by_cases hb : b = a
    · subst hb
      rw [upd_same] at q
      cases q
      exact ok
    · rw [upd_ne hb] at q
      exact (I.hok b u q).stay (fun _ _ _ z => z) (fun c z => by rw [upd_ne (nd c _ z)]; exact z) fun c xs z => by rw [upd_ne (nd c _ z)]; exact z
theorem Inv.newO {a : Addr} {o : HO} {s1 : Shared} {H1 : Hp} (I1 : Inv X pins σ H1 s1) (hex : X.ex = []) (h : s1.heap.get? a = none) : X.s₀.heap.get? a = none ∧ a ≠ X.env.locals ∧ (∀ x c, X.env.cells.lookup x = some c → c ≠ a) ∧ ∀ p ∈ X.pn ++ pins, p.1 ≠ a := by
  refine ⟨?_, fun z => ?_, fun y c q z => ?_, fun p hp z => ?_⟩
  · cases z : X.s₀.heap.get? a with
    | none => rfl
    | some o =>
      obtain ⟨o', e1⟩ := I1.base.there a o z (by rw [hex]; intro y; cases y)
      rw [h] at e1
      cases e1
  · obtain ⟨m, ⟨oL, _, _, hoL, _⟩, _⟩ := I1.loc
    rw [← z, h] at hoL
    cases hoL
  · obtain ⟨w', oc, hoc, _⟩ := I1.cell y c q
    rw [z, h] at hoc
    cases hoc
  · have := (I1.pin p hp).1
    rw [z, h] at this
    cases this
theorem Inv.forget {a : Addr} {φ : Heap → Prop} (I : Inv X pins σ (upd H a (.ext φ)) s) (hn : H a = none) : Inv X pins σ H s := by
  have up : ∀ b, (upd H a (.ext φ)) b = none → H b = none := fun b q => by
    by_cases hb : b = a
    · rw [hb]; exact hn
    · rw [upd_ne hb] at q; exact q
  have of : ∀ b o, (∀ ψ, o ≠ HO.ext ψ) → (upd H a (.ext φ)) b = some o → H b = some o := fun b o ne q => by
    by_cases hb : b = a
    · subst hb
      rw [upd_same] at q
      cases q
      exact absurd rfl (ne _)
    · rw [upd_ne hb] at q; exact q
  refine ⟨I.ok, I.os, I.bare, ⟨I.base.keep, I.base.slot, fun b o q n hx => up _ (I.base.free b o q n hx), I.base.there, fun b xs q => of _ _ (fun _ e => nomatch e) (I.base.tups b xs q), fun b o xs q => of _ _ (fun _ e => nomatch e) (I.base.frzs b o xs q), fun b ps q => ?_⟩,
    I.loc, I.cell, up _ I.free, fun x c q => up _ (I.freeC x c q), fun p hp => ?_, fun b u q => ?_, I.len⟩
  · obtain ⟨m, e1⟩ := I.base.tbls b ps q
    exact ⟨m, of _ _ (fun _ e => nomatch e) e1⟩
  · obtain ⟨a1, a2, a3⟩ := I.pin p hp
    exact ⟨a1, up _ a2, a3⟩
  · have nb : b ≠ a := fun z => by rw [z, hn] at q; cases q
    exact (I.hok b u (by rw [upd_ne nb]; exact q)).stay (fun _ _ _ z => z) (fun c z => of _ _ (fun _ e => nomatch e) z) fun c xs z => of _ _ (fun _ e => nomatch e) z
theorem upd_eq {H : Hp} {a : Addr} {o : HO} (h : H a = some o) : upd H a o = H := by
  funext b
  by_cases hb : b = a
  · rw [hb, upd_same, h]
  · rw [upd_ne hb]
end
structure BaseI (K : PySem.W.Frag) (D : Addr) : Prop where
  ga : PySem.W.specialIn K (.ref D) "__getattribute__" = some (some (.builtin "type.__getattribute__"))
  rd : PySem.W.readsIn K D (.type "type") = true
  fi : PySem.W.findCls K (.ref D) (.type "type") "__init__" = some (.val (.builtin "ValueError.__init__"))
def tInitB (C : Addr) (t : TA) : TE := fun σ H Q => t σ H fun vs H1 => ∃ e y, vs = [.ref e, y] ∧ H1 e = some (.ext (ExcX e C none)) ∧ Q .non H1
def sFldE (C : Addr) (a : Str) (ta tv : TE) : TS := fun D σ H => tv σ H fun y H1 => ta σ H1 fun x H2 => ∃ e, x = .ref e ∧ H2 e = some (.ext (ExcX e C none)) ∧ ∀ dx, H2 dx = none → dx ≠ e → D.nx σ (upd (upd H2 dx (.xd [(a, y)])) e (.ext (ExcX e C (some dx))))
section
variable {X : Cx} {C D f : Addr} {x a : Str} {e1 e2 o value : Expr} {t : TA} {ta tv : TE} {p apos pos pos' : Pos}
theorem pe_initB {pl : Sem Bool} (m : MkE X.K C D f) (b : BaseI X.K D) (hg : Gl X x) (hm : X.mg x = some (.ref D)) (ha : PA X [e1, e2] t) (hdb : (x == ("__debug__" : Str)) = false := by decide)
    (hst : starEach [e1, e2] X.env = (false, eval e1 X.env) :: starEach [e2] X.env := by rfl) (hpl : (backTo pos (starEach [e2] X.env)).any (·.1) = false := by rfl)
    (ht : eval (.Call (.Attribute (.Name x p) "__init__" apos) [e1, e2] [] pos) X.env = (do
      let ov ← eval (.Name x p) X.env
      standAt apos.atName
      let (f, first) ← holding [ov] (getMethod ov "__init__" pl)
      callWith pos f first (backTo pos (starEach [e1, e2] X.env)) (backToKw pos (keywordEach [] X.env))) := by rfl) :
    PE X (.Call (.Attribute (.Name x p) "__init__" apos) [e1, e2] [] pos) (tInitB C t) := by
  intro pins s σ H Q I h
  refine PySem.W.methodCall_KW (pl := pl) (ld_glob I hg hm ?_ hdb) ht
  refine PySem.W.method_cls I.kIn b.ga (PySem.W.cls_value I.kIn b.rd b.fi rfl ?_)
  have I0 := I.tok (s.toks + 1)
  refine PyProof.Rows.callWith_builtin1 (thn (ha pos pins _ σ H _ I0 h) fun us s1 ⟨vs, H1, I1, r, e, y, ev, he, q⟩ => ?_) hst hpl
  subst ev
  obtain ⟨v1, v2, rfl, r1, r2⟩ := vals2 r
  cases r1
  obtain ⟨⟨t0, hx⟩, _⟩ := I1.hok e _ he
  obtain ⟨N, nm, qn, bs, sn, sub, ab, col, dd, k0, k1, k2, k3, k5, hC, T, _⟩ := mke_obj I1.kIn m.cls
  obtain ⟨hp, g, d, tk, os⟩ := s1
  have Fn := F.excBase_ValueError
  refine wpAny_call (codeAny_call_builtin Fn.init.plain Fn.initEntry (wpAny_check_init_subU Fn T hC hx rfl ?_))
  wp_walk
  have hxp : (hp.push { cls := .type "tuple", data := .seq #[v2] }).get? e = some { cls := .ref C, data := .fields #[.ref t0, .none, .none, .none, .bool false, .none] } := Heap.get?_push_of_some _ hx
  have he2 : ((hp.push { cls := .type "tuple", data := .seq #[v2] }).update e (Obj.mapFields fun x => x.setIfInBounds 0 (.ref hp.objs.size))).get? e = some { cls := .ref C, data := .fields #[.ref hp.objs.size, .none, .none, .none, .bool false, .none] } := Heap.get?_update_self _ hxp rfl
  have I2 := I1.write (x := e) (e := e) (o := .ext (ExcX e C none)) (t' := tk) (h' := (hp.push { cls := .type "tuple", data := .seq #[v2] }).update e (Obj.mapFields fun x => x.setIfInBounds 0 (.ref hp.objs.size))) (by rw [he]; exact True.intro) (.inl rfl)
    (fun b u hb z => (Heap.get?_update_ne _ _ _ _ hb).trans (Heap.get?_push_of_some _ z)) ⟨_, he2⟩ (excX_ok ⟨_, he2⟩)
  rw [upd_eq he] at I2
  exact ⟨.non, H1, I2, rfl, q⟩
theorem ps_fldE (hex : X.ex = []) (m : MkE X.K C D f) (sE : SetE X.K C a) (ha : PE X o ta) (hv : PE X value tv) (hs : swapsWith value (some (.Attribute o a pos')) pos.line X.env = pure false := by rfl) : PS X (.Assign [.Attribute o a pos'] value pos) (sFldE C a ta tv) := by
  intro pins s σ H E I h
  refine plainObj_wpAny_Assign_Attribute (thn (hv pins s σ H _ I h) fun u s1 ⟨y, H1, I1, ry, q⟩ => thn (ha pins s1 σ H1 _ I1 q) fun ov s2 ⟨z, H2, I2, rx, e, ex, he, q2⟩ => ?_) hs
  subst ex
  cases rx
  obtain ⟨⟨t0, hx⟩, _⟩ := I2.hok e _ he
  obtain ⟨hp, g, d, tk, os⟩ := s2
  refine set_exc I2.kIn m.cls sE hx fun h' tk' g1 g2 g3 => ?_
  have dn : hp.get? hp.objs.size = none := Heap.get?_none_of_le (Nat.le_refl _)
  have hd0 : H2 hp.objs.size = none := I2.hok.fresh (Nat.le_refl _)
  have dne : hp.objs.size ≠ e := Nat.ne_of_gt (Heap.lt_size hx)
  obtain ⟨n1, n2, n3, n4⟩ := I2.newO (o := .xd []) hex dn
  have I3 : Inv X pins σ (upd H2 e (.ext (ExcX e C (some hp.objs.size)))) ⟨h', g, d, tk', os⟩ := I2.write (x := e) (e := e) (o := .ext (ExcX e C (some hp.objs.size))) (t' := tk') (by rw [he]; exact True.intro) (.inl rfl) (fun b u hb q => g3 b u hb q) ⟨_, g1⟩ (excX_ok ⟨t0, g1⟩)
  have I4 := I3.takeO (a := hp.objs.size) (o := .xd [(a, y)]) ⟨_, g2, fun f => ?_⟩ (by rw [upd_ne dne]; exact hd0) n1 n2 n3 n4
  · refine ⟨σ, _, I4, ?_⟩
    have e3 : upd (upd H2 e (.ext (ExcX e C (some hp.objs.size)))) hp.objs.size (.xd [(a, y)]) = upd (upd H2 hp.objs.size (.xd [(a, y)])) e (.ext (ExcX e C (some hp.objs.size))) := by
      funext b
      unfold upd
      by_cases h1 : b = e
      · rw [if_pos h1, if_pos h1, if_neg (by rw [h1]; exact Ne.symm dne)]
      · rw [if_neg h1, if_neg h1]
    rw [e3]
    exact q2 _ hd0 dne
  · show RelO (List.lookup f [(a, y)]) (if f = a then some u else none)
    by_cases hf : f = a
    · rw [if_pos hf, List.lookup_cons, hf, beq_self_eq_true]
      exact ry
    · rw [if_neg hf, List.lookup_cons, beq_eq_false_iff_ne.mpr hf]
      exact True.intro
end
end L2
namespace L2
open PySem PySem.Spec PyProof.Rows
section
variable {X : Cx} {pins : List (Addr × Obj)} {σ : St} {H H' : Hp} {s : Shared}
theorem leave_keep0 {h'' : Heap} {S : List Addr} (I : Inv X pins σ H s) (hex : X.ex = []) (keep : ∀ b o, s.heap.get? b = some o → b ∉ frs X.stack → b ∉ S → h''.get? b = some o) (slot : ∀ b o, s.heap.get? b = some o → b ∈ frs X.stack → ∃ sl, h''.get? b = some { o with slots := sl })
    (hS : ∀ b ∈ S, X.s₀.heap.get? b = none ∧ H b = none) : Un (frs X.outer) [] X.H₀ H X.s₀.heap h'' ∧ HOk X.prog X.w H h'' := by
  have hx : ∀ b : Addr, b ∉ X.ex := fun b z => by rw [hex] at z; cases z
  have frH : ∀ b ∈ frs X.stack, H b = none := fun b hb => I.stkFree b hb
  have neL : ∀ b o, X.s₀.heap.get? b = some o → b ≠ X.env.locals := fun b o e => Nat.ne_of_lt (Nat.lt_of_lt_of_le (Heap.lt_size e) I.ok.above)
  have nst : ∀ b o, X.s₀.heap.get? b = some o → b ∉ frs X.outer → b ∉ frs X.stack := fun b o e n z => by
    rcases List.mem_cons.mp (I.stkSub b z) with q | q
    · exact neL b o e q
    · exact n q
  have nS : ∀ b o, X.s₀.heap.get? b = some o → b ∉ S := fun b o e z => by
    have := (hS b z).1
    rw [e] at this
    cases this
  refine ⟨⟨fun b o e n hb _ => ?_, fun b o e n hb _ => ?_, fun b o e n _ => I.base.free b o e n (hx b), fun b o e _ => ?_, I.base.tups, I.base.frzs, I.base.tbls⟩, fun b o e => ?_⟩
  · exact keep b o (I.base.keep b o e n hb (hx b)) (nst b o e hb) (nS b o e)
  · obtain ⟨sl, e1⟩ := I.base.slot b o e n hb (hx b)
    obtain ⟨sl3, e3⟩ := slot b _ e1 (stk_sup I.ok b hb)
    exact ⟨sl3, e3⟩
  · obtain ⟨o', e1⟩ := I.base.there b o e (hx b)
    by_cases hb : b ∈ frs X.stack
    · obtain ⟨sl, e3⟩ := slot b o' e1 hb
      exact ⟨_, e3⟩
    · exact ⟨o', keep b o' e1 hb (nS b o e)⟩
  · have tr : ∀ c v, H c = some v → c ∉ frs X.stack ∧ c ∉ S := fun c v q => ⟨fun z => (by rw [frH c z] at q; cases q), fun z => (by rw [(hS c z).2] at q; cases q)⟩
    refine (I.hok b o e).stay (fun c v hc q => ?_) (fun _ q => q) fun _ _ q => q
    rcases hc with z | z
    · rw [z] at q ⊢
      exact keep b v q (tr b o e).1 (tr b o e).2
    · exact keep c v q (tr c _ z).1 (tr c _ z).2
theorem leave_set {M : Model} {E1 : Value → Shared → Prop} {E : XK} {e C : Addr} {d : Option Addr} (I : Inv X pins σ (upd H e (.ext (ExcX e C d))) s) (hn : H e = none) (n0 : X.s₀.heap.get? e = none) (hex : X.ex = []) (hst : X.stack = X.env :: X.outer) (hf : X.env.frame = some X.env.locals)
    (hE : E (.ref C) d H) : wpAny M X.A (leaving X.env (.ref e)) (fun _ s'' => CX1 X.prog X.w X.outer X.H₀ X.s₀ E (.ref e) s'') E1 s := by
  obtain ⟨⟨t0, he⟩, _⟩ := I.hok e _ upd_same
  have I0 := I.forget hn
  have fst := I0.stack
  have enf : e ∉ frs X.stack := fun z => by
    have := I.stkFree e z
    rw [upd_same] at this
    cases this
  have hfr : ∀ b ∈ frs X.stack, ∃ o, s.heap.get? b = some o ∧ ∀ ws, o.data ≠ .fields ws := fun b hb => (fst.mem hb).2
  refine leave_firstD (base := PySem.W.hideAll s.heap (e :: frs X.stack)) (a0 := .ref t0) (by rw [I.ok.frames, hst]) (by rw [← hst]; exact PySem.W.funFrames_hide fst fun env henv b hb => .tail _ (frames_in env henv b hb)) hf he (fun b o q => PySem.W.of_hideAll _ q) (PySem.W.hideAll_none _ (.head _)) rfl rfl rfl fun h'' hL dc => ?_
  obtain ⟨st, _, ⟨oe, ws, T, oT, ts, he', ⟨hc, h0⟩, hd, h1, hT, hTe, hT', hdT, h3⟩, up⟩ := hL
  obtain ⟨oe', heo, hdc⟩ := dc
  rw [he'] at heo
  cases heo
  have slot : ∀ b o, s.heap.get? b = some o → b ∈ frs X.stack → ∃ sl, h''.get? b = some { o with slots := sl } := fun b o q hb => by
    obtain ⟨o', e1, e2⟩ := hfr b hb
    rw [q] at e1
    cases e1
    exact up b o q e2
  obtain ⟨u, hk⟩ := leave_keep0 (S := [e]) I0 hex (fun b o q hb hS => st b o (PySem.W.hideAll_get _ q fun z => by
      rcases List.mem_cons.mp z with y | z
      · exact hS (by rw [y]; exact .head _)
      · exact hb z)) slot fun b z => by rw [List.mem_singleton.mp z]; exact ⟨n0, hn⟩
  have gT : s.heap.get? T = none := by
    cases q : s.heap.get? T with
    | none => rfl
    | some o =>
      by_cases y : T ∈ frs X.stack
      · obtain ⟨o', e1, e2⟩ := hfr T y
        obtain ⟨sl, e3⟩ := slot T o' e1 y
        rw [hT'] at e3
        cases e3
        exact absurd hdT (e2 ts)
      · rw [PySem.W.hideAll_get _ q (fun r => by
          rcases List.mem_cons.mp r with p | r
          · exact hTe p
          · exact y r)] at hT
        cases hT
  have gT0 : X.s₀.heap.get? T = none := by
    cases z : X.s₀.heap.get? T with
    | none => rfl
    | some o =>
      obtain ⟨o', e1⟩ := I.base.there T o z (by rw [hex]; intro y; cases y)
      rw [gT] at e1
      cases e1
  exact ⟨e, C, d, H, rfl, I.os, I.bare, u, hk, ⟨n0, hn, oe, ws, T, oT, ts, _, he', hc, hdc, hd, h0, h1, gT0, I0.hok.gone gT, hTe, hT', hdT, h3⟩, hE⟩
end
def ThrowsE (X : Cx) (E : XK) : Prop := ∀ (pins : List (Addr × Obj)) (σ : St) (H : Hp) (s : Shared) (e C : Addr) (d : Option Addr), Inv X pins σ (upd H e (.ext (ExcX e C d))) s → H e = none → X.s₀.heap.get? e = none → E (.ref C) d H → X.xe (.ref e) s
theorem throwsE_def {P : Program} {w : World} {K : PySem.W.Frag} {mg : Str → Option Value} {base : Heap} {N : List Str} {qual : Str} {scope : Scope} {f : Addr} {cd : Value} {A : Around} {outer : List Env} {s : Shared} {H : Hp} {E : XK} : ThrowsE (cxOf (CX1 P w) P w K mg base N qual scope f cd A outer s H E) E :=
  fun _ _ _ _ _ _ _ I hn n0 hE => leave_set I hn n0 rfl rfl rfl hE
section
variable {M : Model} {A : Around} {E : Value → Shared → Prop} {s : Shared} {env : Env} {K : PySem.W.Frag} {C D : Addr}
theorem raise_run {x : Sem Value} {Q : Flow → Shared → Prop} (m : MkeIn K C D) (hh : A.handled = none) (h : wpAny M A x (fun v s₁ => ∃ e d, v = .ref e ∧ K.In s₁.heap ∧ ExcX e C d s₁.heap ∧ E (.ref e) s₁) E s) : wpAny M A (raiseStmt env (some x) none) Q E s := by
  unfold raiseStmt
  refine wpAny_bind (wpAny_mono h (fun v s₁ h₁ => ?_) fun _ _ x => x)
  obtain ⟨e, d, rfl, X, ⟨t0, he⟩, hE⟩ := h₁
  obtain ⟨N, nm, qn, bs, sn, sub, ab, col, dd, k0, k1, k2, k3, k5, hC, T, _⟩ := mke_obj X m
  have hcB : (Value.ref C :: .ref D :: veMro).contains (.type "BaseException") = true := by rw [List.contains_cons, T.hasType (b := true) (by rfl), Bool.or_true]
  obtain ⟨hp, g, dr, tk, os⟩ := s₁
  repeat (first | with_reducible refine wpAny_loadPart_at he ?_ | with_reducible refine wpAny_loadPart_at hC ?_ | (with_reducible refine wpAny_isSubtype_exc hC ?_; rw [hcB]) | wp_step)
  exact wpAny_raiseNew_none hh hE
end
def tRaiseE (C : Addr) (sp : Sp) (E : XK) (t : TA) : TS := fun _ σ H => t σ H fun vs H1 => vs.length ≤ sizeLine ∧ ∀ e, H1 e = none → sp (.ref e :: vs) (upd H1 e (.ext (ExcX e C none))) (fun v H2 => v = .non ∧ ∃ d H3, H2 = upd H3 e (.ext (ExcX e C d)) ∧ H3 e = none ∧ E (.ref C) d H3) E0
section
variable {X : Cx} {k : Nat} {C D f : Addr} {fd : FuncData} {ps : List Str} {sp : Sp} {E : XK} {x : Str} {np pos cpos : Pos} {e : Expr} {es : List Expr} {t : TA}
theorem ps_raiseE (hc : X.calm = true) (hex : X.ex = []) (th : ThrowsE X E) (m : MkE X.K C D f) (F : FnOk X.prog X.w X.K X.mg X.base CX0 k f fd ps sp) (hr : Room (k + 1) X.A) (hb : Binds X.K fd ps []) (hg : Gl X x) (hm : X.mg x = some (.ref C)) (ha : PA X (e :: es) t)
    (hdb : (x == ("__debug__" : Str)) = false := by decide) (he : starEach (e :: es) X.env = (false, eval e X.env) :: starEach es X.env := by rfl) (hpl : (backTo cpos (starEach es X.env)).any (·.1) = false := by rfl) :
    PS X (.Raise (some (.Call (.Name x np) (e :: es) [] cpos)) none pos) (tRaiseE C sp E t) := by
  intro pins s σ H D' I h
  rw [arm_exec_Raise]
  refine wpAny_bind (wpAny_standAt (raise_run m.cls (I.ok.hd hc) (wpAny_bind (wpAny_mono (wpAny_Call_Name_kw (ld_glob I hg hm ?_ hdb)) (fun v s3 h3 => wpAny_bind (wpAny_standAt (wpAny_pure h3))) fun _ _ x => x))))
  refine PySem.W.callWith_K (h₀ := X.base) I.ok.mod.kin m.kp (thn (ha cpos pins s σ H _ I h) fun us s1 ⟨vs, H1, I1, r, z, q⟩ => ⟨I1.kIn, ?_⟩) he hpl
  obtain ⟨hp, g, d, tk, os⟩ := s1
  refine mke_call I1.kIn m (by rw [List.nil_append, ← r.length]; exact z) fun h' e' hx => ?_
  obtain ⟨t0, hobj, _, _⟩ := hx.there
  have hn : H1 e' = none := I1.hok.gone hx.new
  obtain ⟨n1, n2, n3, n4⟩ := I1.newO (o := .xd []) hex hx.new
  have I2 : Inv X pins σ (upd H1 e' (.ext (ExcX e' C none))) ⟨h', g, d, tk, os⟩ := (I1.kept (t' := tk) hx.keeps).takeO (excX_ok ⟨t0, hobj⟩) hn n1 n2 n3 n4
  have hq := q e' hn
  have r2 : Vals (V.ref e' :: vs) (Value.ref e' :: us) := .cons rfl r
  have hl : (Value.ref e' :: us ++ ([] : List Value)).length = ps.length := by
    have e := r2.length
    rw [F.len _ _ _ _ hq] at e
    rw [List.append_nil]
    exact e.symm
  have hbb := hb ⟨h', g, d, tk, os⟩ (Value.ref e' :: us) I2.kIn hl
  rw [List.append_nil] at hbb
  refine wpAny_call (codeAny_mono (F.run _ X.stack _ _ ⟨Value.ref e' :: us, []⟩ (Value.ref e' :: us) _ _ E0 (hr.make C us []) (I2.env0.make C us []) hbb r2 hq) fun r s' hq' => ?_)
  cases r with
  | error e => exact hq'.elim
  | ok fl =>
    cases fl with
    | ret u =>
      obtain ⟨v, H', I3, rv, ev, d', H3, eH, h3, hE⟩ := I2.after hq'
      subst ev eH
      exact ⟨rv, e', d', rfl, I3.kIn, (I3.hok e' _ upd_same).1, th pins σ H3 s' e' C d' I3 h3 n1 hE⟩
    | next => exact False.elim hq'
    | brk => exact False.elim hq'
    | cont => exact False.elim hq'
def MakesE (P : Program) (w : World) (K : PySem.W.Frag) (mg : Str → Option Value) (base : Heap) (x : Str) (k : Nat) (ps : List Str) (sp : Sp) (C : Addr) : Prop := ∃ D f fd, MkE K C D f ∧ FnOk P w K mg base CX0 k f fd ps sp ∧ Binds K fd ps [] ∧ mg x = some (.ref C)
theorem ps_raiseM (hc : X.calm = true) (hex : X.ex = []) (th : ThrowsE X E) (c : MakesE X.prog X.w X.K X.mg X.base x k ps sp C) (hr : Room (k + 1) X.A) (hg : Gl X x) (ha : PA X (e :: es) t)
    (hdb : (x == ("__debug__" : Str)) = false := by decide) (he : starEach (e :: es) X.env = (false, eval e X.env) :: starEach es X.env := by rfl) (hpl : (backTo cpos (starEach es X.env)).any (·.1) = false := by rfl) :
    PS X (.Raise (some (.Call (.Name x np) (e :: es) [] cpos)) none pos) (tRaiseE C sp E t) := by
  obtain ⟨D, f, fd, m, F, hb, hm⟩ := c
  exact ps_raiseE hc hex th m F hr hb hg hm ha hdb he hpl
end
end L2
namespace L2
open PySem PySem.Spec PyProof.Rows
def ClsB (K : PySem.W.Frag) (C : Addr) (bm : List Value) : Prop := ∃ N nm qn bs hdct sn sub ab col dd k0 k1 k2 k3 k5 nw, K.lookup C = some (excClassObj nm qn C N bs bm hdct sn sub ab col dd k0 k1 k2 k3 k5 nw)
def CatchB (K : PySem.W.Frag) (C D : Addr) : Prop := ∃ bm bm', ClsB K C bm ∧ ClsB K D bm' ∧ (Value.ref C :: bm).contains (.ref D) = true ∧ (Value.ref D :: bm').contains (.type "BaseException") = true
theorem mke_catch {K : PySem.W.Frag} {C D : Addr} (q : MkeIn K C D) : CatchB K C C := by
  obtain ⟨_, N, nm, qn, bs, sn, sub, ab, col, dd, k0, k1, k2, k3, k5, lk⟩ := q
  exact ⟨_, _, ⟨_, _, _, _, _, _, _, _, _, _, _, _, _, _, _, _, lk⟩, ⟨_, _, _, _, _, _, _, _, _, _, _, _, _, _, _, _, lk⟩, by simp, by rw [List.contains_cons, List.contains_cons]; rfl⟩
theorem match_B {M : Model} {A : Around} {E : Value → Shared → Prop} {K : PySem.W.Frag} {s : Shared} {e C D : Addr} {oe : Obj} {Q : Bool → Shared → Prop} (X : K.In s.heap) (c : CatchB K C D) (he : s.heap.get? e = some oe) (hc : oe.cls = .ref C) (hq : Q true s) :
    wpAny M A (excMatches (.ref e) (.ref D)) Q E s := by
  obtain ⟨bm, bm', ⟨N, nm, qn, bs, hdct, sn, sb, ab, col, dd, k0, k1, k2, k3, k5, nw, lC⟩, ⟨N', nm', qn', bs', hdct', sn', sb', ab', col', dd', k0', k1', k2', k3', k5', nw', lD⟩, hS, hB⟩ := c
  have hC := X _ _ lC
  have hD := X _ _ lD
  have nt := tc_notTuple
  obtain ⟨hp, g, d, tk, os⟩ := s
  unfold excMatches
  repeat (first | (with_reducible refine wpAny_loadPart_at he ?_; rw [hc]) | with_reducible refine wpAny_loadPart_at hD ?_ | (with_reducible refine wpAny_isSubtype_exc hD ?_; rw [hB]) | (with_reducible refine wpAny_isSubtype_exc hC ?_; rw [hS]) | wp_step)
  exact hq
def tTry0 (K : PySem.W.Frag) (D' : Addr) (tb : XK → TS) (ts : TS) : TS := fun D σ H => ∃ E : XK, tb E D σ H ∧ ∀ C d H1, E (.ref C) d H1 → CatchB K C D' ∧ ts D σ H1
theorem ps_try0 {X : Cx} {x : Str} {D' : Addr} {body : List Stmt} {b0 : Stmt} {suite : List Stmt} {tb : XK → TS} {ts : TS} {np hpos pos : Pos} (hex : X.ex = []) (hst : X.stack = X.env :: X.outer) (hf : X.env.frame = some X.env.locals)
    (hg : Gl X x) (hm : X.mg x = some (.ref D')) (hb : PSx X body tb) (hs : ∀ e, PSs (X.caught e).nox (b0 :: suite) ts) (hdb : (x == ("__debug__" : Str)) = false := by decide) :
    PS X (.Try body [.ExceptHandler (some (.Name x np)) none (b0 :: suite) hpos] [] [] pos) (tTry0 X.K D' tb ts) := by
  intro pins s σ H D I h
  obtain ⟨E, h1, hc⟩ := h
  refine wpAny_Try_except (thn (hb pins s σ H D E _ I h1 fun H1 s1 v s' I1 hx => ?_) fun f s1 q => ?_)
  rotate_left
  · cases f with
    | next => exact wpAny_execs_nil q
    | brk => exact q
    | cont => exact q
    | ret u => exact q
  obtain ⟨e, C, d, H', T, a0, rfl, os, bare, u, hok, hE, _, ne, fe, nT, fT, fl⟩ := flies I1 hx
  obtain ⟨cB, go⟩ := hc C d H' hE
  have stB : ∀ b o, s'.heap.get? b = some o → b ∉ frs X.stack → b ∉ [e, T] → (PySem.W.hideAll s'.heap (e :: T :: frs X.stack)).get? b = some o := fun b o q hb hS => PySem.W.hideAll_get _ q fun z => by
    rcases List.mem_cons.mp z with y | z
    · exact hS (by rw [y]; exact .head _)
    · rcases List.mem_cons.mp z with y | z
      · exact hS (by rw [y]; exact .tail _ (.head _))
      · exact hb z
  have hfr : ∀ b ∈ frs X.stack, ∃ o, s'.heap.get? b = some o ∧ ∀ ws, o.data ≠ .fields ws := fun b hb => (fl.2.2.1.mem hb).2
  generalize PySem.W.hideAll s'.heap (e :: T :: frs X.stack) = B at fl stB
  rw [hst] at fl
  have hS : ∀ b ∈ [e, T], s1.heap.get? b = none ∧ H' b = none := fun b z => by
    rcases List.mem_cons.mp z with y | z
    · rw [y]; exact ⟨ne, fe⟩
    · rw [List.mem_singleton.mp z]; exact ⟨nT, fT⟩
  have mk : ∀ h5, Heap.FlyingW B (X.env :: X.outer) e (.ref C) a0 h5 → s'.heap.UpToSlots h5 → Inv X pins σ H' { s' with heap := h5 } := fun h5 f5 up => by
    obtain ⟨u5, ok5⟩ := stay_keep (S := [e, T]) (g := s'.heap) I1 u hok (fun b o q hb hS => f5.1 b o (stB b o q hb hS)) (fun b o q hb => by
      obtain ⟨o', e1, e2⟩ := hfr b hb
      rw [q] at e1
      cases e1
      exact up b o q e2) hS
    exact I1.call' (s' := { s' with heap := h5 }) (ch := []) os u5 ok5 bare fun b z => by cases z
  refine wpAny_looks_onW (by rw [I1.ok.frames, hst]) hf fl fun h4 held4 up4 => ?_
  refine wpAny_landsW held4 fun h5 fl5 up5 => ?_
  have I5 := mk h5 fl5 (up4.trans up5)
  refine wpAny_handleBy_cons (codeAny_handlers_test (ld_glob (X := X.caught e) (I5.caught e) hg hm ?_ hdb)) (by intro q; cases q)
  obtain ⟨oe, heo, hco⟩ := fl5.there
  refine match_B I5.kIn cB heo hco ?_
  refine codeAny_handlers_suite (lands_againW fl5 fun h6 fl6 up6 => ?_)
  have I6 := mk h6 fl6 ((up4.trans up5).trans up6)
  refine wpAny_mono (hs e pins _ _ _ _ ((I6.caught e).wish _) go) (fun f s8 q => ?_) fun _ _ z => False.elim z
  cases f with
  | next =>
    obtain ⟨σ', H8, I8, q⟩ := q
    exact ⟨_, H8, I8.unwish.uncaught I.ok, q⟩
  | brk =>
    obtain ⟨σ', H8, I8, q⟩ := q
    exact ⟨_, H8, I8.unwish.uncaught I.ok, q⟩
  | cont =>
    obtain ⟨σ', H8, I8, q⟩ := q
    exact ⟨_, H8, I8.unwish.uncaught I.ok, q⟩
  | ret u =>
    obtain ⟨v, σ', H8, I8, r, q⟩ := q
    exact ⟨v, _, H8, I8.unwish.uncaught I.ok, r, q⟩
def tTryB (i : Nat) (K : PySem.W.Frag) (D' : Addr) (tb : XK → TS) (ts : TS) : TS := fun D σ H => ∃ E : XK, tb E D σ H ∧ ∀ C d H1, E (.ref C) d H1 → CatchB K C D' ∧ ∀ e, H1 e = none → ts (gone i D) (σ.set i (some (.ref e))) (upd H1 e (.ext (ExcAt e C d)))
structure GetE (K : PySem.W.Frag) (C : Addr) (a : Str) : Prop where
  ga : PySem.W.findIn K (.ref C) "__getattribute__" = some (some (.builtin "BaseException.__getattribute__"))
  gt : PySem.W.findIn K (.ref C) "__getattr__" = some none
  na : PySem.W.findIn K (.ref C) a = some none
section
variable {P : Program} {w : World} {A : Around} {E : Value → Shared → Prop} {h : Heap} {g : Array GenState} {d : Drawn} {t : Nat} {os : OsState} {e C D dx : Addr} {o : Obj} {K : PySem.W.Frag} {a : Str} {u : Value} {mA : Str → Option Value}
end
def tFldX (K : PySem.W.Frag) (a : Str) (ta : TE) : TE := fun σ H Q => ta σ H fun x H1 => ∃ e C D dx n, x = .ref e ∧ H1 e = some (.ext (ExcAt e C (some dx))) ∧ H1 dx = some (.xd [(a, .int n)]) ∧ MkeIn K C D ∧ GetE K C a ∧ Q (.int n) H1
structure RoomH (k : Nat) (A : Around) : Prop where
  dp : A.depth + 3 * k + 5 < recursionLimit
  un : A.units + 16 * k + 200 < cLine
theorem RoomH.mono {j k : Nat} {A : Around} (r : RoomH k A) (h : j ≤ k) : RoomH j A := ⟨by have := r.dp; omega, by have := r.un; omega⟩
theorem RoomH.mark {k : Nat} {A : Around} (r : RoomH k A) (h : Option Value) : RoomH k (A.mark h) := ⟨r.dp, r.un⟩
theorem RoomH.units {k : Nat} {A : Around} (r : RoomH k A) : A.units + 64 < cLine := by have := r.un; omega
structure FnOkH (P : Program) (w : World) (K : PySem.W.Frag) (mg : Str → Option Value) (base : Heap) (k : Nat) (f : Addr) (fd : FuncData) (ps : List Str) (sp : Sp) : Prop where
  len : ∀ vs H Q E, sp vs H Q E → vs.length = ps.length
  run : ∀ (A : Around) (outer : List Env) (s : Shared) (H : Hp) (args : Args) (us : List Value) (vs : List V) (Q : VK) (E : XK), RoomH k A → Env0 P w K mg base A outer s H → BindsTo s fd args (ps.zip us) → Vals vs us → sp vs H Q E →
    codeAny (model P w) A (.call (.ref f) args) (CR CX0 outer P w H s Q E) s
abbrev Cx.loud (X : Cx) : Cx := { X with calm := false }
def CalleeH (P : Program) (w : World) (K : PySem.W.Frag) (mg : Str → Option Value) (base : Heap) (x : Str) (k : Nat) (ps : List Str) (sp : Sp) : Prop :=
  ∃ f fd, FnOkH P w K mg base k f fd ps sp ∧ mg x = some (.ref f) ∧ PySem.W.keepIn K (.ref f) = true ∧ Binds K fd ps []
end L2
namespace L2
open PySem PySem.Spec PyProof.Rows
def RcOp (op : CmpOp) (A : Around) (s : Shared) (x y : Value) (r : Bool) : Prop :=
  ∀ (P : Program) (w : World) (E : Value → Shared → Prop) (Q : Value → Shared → Prop), Q (.bool r) s → wpAny (model P w) A (richCompare op x y) Q E s
inductive Cmp (op : CmpOp) (A : Around) (s : Shared) : List (Value × Value) → Option Bool → Prop where
  | nil : Cmp op A s [] none
  | eq {x y zs o} : SeqAt.EqAt A s x y true → Cmp op A s zs o → Cmp op A s ((x, y) :: zs) o
  | ne {x y zs r} : SeqAt.EqAt A s x y false → RcOp op A s x y r → Cmp op A s ((x, y) :: zs) (some r)
def SeqObj (c : String) (h : Heap) (a : Addr) (its : List Value) : Prop := ∃ n dx sl, h.get? a = some ⟨.type c, dx, .seq its.toArray n, sl⟩
abbrev From (xs ys : List Value) (i : Nat) : List (Value × Value) := (xs.zip ys).drop i
section
variable {P : Program} {w : World} {A : Around} {E : Value → Shared → Prop} {s : Shared} {op : CmpOp}
end
section
open AutoSeq1
open MeetsSeq MeetsSeq2 MeetsSeq3 SeqRoads2 SeqAt
variable {l b : Addr} {xs ys : List Value}
end
end L2
namespace L2
open PySem PySem.Spec PyProof.Rows
def ltlO : List Nat → List Nat → Option Bool
  | a :: xs, b :: ys => if a = b then ltlO xs ys else some (decide (a < b))
  | _, _ => none
def ltl (xs ys : List Nat) : Bool := (ltlO xs ys).getD (decide (xs.length < ys.length))
theorem ltl_irr (xs : List Nat) : ltl xs xs = false := by
  have no : ltlO xs xs = none := by
    induction xs with
    | nil => rfl
    | cons a xs ih => rw [ltlO, if_pos rfl, ih]
  unfold ltl
  rw [no]
  simp
section
variable {A : Around} {s : Shared} {l b : Addr} {xs ys : List Value} {o : Option Bool}
theorem eqAt_int {i j : Int} {t u : Tok} : SeqAt.EqAt A s (.int i t) (.int j u) (decide (i = j)) := by
  have z := eqAt_V (A := A) (s := s) (y := .int i) (x := .int j) (u := .int i t) (v := .int j u) ⟨t, rfl⟩ ⟨u, rfl⟩ rfl rfl
  have e : eqV (.int i) (.int j) = decide (i = j) := by
    show (i == j) = _
    by_cases h : i = j <;> simp [h]
  rwa [e] at z
theorem SeqObj.ty {c : String} (h : SeqObj c s.heap l xs) : s.TypeIs (.ref l) c := let ⟨_, _, _, e⟩ := h; ⟨_, e, rfl⟩
end
section
variable {X : Cx}
def plt (i : Int) (ps : List Nat) (j : Int) (qs : List Nat) : Bool := if i = j then ltl ps qs else decide (i < j)
def Pair (K : PySem.W.Frag) (lst : Bool) (H : Hp) (x : V) (i : Int) (ps : List Nat) : Prop := ∃ a p, x = .ref a ∧ SqT K H a [.int i, .ref p] ∧ (if lst then SqL K H p (ps.map nv) else SqT K H p (ps.map nv))
theorem Pair.same {K : PySem.W.Frag} {lst : Bool} {H H' : Hp} {x : V} {i : Int} {ps : List Nat} (h : Pair K lst H x i ps) (g : Same H H') : Pair K lst H' x i ps := by
  obtain ⟨a, p, rfl, h1, h2⟩ := h
  refine ⟨a, p, rfl, g.sqt h1, ?_⟩
  cases lst with
  | true => exact g.seq (show SqL K H p _ from h2)
  | false => exact g.sqt (show SqT K H p _ from h2)
section
variable {pins : List (Addr × Obj)} {σ : St} {H : Hp} {s : Shared} {lst : Bool} {x y : V} {v u : Value} {i j : Int} {ps qs : List Nat} {A : Around}
abbrev kindD (lst : Bool) (ps : List Nat) : Dt := if lst then .lst ((ps.map fun (n : Nat) => (n : Int)).map Dt.int) else .tup ((ps.map fun (n : Nat) => (n : Int)).map Dt.int)
end
def rPair (K : PySem.W.Frag) (F : Bool → Bool) : R2 := fun x y H Q => ∃ lst i ps j qs, Pair K lst H x i ps ∧ Pair K lst H y j qs ∧ Q (.bl (F (plt i ps j qs))) H
end
end L2
namespace L2
open PySem PySem.Spec PyProof.Rows
def sub5 (m : Nat) : List Nat := (List.range 5).filter fun i => m.testBit i
def tab5 (led : Bool) (xs : List Nat) : SetTable := { mask := if xs.length = 5 then 31 else 7, place := xs.toArray, dummies := #[], finger := 0, led, moves := if xs.length = 5 then 1 else 0, plain := true }
def goes5 (xs : List Nat) (k : Nat) : Nat := (xs.filter (· < k)).length
def tabP (led : Bool) (m k : Nat) : SetTable := { tab5 led (sub5 m) with place := (sub5 (m ||| 2 ^ k)).toArray }
theorem tab5_fits : ∀ (led : Bool) (m : Fin 32), (tab5 led (sub5 m)).fits (sub5 m).length = true := by decide +kernel
theorem tab5_free : ∀ (led : Bool) (m : Fin 32) (k : Fin 5), (m : Nat).testBit k = false → (tab5 led (sub5 m)).freeSlot ((k : Nat) : Int) = some ((k : Nat), false) := by decide +kernel
theorem tab5_put : ∀ (led : Bool) (m : Fin 32) (k : Fin 5), (m : Nat).testBit k = false → (tab5 led (sub5 m)).put k = (tabP led m k, goes5 (sub5 m) k) ∧ (tabP led m k).fits ((sub5 m).length + 1) = true := by decide +kernel
theorem sub5_add : ∀ (m : Fin 32) (k : Fin 5), (m : Nat).testBit k = false → sub5 (m ||| 2 ^ (k : Nat)) = (sub5 m).take (goes5 (sub5 m) k) ++ (k : Nat) :: (sub5 m).drop (goes5 (sub5 m) k) := by decide +kernel
theorem sub5_old : ∀ (m : Fin 32) (k : Fin 5), (k : Nat) ∈ sub5 m → (m ||| 2 ^ (k : Nat) : Nat) = m := by decide +kernel
theorem sub5_new : ∀ (m : Fin 32) (k : Fin 5), (k : Nat) ∉ sub5 m → (m : Nat).testBit k = false := by decide +kernel
theorem sub5_lt : ∀ (m : Fin 32) (k : Fin 5), (m ||| 2 ^ (k : Nat) : Nat) < 32 := by decide +kernel
theorem sub5_len : ∀ m : Fin 32, (sub5 m).length ≤ 5 := by decide +kernel
theorem tab5_small : ∀ (led : Bool) (m : Fin 32) (k : Fin 5), (m : Nat).testBit k = false → (sub5 m).length ≠ 4 → tabP led m k = tab5 led (sub5 (m ||| 2 ^ (k : Nat))) ∧ (tabP led m k).tooFull = false := by decide +kernel
theorem tab5_big : ∀ (led : Bool) (m : Fin 32) (k : Fin 5), (m : Nat).testBit k = false → (sub5 m).length = 4 → (tabP led m k).tooFull = true ∧
    (tabP led m k).relaid #[0, 1, 2, 3, 4] (SetTable.grown 5) = some (tab5 led (sub5 (m ||| 2 ^ (k : Nat))), #[0, 1, 2, 3, 4]) ∧ sub5 (m ||| 2 ^ (k : Nat)) = [0, 1, 2, 3, 4] ∧ (tab5 led (sub5 (m ||| 2 ^ (k : Nat)))).fits 5 = true := by decide +kernel
theorem hash5 : ∀ k : Fin 5, hashInt ((k : Nat) : Int) = ((k : Nat) : Int) := by decide +kernel
def Ents : List Nat → List (Int × Value) → Prop := Paired fun n e => e.1 = (n : Int) ∧ ∃ t, e.2 = .int (n : Int) t
def setObj (es : List (Int × Value)) (ep : Nat) (t : SetTable) : Obj := { cls := .type "set", data := .set es.toArray ep t }
def IsSet5 (h : Heap) (a : Addr) (led : Bool) (m : Nat) : Prop := m < 32 ∧ ∃ es ep, h.get? a = some (setObj es ep (tab5 led (sub5 m))) ∧ Ents (sub5 m) es
theorem Ents.take : ∀ {ns : List Nat} {es : List (Int × Value)} (p : Nat), Ents ns es → Ents (ns.take p) (es.take p)
  | _, _, 0, _ => .nil
  | _, _, _ + 1, .nil => .nil
  | _, _, p + 1, .cons r t => .cons r (Ents.take p t)
theorem Ents.drop : ∀ {ns : List Nat} {es : List (Int × Value)} (p : Nat), Ents ns es → Ents (ns.drop p) (es.drop p)
  | _, _, 0, r => r
  | _, _, _ + 1, .nil => .nil
  | _, _, p + 1, .cons _ t => Ents.drop p t
theorem Ents.app : ∀ {ns ms : List Nat} {es fs : List (Int × Value)}, Ents ns es → Ents ms fs → Ents (ns ++ ms) (es ++ fs)
  | _, _, _, _, .nil, r => r
  | _, _, _, _, .cons q t, r => .cons q (Ents.app t r)
theorem Ents.len {ns : List Nat} {es : List (Int × Value)} (h : Ents ns es) : es.length = ns.length := (Paired.length h).symm
theorem Ents.keys : ∀ {ns : List Nat} {es : List (Int × Value)}, Ents ns es → es.map (·.1) = ns.map fun (n : Nat) => (n : Int)
  | _, _, .nil => rfl
  | _, _, .cons q t => by rw [List.map_cons, List.map_cons, q.1, Ents.keys t]
theorem Ents.mem : ∀ {ns : List Nat} {es : List (Int × Value)} {e : Int × Value}, Ents ns es → e ∈ es → ∃ n ∈ ns, e.1 = (n : Int) ∧ ∃ t, e.2 = .int (n : Int) t
  | _, _, _, .cons q t, h => by
    rcases List.mem_cons.mp h with z | z
    · subst z
      exact ⟨_, List.mem_cons_self, q⟩
    · obtain ⟨n, h1, h2⟩ := Ents.mem t z
      exact ⟨n, List.mem_cons_of_mem _ h1, h2⟩
theorem Ents.has : ∀ {ns : List Nat} {es : List (Int × Value)} {n : Nat}, Ents ns es → n ∈ ns → ∃ e ∈ es, ∃ t, e.2 = .int (n : Int) t
  | _, _, _, .cons q t, h => by
    rcases List.mem_cons.mp h with z | z
    · subst z
      exact ⟨_, List.mem_cons_self, q.2⟩
    · obtain ⟨e, h1, h2⟩ := Ents.has t z
      exact ⟨e, List.mem_cons_of_mem _ h1, h2⟩
theorem Ents.elems {P : Program} {w : World} {m : Fin 32} {es : List (Int × Value)} (h : Ents (sub5 m) es) : ElemsOf (intKind P w) es := fun e he => by
  obtain ⟨n, hn, e1, t, e2⟩ := h.mem he
  have hn5 : n < 5 := List.mem_range.mp (List.mem_filter.mp hn).1
  exact ⟨⟨(n : Int), by rw [e2]; exact intKind_is _ _ _ _, by rw [e1]; exact (hash5 ⟨n, hn5⟩).symm⟩, by rw [e2]; rfl⟩
theorem ins_list {α : Type} (xs : List α) (p : Nat) (x : α) : (SetTable.insertAt xs.toArray p x) = (xs.take p ++ x :: xs.drop p).toArray := by
  unfold SetTable.insertAt
  apply Array.ext'
  simp
  exact List.take_of_length_le (by simp)
section
variable {P : Program} {w : World} {A : Around} {E : Value → Shared → Prop} {s : Shared} {a : Addr} {led : Bool} {m k : Nat} {t : Tok}
theorem upd_set {h : Heap} {es fs : List (Int × Value)} {ep : Nat} {t u : SetTable} (e : h.get? a = some (setObj es ep t)) : (h.update a (Obj.putSet fs.toArray u)).get? a = some (setObj fs (ep + 1) u) := Heap.get?_update_self _ e rfl
theorem len_s {α : Type} {fs : List α} {n : Nat} (h : fs.length = n + 1) : ∃ a r, fs = a :: r ∧ r.length = n := by
  cases fs with
  | nil => cases h
  | cons a r => exact ⟨a, r, rfl, Nat.succ.inj h⟩
theorem pick5 {α : Type} {fs : List α} (h : fs.length = 5) : (#[0, 1, 2, 3, 4] : Array Nat).filterMap (fs.toArray[·]?) = fs.toArray := by
  obtain ⟨_, _, rfl, h1⟩ := len_s h
  obtain ⟨_, _, rfl, h2⟩ := len_s h1
  obtain ⟨_, _, rfl, h3⟩ := len_s h2
  obtain ⟨_, _, rfl, h4⟩ := len_s h3
  obtain ⟨_, _, rfl, h5⟩ := len_s h4
  cases List.length_eq_zero_iff.mp h5
  rfl
theorem set5_add {Q : Shared → Prop} (hk : k < 5) (hS : IsSet5 s.heap a led m) (q : ∀ h', IsSet5 h' a led (m ||| 2 ^ k) → Heap.SameBut a s.heap h' → Q { s with heap := h' }) :
    wpAny (model P w) A (setAddHashed a (.int (k : Int) t) (k : Int)) (fun _ s' => Q s') E s := by
  obtain ⟨hm, es, ep, e, en⟩ := hS
  have ln := en.len
  have fit := tab5_fits led ⟨m, hm⟩
  have el : ElemsOf (intKind P w) es.toArray.toList := Ents.elems (m := ⟨m, hm⟩) en
  have m5 : (sub5 m).length ≤ 5 := sub5_len ⟨m, hm⟩
  have fit' : (tab5 led (sub5 m)).fits es.toArray.size = true := by rw [List.size_toArray, ln]; exact fit
  have sc : byScan (.int (k : Int) t) es.toArray = true := by
    unfold byScan
    have e3 : es.toArray.all (·.2.scannable) = true := by
      rw [Array.all_eq_true_iff_forall_mem]
      exact fun x hx => (el x (by simpa using hx)).2
    rw [e3]
    have e4 : decide (es.toArray.size < scanBound) = true := decide_eq_true (by rw [List.size_toArray, ln]; unfold scanBound; omega)
    rw [e4]
    rfl
  have hh : (intKind P w).hash (k : Int) = (k : Int) := hash5 ⟨k, hk⟩
  unfold setAddHashed setAddHashedIn
  refine wpAny_holding (wpAny_bind (wpAny_setState_of e rfl fit' ?_))
  dsimp only
  rw [sc, if_pos rfl]
  unfold setAddByScan
  refine wpAny_bind (wpAny_bind (wpAny_rule (wpAny_bind ?_)))
  have scan : ∀ {R : ScanMet → Shared → Prop}, R (match es.toArray.toList.findIdx? (fun e => (intKind P w).is (k : Int) e.2) with | some j => .found (0 + j) | none => .absent) s → wpAny (model P w) A (setScan a (.int (k : Int) t) (k : Int) true es.toArray) R E s := fun z => by
    have y := wpAny_setScan_of (prog := P) (w := w) (A := A) (E := E) (knd := intKind P w) (k := (k : Int)) (x := .int (k : Int) t) (adding := true) (intKind_is _ _ _ _) e rfl fit' el z
    rw [hh] at y
    exact y
  refine scan ?_
  rw [List.toList_toArray]
  by_cases hin : k ∈ sub5 m
  · obtain ⟨x, hx, tx, ex⟩ := en.has hin
    cases hf : es.findIdx? fun e => (intKind P w).is (k : Int) e.2 with
    | none =>
      have z := List.findIdx?_eq_none_iff.mp hf x hx
      rw [ex, intKind_is] at z
      cases z
    | some j =>
      refine wpAny_pure (wpAny_pure ?_)
      have z := q s.heap (by rw [sub5_old ⟨m, hm⟩ ⟨k, hk⟩ hin]; exact ⟨hm, es, ep, e, en⟩) (Heap.SameBut.refl a s.heap)
      cases s
      exact z
  · have nb := sub5_new ⟨m, hm⟩ ⟨k, hk⟩ hin
    cases hf : es.findIdx? fun e => (intKind P w).is (k : Int) e.2 with
    | some j =>
      obtain ⟨hj, hpj, _⟩ := List.findIdx?_eq_some_iff_getElem.mp hf
      obtain ⟨n, hn, _, tn, e2⟩ := en.mem (List.getElem_mem hj)
      rw [e2] at hpj
      have z : (k : Int) = (n : Int) := (intKind P w).inj _ _ _ hpj (intKind_is _ _ _ tn)
      have z' : k = n := by omega
      exact absurd (z' ▸ hn) hin
    | none =>
      obtain ⟨pu, pf⟩ := tab5_put led ⟨m, hm⟩ ⟨k, hk⟩ nb
      have sa := sub5_add ⟨m, hm⟩ ⟨k, hk⟩ nb
      have lt32 := sub5_lt ⟨m, hm⟩ ⟨k, hk⟩
      dsimp only at pu pf sa lt32
      have en' : Ents (sub5 (m ||| 2 ^ k)) (es.take (goes5 (sub5 m) k) ++ ((k : Int), Value.int (k : Int) t) :: es.drop (goes5 (sub5 m) k)) := by
        rw [sa]
        exact (en.take _).app (.cons ⟨rfl, t, rfl⟩ (en.drop _))
      have lay : layNew (tab5 led (sub5 m)) es.toArray (k : Int) (.int (k : Int) t) = ((es.take (goes5 (sub5 m) k) ++ ((k : Int), Value.int (k : Int) t) :: es.drop (goes5 (sub5 m) k)).toArray, tabP led m k, false, false) := by
        unfold layNew
        rw [tab5_free led ⟨m, hm⟩ ⟨k, hk⟩ nb]
        dsimp only
        rw [pu]
        dsimp only
        rw [ins_list]
        have sz : (es.take (goes5 (sub5 m) k) ++ ((k : Int), Value.int (k : Int) t) :: es.drop (goes5 (sub5 m) k)).toArray.size = (sub5 m).length + 1 := by
          rw [List.size_toArray, List.length_append, List.length_cons, List.length_take, List.length_drop, ln]
          omega
        rw [sz]
        unfold SetTable.orStandIn
        rw [pf]
        rfl
      generalize es.take (goes5 (sub5 m) k) ++ ((k : Int), Value.int (k : Int) t) :: es.drop (goes5 (sub5 m) k) = fs at en' lay
      have lf := en'.len
      have f5 : fs.length ≤ 5 := by rw [lf]; exact sub5_len ⟨_, lt32⟩
      dsimp only
      rw [lay]
      dsimp only
      refine wpAny_bind (show wpAny _ _ (pure ()) _ _ _ from wpAny_pure ?_)
      refine wpAny_bind (show wpAny _ _ (pure true) _ _ _ from wpAny_pure ?_)
      refine wpAny_bind (wpAny_storeSet_of e rfl ?_ (by rw [List.size_toArray, sizeLine_eq]; omega))
      have e1 := upd_set (h := s.heap) (fs := fs) (u := tabP led m k) e
      have same1 : Heap.SameBut a s.heap (s.heap.update a (Obj.putSet fs.toArray (tabP led m k))) := Heap.SameBut.update ..
      by_cases h4 : (sub5 m).length = 4
      · obtain ⟨tf, rl, s5, ff⟩ := tab5_big led ⟨m, hm⟩ ⟨k, hk⟩ nb h4
        dsimp only at tf rl s5 ff
        have l5 : fs.length = 5 := by rw [lf, s5]; rfl
        have ks : fs.toArray.map (·.1) = #[0, 1, 2, 3, 4] := by
          rw [List.map_toArray, en'.keys, s5]
          rfl
        have pick : (#[0, 1, 2, 3, 4] : Array Nat).filterMap (fs.toArray[·]?) = fs.toArray := pick5 l5
        have rel : relayAll (tabP led m k) fs.toArray (SetTable.grown fs.toArray.size) = (fs.toArray, tab5 led (sub5 (m ||| 2 ^ k)), false) := by
          unfold relayAll
          rw [ks, List.size_toArray, l5, rl]
          dsimp only
          rw [pick, List.size_toArray, l5, ff, Bool.and_true, if_pos (by decide +kernel)]
        show wpAny _ _ (if (!false && (tabP led m k).tooFull) = true then _ else _) _ _ _
        rw [tf, if_pos (by decide)]
        simp only [if_true]
        rw [rel]
        dsimp only
        refine wpAny_bind (show wpAny _ _ (pure ()) _ _ _ from wpAny_pure ?_)
        refine wpAny_bind (wpAny_storeSet_of e1 rfl ?_ (by rw [List.size_toArray, sizeLine_eq]; omega))
        have e2 := upd_set (fs := fs) (u := tab5 led (sub5 (m ||| 2 ^ k))) e1
        have same2 := Heap.SameBut.trans same1 (Heap.SameBut.update (s.heap.update a (Obj.putSet fs.toArray (tabP led m k))) a (Obj.putSet fs.toArray (tab5 led (sub5 (m ||| 2 ^ k)))))
        exact wpAny_pure (wpAny_pure (q _ ⟨lt32, fs, ep + 1 + 1, e2, en'⟩ same2))
      · obtain ⟨te, tf⟩ := tab5_small led ⟨m, hm⟩ ⟨k, hk⟩ nb h4
        dsimp only at te tf
        show wpAny _ _ (if (!false && (tabP led m k).tooFull) = true then _ else _) _ _ _
        rw [tf, if_neg (by decide)]
        refine wpAny_pure (wpAny_pure (q _ ⟨lt32, fs, ep + 1, ?_, en'⟩ same1))
        rw [← te]
        exact e1
end
end L2
namespace L2
open PySem PySem.Spec PyProof.Rows
def mask5 (m : Nat) (ns : List Nat) : Nat := ns.foldl (fun m n => m ||| 2 ^ n) m
section
variable {P : Program} {w : World} {A : Around} {E : Value → Shared → Prop} {S it l : Addr} {led : Bool} {ns : List Nat} {vs : List Value}
theorem set5_loop {R : Result → Shared → Prop} (hh : A.handled = none) (d1 : S ≠ it) (d2 : S ≠ l) (d3 : it ≠ l) (hv : Vals (ns.map nv) vs) (h5 : ∀ n ∈ ns, n < 5) :
    ∀ (rest : List Nat) (i m : Nat) (s : Shared), ns.drop i = rest → s.heap.IsListIter it l i → s.heap.IsList l vs.toArray → IsSet5 s.heap S led m →
      (∀ h' tk, IsSet5 h' S led (mask5 m rest) → (∀ b o, b ≠ S → b ≠ it → s.heap.get? b = some o → h'.get? b = some o) → R (.ok (.ret .none)) { s with heap := h', toks := tk }) →
      codeAny (model P w) A (.builtin "set.update.loop" ⟨[.ref S, .ref it], []⟩) R s
  | [], i, m, s, hd, hi, hl, hS, q => by
    have hlen : vs.length ≤ i := by
      have h1 : vs.length = ns.length := by simpa using hv.length.symm
      have h2 := List.drop_eq_nil_iff.mp hd
      omega
    refine codeAny_builtin F.entry_set_update_loop ?_
    rw [Around.under_plainId F.plain_set_update_loop _]
    show wpAny _ A.in1 (pyNext (.ref it) >>= _) _ _ s
    refine wpAny_bind (wpAny_pyNext_list_end (by simpa using hh) hi hl (by simp; omega) fun h' keep => ?_)
    refine wpAny_pure (q h' s.toks ?_ fun b o _ h2 e => keep b o h2 e)
    obtain ⟨hm, es, ep, e, en⟩ := hS
    exact ⟨hm, es, ep, keep _ _ d1 e, en⟩
  | n :: rest, i, m, s, hd, hi, hl, hS, q => by
    have at1 : ns[i]? = some n := by rw [← List.head?_drop, hd]; rfl
    have next : ns.drop (i + 1) = rest := by rw [← List.tail_drop, hd]; rfl
    have n5 := h5 n (List.mem_of_getElem? at1)
    obtain ⟨u, hu, t, rfl⟩ := hv.get (i := i) (x := nv n) (by rw [List.getElem?_map, at1]; rfl)
    refine codeAny_builtin F.entry_set_update_loop ?_
    rw [Around.under_plainId F.plain_set_update_loop _]
    show wpAny _ A.in1 (pyNext (.ref it) >>= _) _ _ s
    refine wpAny_bind (wpAny_pyNext_list_item hi hl (x := .int (n : Int) t) (by simpa using hu) fun h1 hi1 sb1 => ?_)
    show wpAny _ A.in1 (holding [Value.int (n : Int) t] (setAdd S (.int (n : Int) t)) >>= _) _ _ _
    refine wpAny_bind (wpAny_holding ?_)
    unfold setAdd
    refine wpAny_holding (wpAny_bind ((intKind P w).pyHash (k := (n : Int)) (intKind_is _ _ _ _) ?_))
    rw [show (intKind P w).hash (n : Int) = (n : Int) from hash5 ⟨n, n5⟩]
    have hS1 : IsSet5 h1 S led m := by
      obtain ⟨hm, es, ep, e, en⟩ := hS
      exact ⟨hm, es, ep, sb1.extBut _ _ d1 e, en⟩
    refine set5_add n5 hS1 fun h2 hS2 sb2 => ?_
    refine wpAny_pure ⟨plainId_quiet F.plain_set_update_loop _, set5_loop hh d1 d2 d3 hv h5 rest (i + 1) (m ||| 2 ^ n) _ next (hi1.extBut sb2.extBut d1.symm) ((hl.extBut sb1.extBut d3.symm).extBut sb2.extBut d2.symm) hS2 fun h' tk hS' keep => ?_⟩
    exact q h' tk hS' fun b o b1 b2 e => keep b o b1 b2 (sb2.extBut _ _ b1 (sb1.extBut _ _ b2 e))
abbrev set0 (led : Bool) : Obj := { cls := .type "set", dict := none, data := .set #[] 0 (.fresh 0 0 led) }
set_option maxHeartbeats 4000000 in
theorem set5_init {h : Heap} {gn : Array GenState} {dr : Drawn} {k : Nat} {os : OsState} {R : PySem.Fin → Shared → Prop} (hh : A.handled = none) (hl : h.IsList l vs.toArray) (hv : Vals (ns.map nv) vs) (h5 : ∀ n ∈ ns, n < 5)
    (q : ∀ h' tk, IsSet5 h' h.objs.size led (mask5 0 ns) → (∀ b o, h.get? b = some o → h'.get? b = some o) → R (.done (.ret .none)) ⟨h', gn, dr, tk, os⟩) :
    wpAny (model P w) A (Builtin.«set.__init__» ⟨[.ref h.objs.size, .ref l], []⟩) R E ⟨h.push (set0 led), gn, dr, k, os⟩ := by
  obtain ⟨⟨cl, dl, dat, sl⟩, e2, c2, n2, d2⟩ := id hl
  simp only at c2 d2
  subst c2 d2
  have e3 : (h.push (set0 led)).get? l = some ⟨.type "list", dl, .seq vs.toArray n2, sl⟩ := Heap.get?_push_of_some _ e2
  have e0 : (h.push (set0 led)).get? h.objs.size = some { cls := .type "set", dict := none, data := .set #[] 0 (.fresh 0 0 led) } := Heap.get?_push_size _ rfl
  have s1 := F.sub_list_set
  have s2 := F.sub_list_frozenset
  have ne : (Value.type "list" == Value.type "dict") = false := by decide
  unfold Builtin.«set.__init__» noKeywords Builtin.Frozenset.updateFrom
  generalize g : pyIter = iter
  wp_walk
  subst g
  have hl1 : (h.push (set0 led)).IsList l vs.toArray := hl.push _
  refine wpAny_pyIter_list hl1 (wpAny_bind (wpAny_runValue ?_))
  have lt : l < h.objs.size := Heap.lt_size e2
  have sz : (h.push (set0 led)).objs.size = h.objs.size + 1 := Heap.size_push ..
  refine set5_loop (vs := vs) (led := led) (by simpa using hh) (by rw [sz]; exact Nat.ne_of_lt (Nat.lt_succ_self _)) (Nat.ne_of_gt lt) (by rw [sz]; exact Nat.ne_of_gt (Nat.lt_succ_of_lt lt)) hv h5 ns 0 0 _ rfl ⟨_, Heap.get?_push_size _ rfl, rfl, rfl⟩ (hl1.push _) ⟨by decide, [], 0, Heap.get?_push_of_some _ e0, .nil⟩ fun h' tk z1 z2 => ?_
  refine wpAny_pure (wpAny_pure (q h' tk z1 fun b o e => ?_))
  have bl := Heap.lt_size e
  exact z2 b o (Nat.ne_of_lt bl) (by rw [sz]; exact Nat.ne_of_lt (Nat.lt_succ_of_lt bl)) (Heap.get?_push_of_some _ (Heap.get?_push_of_some _ e))
end
end L2
namespace L2
open PySem PySem.Spec PyProof.Rows
end L2
namespace L2
open PySem PySem.Spec PyProof.Rows
def walk5 (w : World) (a : Addr) (ep : Nat) (es : List (Int × Value)) : List (Int × Value) := if w.params.followText "set-order" then (pickOrder (w.params.setOrder a ep) es.toArray).toList else es
def slot5 (byText : Bool) (xs : List Nat) : Nat → Nat
  | 0 => 0
  | i + 1 => if byText then 0 else xs.getD i 0 + 1
def iterObj (slot i n ep : Nat) (a : Addr) : Obj := { cls := .type "set_iterator", data := .fields #[rawInt slot, rawInt i, .ref a, rawInt n, rawInt ep] }
section
variable {P : Program} {w : World} {A : Around} {E : Value → Shared → Prop} {s : Shared} {a it : Addr} {m ep i : Nat} {es : List (Int × Value)}
end
end L2
namespace L2
open PySem PySem.Spec PyProof.Rows
section
variable {P : Program} {w : World} {A : Around} {E : Value → Shared → Prop} {a it : Addr} {m ep : Nat} {es : List (Int × Value)}
end
end L2
namespace L2
open PySem PySem.Spec PyProof.Rows
def norm5 (ns : List Nat) : List Nat := (List.range 5).filter fun i => ns.contains i
section
variable {P : Program} {w : World} {A : Around} {E : Value → Shared → Prop} {a : Addr} {m : Nat}
end
section
variable {X : Cx}
def SetO (w : World) (a : Addr) (m : Nat) : HO := .ext fun h => IsSet5 h a (!w.params.followText "set-order") m
theorem IsSet5.ok {w : World} {h : Heap} {a : Addr} {m : Nat} {P : Program} {w' : World} {H : Hp} (x : IsSet5 h a (!w.params.followText "set-order") m) : ObjOk P w' H h a (SetO w a m) := by
  obtain ⟨hm, es, ep, e, en⟩ := id x
  exact ⟨x, ⟨_, e⟩, fun h1 h2 ⟨y1, es', ep', y2, y3⟩ k => ⟨y1, es', ep', k _ y2, y3⟩⟩
theorem Inv.track {pins : List (Addr × Obj)} {σ : St} {H : Hp} {s : Shared} {D : Addr} {o : HO} (I : Inv X pins σ H s) (hD : H D = none) (ok : ObjOk X.prog X.w (upd H D o) s.heap D o)
    (h0 : X.s₀.heap.objs.size ≤ D) (h1 : D ≠ X.env.locals) (h2 : ∀ x c, X.env.cells.lookup x = some c → c ≠ D) (h3 : ∀ p ∈ X.pn ++ pins, p.1 ≠ D) : Inv X pins σ (upd H D o) s := by
  have nd : ∀ b u, H b = some u → b ≠ D := fun b u q z => by rw [z, hD] at q; cases q
  have q := I.step (h' := s.heap) (H' := upd H D o) (g' := s.gens) (t' := s.toks) (d' := s.drawn) (ch := [D]) (fun b hb => by
      have z : b = D := by simpa using hb
      subst z
      exact ⟨.inr h0, h1, h2, h3⟩)
    (fun b o _ _ _ e _ => e) (fun b o _ _ _ e _ => ⟨o.slots, e⟩) (fun b o hb _ n => by rw [upd_ne (fun z => hb (by simp [z]))]; exact n) (fun b o _ e => ⟨o, e⟩)
    (fun b xs q => by rw [upd_ne (nd b _ q)]; exact q) (fun b o u q => by rw [upd_ne (nd b _ q)]; exact q) (fun b ps q => ⟨#[], by rw [upd_ne (nd b _ q), q]; simp⟩) (fun m hm => hm) (fun b u q => ?_) I.bare
  · exact q
  · by_cases hb : b = D
    · subst hb
      rw [upd_same] at q
      cases q
      exact ok
    · rw [upd_ne hb] at q
      exact (I.hok b u q).stay (fun _ _ _ z => z) (fun c z => by rw [upd_ne (nd c _ z)]; exact z) fun c xs z => by rw [upd_ne (nd c _ z)]; exact z
theorem Inv.trackNew {pins : List (Addr × Obj)} {σ : St} {H : Hp} {s s1 : Shared} {o : HO} (I : Inv X pins σ H s) (I1 : Inv X pins σ H s1) (ok : ObjOk X.prog X.w (upd H s.heap.objs.size o) s1.heap s.heap.objs.size o) : Inv X pins σ (upd H s.heap.objs.size o) s1 := by
  obtain ⟨f0, f1, f2, f3, f4, f5⟩ := I.fpOk (b := s.heap.objs.size) (H' := H) (Nat.le_refl _) (I.hok.fresh (Nat.le_refl _))
  exact I1.track f0 ok I.sz f1 f4 f5
def rSetN (K : PySem.W.Frag) (w : World) : List V → Hp → VK → Prop := fun xs H Q => ∃ p ns, xs = [.ref p] ∧ SqL K H p (ns.map nv) ∧ (∀ n ∈ ns, n < 5) ∧ ∀ a, H a = none → Q (.ref a) (upd H a (SetO w a (mask5 0 ns)))
def rSortS (w : World) : List V → Hp → VK → Prop := fun xs H Q => ∃ a m, xs = [.ref a] ∧ H a = some (SetO w a m) ∧ ∀ l, H l = none → Q (.ref l) (upd H l (.lst ((sub5 m).map nv)))
end
end L2
namespace L2
open PySem PySem.Spec PyProof.Rows
section
variable {K : PySem.W.Frag} {H : Hp} {σ : St} {tt : TT} {te : TE} {Fin : List V → Hp → Prop} {a : Addr}
end
section
variable {X : Cx}
def rAny (K : PySem.W.Frag) : List V → Hp → VK → Prop := fun xs H Q => ∃ (p : Addr) (bs : List Bool), xs = [.ref p] ∧ SqL K H p (bs.map V.bl) ∧ Q (.bl (bs.any id)) H
end
end L2
namespace L2
open PySem PySem.Spec PyProof.Rows
section
variable {K : PySem.W.Frag} {H : Hp} {σ : St} {tt : TT} {te : TE} {Fin : List V → Hp → Prop} {a : Addr}
end
end L2
namespace L2
open PySem PySem.Spec PyProof.Rows
section
variable {K : PySem.W.Frag} {H : Hp} {σ : St} {tt : TT} {te : TE} {Fin : List V → Hp → Prop} {a : Addr}
end
end L2
namespace L2
open PySem PySem.Spec PyProof.Rows
def drop (H : Hp) (c : Addr) : Hp := fun b => if b = c then none else H b
theorem drop_same {H : Hp} {c : Addr} : drop H c c = none := by unfold drop; rw [if_pos rfl]
theorem drop_ne {H : Hp} {b c : Addr} (h : b ≠ c) : drop H c b = H b := by unfold drop; rw [if_neg h]
theorem drop_none {H : Hp} {b c : Addr} (h : H b = none) : drop H c b = none := by
  by_cases e : b = c
  · rw [e]; exact drop_same
  · rw [drop_ne e]; exact h
def CellO (c m : Addr) (o : Obj) : HO := .ext fun h => h.get? c = some o ∧ o.data = .cell (some (.ref m))
def CodeO (c : Addr) (q : Str) : HO := .ext fun h => h.CodeRec (.ref c) q
def LamO (f : Addr) (fd : FuncData) : HO := .ext fun h => h.get? f = some { cls := .type "function", data := .func fd }
theorem HOk.drop {P : Program} {w : World} {H : Hp} {h : Heap} {c : Addr} {φ : Heap → Prop} (x : HOk P w H h) (hc : H c = some (.ext φ)) : HOk P w (drop H c) h := fun b o e => by
  by_cases hb : b = c
  · rw [hb, drop_same] at e; cases e
  · rw [drop_ne hb] at e
    refine (x b o e).stay (fun _ _ _ z => z) (fun d z => ?_) fun d xs z => ?_
    · rw [drop_ne (fun q => by rw [q, hc] at z; cases z)]; exact z
    · rw [drop_ne (fun q => by rw [q, hc] at z; cases z)]; exact z
theorem HOk.back {P : Program} {w : World} {H : Hp} {h : Heap} {c : Addr} {o : HO} (x : HOk P w H h) (hc : H c = none) (ok : ObjOk P w (upd H c o) h c o) : HOk P w (upd H c o) h := fun b u e => by
  by_cases hb : b = c
  · subst hb; rw [upd_same] at e; cases e; exact ok
  · rw [upd_ne hb] at e
    exact (x b u e).stay (fun _ _ _ z => z) (fun d z => by rw [upd_ne (ne_of_none z hc)]; exact z) fun d xs z => by rw [upd_ne (ne_of_none z hc)]; exact z
theorem cell_ok {P : Program} {w : World} {H : Hp} {h : Heap} {c m : Addr} {o : Obj} (x : h.get? c = some o) (d : o.data = .cell (some (.ref m))) : ObjOk P w H h c (CellO c m o) := ⟨⟨x, d⟩, ⟨o, x⟩, fun h1 h2 e k => ⟨k _ e.1, e.2⟩⟩
theorem lam_ok {P : Program} {w : World} {H : Hp} {h : Heap} {f : Addr} {fd : FuncData} (x : h.get? f = some { cls := .type "function", data := .func fd }) : ObjOk P w H h f (LamO f fd) := ⟨x, ⟨_, x⟩, fun h1 h2 e k => k _ e⟩
theorem code_ok {P : Program} {w : World} {H : Hp} {h : Heap} {c : Addr} {q : Str} (x : h.CodeRec (.ref c) q) : ObjOk P w H h c (CodeO c q) := by
  obtain ⟨c', o, vs, t, e1, e2, e3⟩ := id x
  cases e1
  refine ⟨x, ⟨o, e2⟩, fun h1 h2 ⟨c', o', vs', t', f1, f2, f3⟩ k => ?_⟩
  cases f1
  exact ⟨c, o', vs', t', rfl, k _ f2, f3⟩
structure LamScope (ps : List Str) (y : Str) (sc : Scope) : Prop where
  kind : sc.kind = .function
  co : sc.isCoroutine = false
  gen : sc.isGenerator = false
  nd : (ps ++ [y]).Nodup
  par : ∀ x ∈ ps, sc.names.lookup x = some .local
  fre : sc.names.lookup y = some .free
  only : ∀ z ∈ sc.names, z.2 ≠ .cell ∧ (z.2 = .free → z.1 = y)
abbrev lamFd (qual : Str) (params : Arguments) (body : Expr) (scope : Scope) (y : Str) (c : Addr) (pm cd ct : Value) : FuncData := PySem.W.kla_fn "<lambda>" qual params body scope [(y, c)] pm cd ct
def cxL (P : Program) (w : World) (K : PySem.W.Frag) (mg : Str → Option Value) (base : Heap) (N : List Str) (qual : Str) (scope : Scope) (f : Addr) (cd : Value) (cl : List (Str × Addr)) (A : Around) (outer : List Env) (s : Shared) (H : Hp) : Cx where
  prog := P
  w := w
  K := K
  mg := mg
  base := base
  A := A.deeper (PySem.W.envX qual scope s.heap.objs.size f cd cl)
  N := N
  s₀ := s
  H₀ := H
  env := PySem.W.envX qual scope s.heap.objs.size f cd cl
  outer := outer
  stack := PySem.W.envX qual scope s.heap.objs.size f cd cl :: outer
  ex := []
  calm := true
  fn := fun _ => false
  pn := []
  xe := fun _ _ => False
theorem lookup_nodup {x : Str} {u : Value} : ∀ {l : List (Str × Value)}, (l.map (·.1)).Nodup → (x, u) ∈ l → l.lookup x = some u
  | (a, b) :: l, nd, h => by
    rw [List.map_cons, List.nodup_cons] at nd
    rw [List.lookup_cons]
    rcases List.mem_cons.mp h with e | e
    · cases e
      rw [beq_self_eq_true]
    · have ne : (x == a) = false := beq_eq_false_iff_ne.mpr fun q => nd.1 (List.mem_map.mpr ⟨(x, u), e, q⟩)
      rw [ne]
      exact lookup_nodup nd.2 e
theorem zip_lookup {ps : List Str} {us : List Value} {i : Nat} {x : Str} {u : Value} (nd : ps.Nodup) (h1 : ps[i]? = some x) (h2 : us[i]? = some u) : (ps.zip us).reverse.lookup x = some u := by
  refine lookup_nodup ?_ (List.mem_reverse.mpr (List.mem_iff_getElem?.mpr ⟨i, List.getElem?_zip_eq_some.mpr ⟨h1, h2⟩⟩))
  have sub : ∀ (ps : List Str) (us : List Value), ((ps.zip us).map (·.1)).Sublist ps := fun ps => by
    induction ps with
    | nil => intro us; simp
    | cons a ps ih =>
      intro us
      cases us with
      | nil => simp
      | cons b us => rw [List.zip_cons_cons, List.map_cons]; exact (ih us).cons₂ a
  rw [List.map_reverse]
  show List.Pairwise (· ≠ ·) _
  rw [List.pairwise_reverse]
  exact (nd.sublist (sub ps us)).imp Ne.symm
theorem lam_inv {P : Program} {w : World} {K : PySem.W.Frag} {mg : Str → Option Value} {base : Heap} {ps : List Str} {y qual : Str} {scope : Scope} {f c m : Addr} {cd : Value} {A : Around} {outer : List Env} {s : Shared} {H : Hp} {us : List Value} {vs : List V} {h1 : Heap} {tk : Nat}
    (S : LamScope ps y scope) (hd : A.handled = none) (e0 : Env0 P w K mg base A outer s H) (hl : vs.length = ps.length) (r : Vals vs us) (hc : H c = none) (ic : s.heap.IsCell c (some (.ref m)))
    (hns : h1.Ns s.heap.objs.size (fun x => (ps.zip us).reverse.lookup x)) (sb : Heap.SameBut s.heap.objs.size (s.heap.push { cls := .type "frame", data := .dict #[] }) h1) :
    Inv (cxL P w K mg base (ps ++ [y]) qual scope f cd [(y, c)] A outer s H) [] (vs.map some ++ [some (.ref m)]) H { s with heap := h1, toks := tk } := by
  have hk : ∀ b o, s.heap.get? b = some o → h1.get? b = some o := fun b o e => sb.extBut _ _ (Nat.ne_of_lt (Heap.lt_size e)) (Heap.get?_push_of_some _ e)
  have ic1 : h1.IsCell c (some (.ref m)) := let ⟨o, e, d⟩ := ic; ⟨o, hk _ _ e, d⟩
  have one : ∀ {x : Str} {d : Addr}, ([(y, c)] : List (Str × Addr)).lookup x = some d → x = y ∧ d = c := fun {x d} h => by
    rw [List.lookup_cons] at h
    cases q : x == y with
    | true => rw [q] at h; cases h; exact ⟨eq_of_beq q, rfl⟩
    | false => rw [q] at h; cases h
  have at_y : ([(y, c)] : List (Str × Addr)).lookup y = some c := by rw [List.lookup_cons, beq_self_eq_true]
  have noA : ∀ b : Addr, b ∉ (cxL P w K mg base (ps ++ [y]) qual scope f cd [(y, c)] A outer s H).ex := fun b z => absurd (show b ∈ ([] : List Addr) from z) (by simp)
  refine ⟨⟨e0.mod, S.kind, rfl, rfl, Nat.le_refl _, fun a b d h1 h2 => (one h1).1.trans (one h2).1.symm, fun a ha => ?_, fun a d h _ => absurd (show false = true from h) Bool.false_ne_true, fun _ => hd, Around.frames_deeper e0.frames, .inr ⟨rfl, rfl⟩, fun b z => absurd z (noA b), e0.bs, e0.bsz, fun b _ _ => noA b, fun b z => absurd z (noA b), e0.funs, e0.frf⟩,
    rfl, e0.bare, Un.kept hk, ⟨_, hns, fun i x v q1 q2 q3 => ?_⟩, fun a d h => ?_, e0.hok.fresh (Nat.le_refl _), fun a d h => ?_, fun p hp => absurd (show p ∈ ([] : List (Addr × Obj)) from hp) (by simp), e0.hok.kept hk, ?_⟩
  · have ha' : scope.names.lookup a = some .cell ∨ scope.names.lookup a = some .free := ha
    rcases ha' with z | z
    · exact absurd rfl (S.only _ (PySem.mem_of_lookup z)).1
    · have e := (S.only _ (PySem.mem_of_lookup z)).2 rfl
      exact ⟨c, by rw [show a = y from e]; exact at_y⟩
  · have q1' : (ps ++ [y])[i]? = some x := q1
    rcases Nat.lt_or_ge i ps.length with z | z
    · rw [List.getElem?_append_left z] at q1'
      rw [List.getElem?_append_left (by rw [List.length_map]; omega), List.getElem?_map] at q2
      cases e : vs[i]? with
      | none => rw [e] at q2; cases q2
      | some a =>
        rw [e] at q2
        cases q2
        obtain ⟨u, hu, rv⟩ := r.get e
        have kx := S.par x (List.mem_of_getElem? q1')
        refine ⟨u, rv, .inl ⟨kx, ?_⟩⟩
        exact zip_lookup (S.nd.sublist (List.sublist_append_left _ _)) q1' hu
    · rw [List.getElem?_append_right z] at q1'
      rw [List.getElem?_append_right (by rw [List.length_map]; omega), List.length_map] at q2
      have e : i - ps.length = 0 := by
        rcases Nat.eq_zero_or_pos (i - ps.length) with y0 | y0
        · exact y0
        · rw [List.getElem?_eq_none (by simp; omega)] at q1'; cases q1'
      rw [e] at q1'
      rw [hl, e] at q2
      cases q1'
      cases q2
      exact ⟨.ref m, rfl, .inr ⟨.inr S.fre, c, at_y, ic1⟩⟩
  · obtain ⟨rfl, rfl⟩ := one (show ([(y, c)] : List (Str × Addr)).lookup a = some d from h)
    exact ⟨_, ic1⟩
  · obtain ⟨rfl, rfl⟩ := one (show ([(y, c)] : List (Str × Addr)).lookup a = some d from h)
    exact hc
  · show (vs.map some ++ [some (V.ref m)]).length = (ps ++ [y]).length
    simp [hl]
theorem lam_fn {P : Program} {w : World} {K : PySem.W.Frag} {mg : Str → Option Value} {base : Heap} {k : Nat} {ps : List Str} {y qual : Str} {params : Arguments} {body : Expr} {scope : Scope} {f c m cc : Addr} {oc : Obj} {pm ct : Value} {sp : Sp}
    (S : LamScope ps y scope) (len : ∀ vs H Q E, sp vs H Q E → vs.length = ps.length) (here : ∀ vs H Q E, sp vs H Q E → H f = some (LamO f (lamFd qual params body scope y c pm (.ref cc) ct)) ∧ H c = some (CellO c m oc) ∧ H cc = some (CodeO cc qual))
    (hbody : ∀ (A : Around) (outer : List Env) (s : Shared) (H : Hp) (vs : List V) (Q : VK) (E : XK), Room k (A.deeper (PySem.W.envX qual scope s.heap.objs.size f (.ref cc) [(y, c)])) → sp vs H Q E →
      ∃ t, PE (cxL P w K mg base (ps ++ [y]) qual scope f (.ref cc) [(y, c)] A outer s (drop H c)) body t ∧ t (vs.map some ++ [some (.ref m)]) (drop H c) fun v H' => H' c = none → Q v (upd H' c (CellO c m oc))) :
    FnOk P w K mg base CX0 (k + 1) f (lamFd qual params body scope y c pm (.ref cc) ct) ps sp := by
  refine ⟨len, fun A outer s H args us vs Q E hr e0 hb r hsp => ?_⟩
  obtain ⟨hf, hc, hcc⟩ := here _ _ _ _ hsp
  have hl := len _ _ _ _ hsp
  obtain ⟨ef, _, _⟩ := e0.hok f _ hf
  obtain ⟨ecell, _, _⟩ := e0.hok c _ hc
  obtain ⟨ecode, _, _⟩ := e0.hok cc _ hcc
  have e1 : Env0 P w K mg base A outer s (drop H c) := ⟨e0.frames, e0.mod, fun b o e => ⟨(e0.bs b o e).1, drop_none (e0.bs b o e).2⟩, e0.bsz, e0.funs, fun b hb => drop_none (e0.frf b hb), e0.hok.drop hc, e0.bare⟩
  have lim : s.heap.NoLimit := e0.mod.nolimit.keeps fun b o e => (e0.bs b o e).1
  refine PySem.W.kla_callFunE hr.depth ef rfl S.co S.gen rfl ecode (hb _ _ _ _ ?_)
  refine wpAny_newFunctionEnv (fun x hx => (S.only x hx).1) (fun x hx => S.par _ (List.of_mem_zip hx).1) (fun h1 hns sb => ?_) S.kind
  have hk : ∀ b o, s.heap.get? b = some o → h1.get? b = some o := fun b o e => sb.extBut _ _ (Nat.ne_of_lt (Heap.lt_size e)) (Heap.get?_push_of_some _ e)
  refine ⟨lim.keeps hk, PySem.W.kla_codeExpr ?_⟩
  obtain ⟨t, ht, hq⟩ := hbody A outer s H vs Q E (hr.deeper _) hsp
  have I : Inv (cxL P w K mg base (ps ++ [y]) qual scope f (.ref cc) [(y, c)] A outer s (drop H c)) [] (vs.map some ++ [some (.ref m)]) (drop H c) { s with heap := h1, toks := s.toks + (ps.zip us).length } := lam_inv S hr.hd e1 hl r drop_same ⟨oc, ecell⟩ hns sb
  refine wpAny_mono (ht [] _ _ _ _ I hq) (fun v s' ⟨x, H', J, rx, q⟩ => ?_) fun e s' z => False.elim z
  have Hc : H' c = none := J.freeC y c (by show ([(y, c)] : List (Str × Addr)).lookup y = some c; rw [List.lookup_cons, beq_self_eq_true])
  have ec' : s'.heap.get? c = some oc := J.base.keep c oc ecell.1 drop_same (fun z => ?_) (by simp [cxL])
  · refine ⟨x, upd H' c (CellO c m oc), J.os, J.bare, ⟨fun b o e n hb _ => ?_, fun b o e n hb _ => ?_, fun b o e n _ => ?_, fun b o e _ => J.base.there b o e (by simp [cxL]), fun b xs e => ?_, fun b o u e => ?_, fun b ps e => ?_⟩, J.hok.back Hc (cell_ok ec' ecell.2), rx, q Hc⟩
    · exact J.base.keep b o e (drop_none n) hb (by simp [cxL])
    · exact J.base.slot b o e (drop_none n) hb (by simp [cxL])
    · have nb : b ≠ c := fun z => by rw [z, hc] at n; cases n
      rw [upd_ne nb]
      exact J.base.free b o e (drop_none n) (by simp [cxL])
    · have nb : b ≠ c := fun z => by rw [z, hc] at e; cases e
      rw [upd_ne nb]
      exact J.base.tups b xs (by show drop H c b = _; rw [drop_ne nb]; exact e)
    · have nb : b ≠ c := fun z => by rw [z, hc] at e; cases e
      rw [upd_ne nb]
      exact J.base.frzs b o u (by show drop H c b = _; rw [drop_ne nb]; exact e)
    · have nb : b ≠ c := fun z => by rw [z, hc] at e; cases e
      rw [upd_ne nb]
      exact J.base.tbls b ps (by show drop H c b = _; rw [drop_ne nb]; exact e)
  · have := e0.frf c z
    rw [hc] at this
    cases this
end L2
namespace L2
open PySem PySem.Spec PyProof.Rows
section
variable {X : Cx}
def tCallV (X : Cx) (i : Nat) (t : TA) : TE := fun σ H Q => tVar i σ H fun v H0 => ∃ st fd, v = .ref st ∧ H0 st = some (LamO st fd) ∧ t σ H0 fun vs H1 => H1 st = some (LamO st fd) ∧ ∃ k ps sp, FnOk X.prog X.w X.K X.mg X.base CX0 k st fd ps sp ∧ Room k X.A ∧ Binds X.K fd ps [] ∧ sp vs H1 Q E0
theorem lam_at {pins : List (Addr × Obj)} {σ : St} {H : Hp} {s : Shared} {st : Addr} {fd : FuncData} (I : Inv X pins σ H s) (h : H st = some (LamO st fd)) : PySem.W.FnAt st s.heap := by
  obtain ⟨e, _, _⟩ := I.hok st _ h
  exact ⟨_, _, _, _, e⟩
theorem pe_callV (i : Nat) {x : Str} {e : Expr} {es : List Expr} {t : TA} {p pos : Pos} (hv : PE X (.Name x p) (tVar i)) (ha : PA X (e :: es) t) (he : starEach (e :: es) X.env = (false, eval e X.env) :: starEach es X.env := by rfl) (hpl : (backTo pos (starEach es X.env)).any (·.1) = false := by rfl) :
    PE X (.Call (.Name x p) (e :: es) [] pos) (tCallV X i t) := by
  intro pins s σ H Q I h
  refine wpAny_Call_Name_kw (thn (hv pins s σ H _ I h) fun u s1 ⟨v, H0, I0, rv, st, fd, ev, e0, q⟩ => ?_)
  subst ev
  cases rv
  refine PySem.W.callWith_F (lam_at I0 e0) (thn (ha pos pins s1 σ H0 _ I0 q) fun us s2 zq => ?_) he hpl
  obtain ⟨vs, H1, I1, r, e1, k, ps, sp, F, hr, hb, q2⟩ := zq
  refine ⟨lam_at I1 e1, ?_⟩
  have z := run_fn (dvs := []) (ds := []) F hr hb .nil pass0 I1 r (by rw [List.append_nil]; exact q2)
  exact z
def tCallC (sp : Sp) (dvs : List V) (j : Nat) (c : Addr) (t : TA) : TE := fun σ H Q => t σ H fun vs H1 => ∃ m, σ[j]? = some (some (.ref m)) ∧ ∀ oc, H1 c = none → sp (vs ++ dvs) (upd H1 c (CellO c m oc)) (fun r H2 => H2 c = some (CellO c m oc) ∧ Q r (drop H2 c)) E0
theorem Inv.afterC {pins : List (Addr × Obj)} {σ : St} {H : Hp} {s s' : Shared} {c m : Addr} {oc : Obj} {Q : VK} {u : Value} (I : Inv X pins σ H s) (hc : H c = none) (ec : s.heap.get? c = some oc)
    (h : CE X.stack X.prog X.w (upd H c (CellO c m oc)) s (fun r H2 => H2 c = some (CellO c m oc) ∧ Q r (drop H2 c)) u s') : EP X pins σ Q u s' := by
  obtain ⟨v, H2, os, bare, un, hok, rv, e2, q⟩ := h
  obtain ⟨⟨ec', _⟩, _, _⟩ := hok c _ e2
  refine I.after ⟨v, drop H2 c, os, bare, ⟨fun b o e n hb he => ?_, fun b o e n hb he => ?_, fun b o e n he => ?_, un.there, fun b xs e => ?_, fun b o w e => ?_, fun b ps e => ?_⟩, hok.drop e2, rv, q⟩
  · by_cases z : b = c
    · subst z
      rw [ec] at e
      cases e
      exact ec'
    · exact un.keep b o e (by rw [upd_ne z]; exact n) hb he
  · by_cases z : b = c
    · subst z
      rw [ec] at e
      cases e
      exact ⟨oc.slots, ec'⟩
    · exact un.slot b o e (by rw [upd_ne z]; exact n) hb he
  · by_cases z : b = c
    · rw [z]; exact drop_same
    · exact drop_none (un.free b o e (by rw [upd_ne z]; exact n) he)
  · have z : b ≠ c := fun z => by rw [z, hc] at e; cases e
    rw [drop_ne z]
    exact un.tups b xs (by rw [upd_ne z]; exact e)
  · have z : b ≠ c := fun z => by rw [z, hc] at e; cases e
    rw [drop_ne z]
    exact un.frzs b o w (by rw [upd_ne z]; exact e)
  · have z : b ≠ c := fun z => by rw [z, hc] at e; cases e
    rw [drop_ne z]
    exact un.tbls b ps (by rw [upd_ne z]; exact e)
end
end L2
namespace L2
open PySem PySem.Spec PyProof.Rows
section
variable {X : Cx}
def BMain (mg : Str → Option Value) (h : Heap) : Prop := ∃ bm o, mg "__builtins__" = some (.ref bm) ∧ bm ≠ builtinsNs ∧ h.get? bm = some o ∧ o.cls = .type "module" ∧ o.dict = some builtinsNs ∧ o.data = .plain
abbrev triple (pos : Pos) (cc : Addr) : Array Value := #[rawInt pos.line, rawInt pos.col, .ref cc]
def tLam (P : Addr) (qual : Str) (params : Arguments) (body : Expr) (scope : Scope) (y : Str) (c : Addr) (pm : Value) (pos : Pos) : TE := fun _ H Q =>
  (H P = some (.tbl #[]) ∧ ∀ fl cc ct, H fl = none → H cc = none → fl ≠ cc → Q (.ref fl) (upd (upd (upd H P (.tbl (triple pos cc))) cc (CodeO cc qual)) fl (LamO fl (lamFd qual params body scope y c pm (.ref cc) ct)))) ∨
  ∃ cc, H P = some (.tbl (triple pos cc)) ∧ H cc = some (CodeO cc qual) ∧ ∀ fl ct, H fl = none → Q (.ref fl) (upd H fl (LamO fl (lamFd qual params body scope y c pm (.ref cc) ct)))
theorem pe_lam {P cd c : Addr} {qual y : Str} {params : Arguments} {body : Expr} {scope : Scope} {pos : Pos} (hcd : X.env.code = .ref cd) (C : PySem.W.CodeHd X.base cd P) (bm : BMain X.mg X.base) (hcl : ∀ pins σ H s, Inv X pins σ H s → closureFor scope X.env = pure [(y, c)])
    (hdf : defaultsOf params X.env = ([], [])) (hq : X.env.qual ++ "<lambda>" = qual) : PE X (.Lambda params body scope pos) (tLam P qual params body scope y c ((X.mg "__name__").getD .none) pos) := by
  intro pins s σ H Q I h
  rw [arm_eval_Lambda, hdf, hq]
  have C' : PySem.W.CodeHd s.heap cd P := C.keeps I.bk
  have hg : s.heap.Ns mainGlobals X.mg := I.mod.glob.keeps I.bk
  refine wpAny_bind (m := evalAll []) (wpAny_pure (wpAny_bind (m := holding _ (evalAllOpt [])) (wpAny_holding (wpAny_pure ?_))))
  have track : ∀ ps, H P = some (.tbl ps) → s.heap.get? P = some (PySem.W.tabObj ps) ∧ mainGlobals ≠ P ∧ s.heap.BuiltinsAt X.mg P := fun ps e => by
    have eP : s.heap.get? P = some (PySem.W.tabObj ps) := I.hok P _ e
    have ng : mainGlobals ≠ P := fun z => by
      obtain ⟨o, es, ep, e1, _⟩ := I.mod.glob
      have := (I.bs _ _ e1).2
      rw [z, e] at this
      cases this
    obtain ⟨b, o, b1, b2, b3, b4, b5, b6⟩ := bm
    refine ⟨eP, ng, b, o, b1, b2, fun z => ?_, fun z => ?_, I.bk _ _ b3, b4, b5, b6⟩
    · obtain ⟨o', es, ep, e1, d1, _⟩ := I.mod.glob
      rw [z, e1] at b3
      cases b3
      rw [d1] at b6
      cases b6
    · have := (I.bs _ _ b3).2
      rw [z, e] at this
      cases this
  rcases h with ⟨e, q⟩ | ⟨cc, e, ecc, q⟩
  · obtain ⟨eP, ng, hb⟩ := track _ e
    refine PySem.W.kla_makeFunction (hcl pins σ H s I) I.ok.glob hg hcd C' eP (by trivial) rfl ng hb fun cc ct h' tk hx hge hlt hrec htb => ?_
    have hcc : H cc = none := I.hok.fresh hge
    have hfl : H h'.objs.size = none := I.hok.fresh (Nat.le_trans hge (Nat.le_of_lt hlt))
    have nPc : P ≠ cc := ne_of_none e hcc
    have nPf : P ≠ h'.objs.size := ne_of_none e hfl
    have nfc : h'.objs.size ≠ cc := Nat.ne_of_gt hlt
    generalize eo : PySem.W.kla_obj "<lambda>" qual params body scope [(y, c)] ((X.mg "__name__").getD .none) cc ct = ob
    have old : ∀ b u, H b = some u → b ≠ cc ∧ b ≠ h'.objs.size := fun b u z => ⟨ne_of_none z hcc, ne_of_none z hfl⟩
    have far : ∀ b o, s.heap.get? b = some o → b ≠ cc ∧ b ≠ h'.objs.size := fun b o z => ⟨Nat.ne_of_lt (Nat.lt_of_lt_of_le (Heap.lt_size z) hge), Nat.ne_of_lt (Nat.lt_of_lt_of_le (Heap.lt_size z) (Nat.le_trans hge (Nat.le_of_lt hlt)))⟩
    have kp : ∀ b o, b ≠ P → s.heap.get? b = some o → (h'.push ob).get? b = some o := fun b o n z => Heap.get?_push_of_some _ (hx b o n z)
    have at3 : ∀ b, b ≠ P → b ≠ cc → b ≠ h'.objs.size → upd (upd (upd H P (.tbl (triple pos cc))) cc (CodeO cc qual)) h'.objs.size (LamO h'.objs.size (lamFd qual params body scope y c ((X.mg "__name__").getD .none) (.ref cc) ct)) b = H b := fun b n1 n2 n3 => by rw [upd_ne n3, upd_ne n2, upd_ne n1]
    have atP : upd (upd (upd H P (.tbl (triple pos cc))) cc (CodeO cc qual)) h'.objs.size (LamO h'.objs.size (lamFd qual params body scope y c ((X.mg "__name__").getD .none) (.ref cc) ct)) P = some (.tbl (triple pos cc)) := by rw [upd_ne nPf, upd_ne nPc, upd_same]
    have tP : (h'.push ob).get? P = some (PySem.W.tabObj (triple pos cc)) := by
      refine Heap.get?_push_of_some _ ?_
      rw [htb]
      rfl
    refine ⟨.ref h'.objs.size, _, ?_, rfl, q h'.objs.size cc ct hfl hcc nfc⟩
    refine I.step (ch := []) (fun _ z => nomatch z) (fun b o _ _ _ z n => kp b o (fun w => by rw [w, e] at n; cases n) z) (fun b o _ _ _ z n => ⟨o.slots, kp b o (fun w => by rw [w, e] at n; cases n) z⟩)
      (fun b o _ z n => ?_) (fun b o _ z => ?_) (fun b xs z => ?_) (fun b o u z => ?_) (fun b ps z => ?_) (fun m hm => ?_) (fun b u z => ?_) I.bare
    · rw [at3 b (fun w => by rw [w, e] at n; cases n) (far b o z).1 (far b o z).2]; exact n
    · by_cases w : b = P
      · rw [w]; exact ⟨_, tP⟩
      · exact ⟨o, kp b o w z⟩
    · rw [at3 b (fun w => by rw [w, e] at z; cases z) (old b _ z).1 (old b _ z).2]; exact z
    · rw [at3 b (fun w => by rw [w, e] at z; cases z) (old b _ z).1 (old b _ z).2]; exact z
    · by_cases w : b = P
      · subst w
        rw [e] at z
        cases z
        exact ⟨triple pos cc, by rw [atP]; rfl⟩
      · exact ⟨#[], by rw [at3 b w (old b _ z).1 (old b _ z).2, z]; simp⟩
    · exact hm.at' fun o z => kp _ o (fun w => by have := I.free; rw [w, e] at this; cases this) z
    · by_cases w3 : b = h'.objs.size
      · rw [w3, upd_same] at z
        cases z
        rw [w3]
        exact lam_ok (by rw [← eo]; exact Heap.get?_push_size _ rfl)
      · by_cases w2 : b = cc
        · rw [w2, upd_ne nfc.symm, upd_same] at z
          cases z
          rw [w2]
          exact code_ok (hrec.push _)
        · by_cases w1 : b = P
          · rw [w1, atP] at z
            cases z
            rw [w1]
            exact tP
          · rw [at3 b w1 w2 w3] at z
            refine (I.hok b u z).stay (fun d o hd y => kp d o (fun w => ?_) y) (fun d y => ?_) fun d xs y => ?_
            · rcases hd with v | v
              · exact w1 (v.symm.trans w)
              · rw [w, e] at v; cases v
            · rw [at3 d (fun w => by rw [w, e] at y; cases y) (old d _ y).1 (old d _ y).2]; exact y
            · rw [at3 d (fun w => by rw [w, e] at y; cases y) (old d _ y).1 (old d _ y).2]; exact y
  · obtain ⟨eP, ng, hb⟩ := track _ e
    have found : codeAmong pos (triple pos cc).toList = some (.ref cc) := by
      show (if ((pos.line : Int) == (pos.line : Int) && (pos.col : Int) == (pos.col : Int)) = true then _ else _) = _
      rw [if_pos (by simp)]
    refine PySem.W.kla_makeFunctionHit (hcl pins σ H s I) I.ok.glob hg hcd C' eP (by trivial) found hb fun ct h' tk keep sz => ?_
    have I1 : Inv X pins σ H { s with heap := h', toks := tk } := I.kept keep
    have I2 : Inv X pins σ H { s with heap := h'.push { cls := .type "function", data := .func (lamFd qual params body scope y c ((X.mg "__name__").getD .none) (.ref cc) ct) }, toks := tk } := I1.kept fun b o z => Heap.get?_push_of_some _ z
    have ok : ObjOk X.prog X.w (upd H h'.objs.size (LamO h'.objs.size (lamFd qual params body scope y c ((X.mg "__name__").getD .none) (.ref cc) ct))) (h'.push { cls := .type "function", data := .func (lamFd qual params body scope y c ((X.mg "__name__").getD .none) (.ref cc) ct) }) h'.objs.size (LamO h'.objs.size (lamFd qual params body scope y c ((X.mg "__name__").getD .none) (.ref cc) ct)) := lam_ok (Heap.get?_push_size _ rfl)
    exact ⟨.ref h'.objs.size, _, Inv.trackNew I1 I2 ok, rfl, q _ ct I1.fresh⟩
end
end L2
namespace L2
open PySem PySem.Spec PyProof.Rows
def hpT (K : PySem.W.Frag) (tabs : List Addr) (a : Addr) (o : Obj) (ns : List Int) : Hp := fun b => if b ∈ tabs then some (.tbl #[]) else if b = a ∧ K.lookup a = none then some (.frz o (.lst (ns.map V.int))) else none
theorem law_callT {P : Program} {w : World} {K : PySem.W.Frag} {mg mb : Str → Option Value} {k : Nat} {fa a : Addr} {fd : FuncData} {x : Str} {sp : Sp} {s₁ : Shared} {vs : List Value} {ns : List Int} {tabs : List Addr}
    (KX : K.In s₁.heap) (hns : s₁.heap.Ns mainGlobals mg) (hb : s₁.heap.Ns builtinsNs mb) (hbb : ∀ x : Str, x ≠ "__name__" → mb x = bootBuiltins x) (hlim : s₁.heap.NoLimit) (hg : s₁.gens = #[]) (hbm : BMain mg s₁.heap)
    (ha : s₁.heap.get? a = some { cls := .type "list", data := .seq vs.toArray }) (hi : IntsAre vs ns) (hl : ns.length ≤ sizeLine) (hr : Room k callerA) (hT : ∀ q ∈ tabs, K.lookup q = none ∧ ∃ c, s₁.heap.TableAt c q #[])
    (F : ∀ base : Heap, K.In base → base.Ns mainGlobals mg → BMain mg base → FnOk P w K mg base CX0 k fa fd [x] sp) (hbind : ∀ (s : Shared) (u : Value), BindsTo s fd ⟨[u], []⟩ [(x, u)])
    (hsp : ∀ H : Hp, (∀ q ∈ tabs, H q = some (.tbl #[])) → SqL K H a (ns.map V.int) → sp [.ref a] H (fun v _ => v = .bl true) fun _ _ _ => False) :
    codeAny (model P w) callerA (.call (.ref fa) ⟨[.ref a], []⟩) (fun r s' => r = .ok (.ret (.bool true)) ∧ OldK s₁.heap s'.heap ∧ s'.os = s₁.os ∧ AllBare s'.gens) s₁ := by
  have rv := vals_ints hi
  have lenV := hi.length
  have tabO : ∀ q ∈ tabs, s₁.heap.get? q = some (PySem.W.tabObj #[]) := fun q hq => let ⟨_, c, t⟩ := hT q hq; t.2
  have na : a ∉ tabs := fun hq => by
    have := tabO a hq
    rw [ha] at this
    cases this
  generalize eH : hpT K tabs a { cls := .type "list", data := .seq vs.toArray } ns = H
  have inT : ∀ q ∈ tabs, H q = some (.tbl #[]) := fun q hq => by rw [← eH]; exact if_pos hq
  have outT : ∀ b, b ∉ tabs → H b = if b = a ∧ K.lookup a = none then some (.frz { cls := .type "list", data := .seq vs.toArray } (.lst (ns.map V.int))) else none := fun b hb => by rw [← eH]; exact if_neg hb
  -- what is tracked is a table or the script
  have what : ∀ b u, H b = some u → (b ∈ tabs ∧ u = .tbl #[]) ∨ (b = a ∧ K.lookup a = none ∧ u = .frz { cls := .type "list", data := .seq vs.toArray } (.lst (ns.map V.int))) := fun b u e => by
    by_cases hb : b ∈ tabs
    · rw [inT b hb] at e
      cases e
      exact .inl ⟨hb, rfl⟩
    · rw [outT b hb] at e
      by_cases h : b = a ∧ K.lookup a = none
      · rw [if_pos h] at e
        cases e
        exact .inr ⟨h.1, h.2, rfl⟩
      · rw [if_neg h] at e
        cases e
  have hok : HOk P w H s₁.heap := fun b u e => by
    rcases what b u e with ⟨hb, rfl⟩ | ⟨rfl, _, rfl⟩
    · exact tabO b hb
    · exact ⟨ha, by rw [List.length_map]; exact hl, vs, _, rv, ha⟩
  have hS : SqL K H a (ns.map V.int) := by
    cases hk : K.lookup a with
    | some o =>
      have e := KX a o hk
      rw [ha] at e
      cases e
      exact .inr ⟨_, vs.toArray, _, hk, rfl, rfl, rfl, by rw [List.size_toArray, lenV]; exact hl, by simpa using rv⟩
    | none => exact .inl (.inr ⟨{ cls := .type "list", data := .seq vs.toArray }, by rw [outT a na, if_pos ⟨rfl, hk⟩]⟩)
  -- what is no list and no table stays in the base
  have free : ∀ {b : Addr} {o : Obj}, s₁.heap.get? b = some o → o.cls ≠ .none → (∀ its n, o.data ≠ .seq its n) → H b = none := fun {b o} e hc hd => by
    cases q : H b with
    | none => rfl
    | some u =>
      rcases what b u q with ⟨hb, _⟩ | ⟨rfl, _, _⟩
      · rw [tabO b hb] at e
        cases e
        exact absurd rfl hc
      · rw [ha] at e
        cases e
        exact absurd rfl (hd _ _)
  have nsK : ∀ {b : Addr} {m : Str → Option Value}, s₁.heap.Ns b m → (hidT s₁.heap H).Ns b m := fun {b m} ⟨o, es, ep, e, d, r⟩ => by
    refine ⟨o, es, ep, hidT_get e ?_, d, r⟩
    cases q : H b with
    | none => rfl
    | some u =>
      rcases what b u q with ⟨hb, _⟩ | ⟨rfl, _, _⟩
      · rw [tabO b hb] at e
        cases e
        cases d
      · rw [ha] at e
        cases e
        cases d
  have hKb : K.In (hidT s₁.heap H) := fun b o e => hidT_get (KX b o e) (by
    cases q : H b with
    | none => rfl
    | some u =>
      rcases what b u q with ⟨hb, _⟩ | ⟨rfl, hk, _⟩
      · rw [(hT b hb).1] at e
        cases e
      · rw [hk] at e
        cases e)
  have hBb : BMain mg (hidT s₁.heap H) := by
    obtain ⟨bm, o, b1, b2, b3, b4, b5, b6⟩ := hbm
    exact ⟨bm, o, b1, b2, hidT_get b3 (free b3 (by rw [b4]; nofun) (fun its n z => by rw [b6] at z; cases z)), b4, b5, b6⟩
  have hM : Mod K mg (hidT s₁.heap H) := ⟨hKb, nsK hns, ⟨mb, nsK hb, hbb⟩, let ⟨mc, h1, h2⟩ := hlim; ⟨mc, nsK h1, h2⟩⟩
  have e0 : Env0 P w K mg (hidT s₁.heap H) callerA [] s₁ H := ⟨rfl, hM, fun b o e => of_hidT e, Nat.le_of_eq (hidT_size _ _), trivial, fun b hb => absurd (show b ∈ ([] : List Addr) from hb) (by simp), hok, .of_eq hg⟩
  refine codeAny_mono ((F _ hKb (nsK hns) hBb).run callerA [] s₁ H ⟨[.ref a], []⟩ [.ref a] [.ref a] _ _ hr e0 (hbind s₁ (.ref a)) (.cons rfl .nil) (hsp H inT hS)) fun r s' h => ?_
  cases r with
  | error e => exact h.elim
  | ok fl =>
    cases fl with
    | next => exact False.elim h
    | brk => exact False.elim h
    | cont => exact False.elim h
    | ret u =>
      obtain ⟨v, H', os, bare, un, hok', r', q⟩ := h
      have q' : v = .bl true := q
      subst q'
      obtain rfl : u = Value.bool true := r'
      refine ⟨rfl, ⟨fun b o e => ?_, fun b o e => un.there b o e (by simp)⟩, os, bare⟩
      cases z : H b with
      | none => exact .inl (un.keep b o e z (by intro y; exact absurd (show b ∈ ([] : List Addr) from y) (by simp)) (by simp))
      | some u =>
        rcases what b u z with ⟨hb, rfl⟩ | ⟨rfl, _, rfl⟩
        · obtain ⟨more, z2⟩ := un.tbls b _ z
          have e2 : s'.heap.get? b = some (PySem.W.tabObj (#[] ++ more)) := hok' b _ z2
          rw [tabO b hb] at e
          cases e
          obtain ⟨_, c, t⟩ := hT b hb
          exact .inr (.inl ⟨t.isCodeTable, rfl, #[], more, rfl, e2⟩)
        · obtain ⟨e2, _⟩ := hok' b _ (un.frzs b _ _ z)
          rw [ha] at e
          cases e
          exact .inl e2
end L2
namespace L2
def sl (u v : List Nat) : Prop := u.length < v.length ∨ (u.length = v.length ∧ ltl u v = true)
theorem ltl_cons_ne {a b : Nat} {xs ys : List Nat} (h : a ≠ b) : ltl (a :: xs) (b :: ys) = decide (a < b) := by
  unfold ltl
  rw [ltlO, if_neg h]
  rfl
theorem ltl_cons {a : Nat} {xs ys : List Nat} : ltl (a :: xs) (a :: ys) = ltl xs ys := by
  unfold ltl
  rw [ltlO, if_pos rfl]
  cases ltlO xs ys with
  | none => simp
  | some b => rfl
theorem ltl_trans : ∀ {xs ys zs : List Nat}, xs.length = ys.length → ys.length = zs.length → ltl xs ys = true → ltl ys zs = true → ltl xs zs = true
  | [], [], _, _, _, h, _ => by rw [ltl_irr] at h; cases h
  | [], _ :: _, _, h, _, _, _ => by simp at h
  | _ :: _, [], _, h, _, _, _ => by simp at h
  | _ :: _, _ :: _, [], _, h, _, _ => by simp at h
  | a :: xs, b :: ys, c :: zs, h1, h2, h3, h4 => by
    by_cases ab : a = b
    · subst ab
      rw [ltl_cons] at h3
      by_cases bc : a = c
      · subst bc
        rw [ltl_cons] at h4 ⊢
        exact ltl_trans (by simpa using h1) (by simpa using h2) h3 h4
      · rw [ltl_cons_ne bc] at h4 ⊢
        exact h4
    · rw [ltl_cons_ne ab] at h3
      have h3' : a < b := of_decide_eq_true h3
      by_cases bc : b = c
      · subst bc
        rw [ltl_cons_ne ab]
        exact h3
      · rw [ltl_cons_ne bc] at h4
        have h4' : b < c := of_decide_eq_true h4
        rw [ltl_cons_ne (by omega)]
        exact decide_eq_true (by omega)
theorem ltl_behind : ∀ {xs ys us vs : List Nat}, xs.length = ys.length → ltl xs ys = true → ltl (xs ++ us) (ys ++ vs) = true
  | [], [], _, _, _, h => by rw [ltl_irr] at h; cases h
  | [], _ :: _, _, _, h, _ => by simp at h
  | _ :: _, [], _, _, h, _ => by simp at h
  | a :: xs, b :: ys, us, vs, h1, h2 => by
    by_cases ab : a = b
    · subst ab
      rw [List.cons_append, List.cons_append, ltl_cons]
      rw [ltl_cons] at h2
      exact ltl_behind (by simpa using h1) h2
    · rw [List.cons_append, List.cons_append, ltl_cons_ne ab]
      rw [ltl_cons_ne ab] at h2
      exact h2
theorem ltl_last (xs : List Nat) {a b : Nat} (h : a < b) : ltl (xs ++ [a]) (xs ++ [b]) = true := by
  induction xs with
  | nil => exact (ltl_cons_ne (by omega)).trans (decide_eq_true h)
  | cons x xs ih => rw [List.cons_append, List.cons_append, ltl_cons]; exact ih
theorem sl_trans {u v x : List Nat} (h1 : sl u v) (h2 : sl v x) : sl u x := by
  rcases h1 with h1 | ⟨e1, l1⟩ <;> rcases h2 with h2 | ⟨e2, l2⟩
  · exact .inl (by omega)
  · exact .inl (by omega)
  · exact .inl (by omega)
  · exact .inr ⟨by omega, ltl_trans e1 e2 l1 l2⟩
theorem sl_irr {u : List Nat} (h : sl u u) : False := by
  rcases h with h | ⟨_, h⟩
  · omega
  · rw [ltl_irr] at h; cases h
theorem sl_snoc {u v : List Nat} {a b : Nat} (h : sl u v) : sl (u ++ [a]) (v ++ [b]) := by
  rcases h with h | ⟨e, l⟩
  · exact .inl (by simp; omega)
  · exact .inr ⟨by simp [e], ltl_behind e l⟩
theorem sl_last (u : List Nat) {a b : Nat} (h : a < b) : sl (u ++ [a]) (u ++ [b]) := .inr ⟨by simp, ltl_last u h⟩
def sle (u v : List Nat) : Prop := u = v ∨ sl u v
theorem sle_trans {u v x : List Nat} (h1 : sle u v) (h2 : sle v x) : sle u x := by
  rcases h1 with rfl | h1
  · exact h2
  · rcases h2 with rfl | h2
    · exact .inr h1
    · exact .inr (sl_trans h1 h2)
theorem sle_snoc {u v : List Nat} {a : Nat} (h : sle u v) : sle (u ++ [a]) (v ++ [a]) := by
  rcases h with rfl | h
  · exact .inl rfl
  · exact .inr (sl_snoc h)
section
variable (f : List Nat → Nat → List Nat) (L : Nat) (x0 : List Nat)
abbrev TW := List (List Nat × List Nat)
def goes (word : List Nat) : List Nat := word.foldl f x0
def Goes (ws : TW) (p : List Nat × List Nat) (l : Nat) : Prop := ∃ u, (f p.1 l, u) ∈ ws ∧ sle u (p.2 ++ [l])
structure Told (ws : TW) : Prop where
  head : ws[0]? = some (x0, [])
  keys : (ws.map (·.1)).Nodup
  run : ∀ p ∈ ws, (∀ l ∈ p.2, l < L) ∧ goes f x0 p.2 = p.1
  up : ws.Pairwise fun p q => sl p.2 q.2
  all : ∀ p ∈ ws, ∀ l, l < L → Goes f ws p l
  short : ∀ p ∈ ws, p.2.length < ws.length
structure Bfs (d : Nat) (ws wv fo : TW) (i j : Nat) : Prop where
  head : ws[0]? = some (x0, [])
  keys : (ws.map (·.1)).Nodup
  run : ∀ p ∈ ws, (∀ l ∈ p.2, l < L) ∧ goes f x0 p.2 = p.1
  up : ws.Pairwise fun p q => sl p.2 q.2
  len : ∀ p ∈ ws, p.2.length ≤ d + 1
  wave : ∀ p ∈ wv, p ∈ ws ∧ p.2.length = d
  wup : wv.Pairwise fun p q => sl p.2 q.2
  foll : ∀ p ∈ fo, p ∈ ws ∧ p.2.length = d + 1
  fup : fo.Pairwise fun p q => sl p.2 q.2
  front : ∀ p ∈ ws, ∀ t, wv[i]? = some t → sl p.2 (t.2 ++ [j])
  done : ∀ p ∈ ws, p ∈ fo ∨ (∃ a, i ≤ a ∧ wv[a]? = some p) ∨ ∀ l, l < L → Goes f ws p l
  part : ∀ t, wv[i]? = some t → ∀ l, l < j → Goes f ws t l
  short : ∀ p ∈ ws, p.2.length < ws.length
variable {f L x0} {d i j : Nat} {ws wv fo : TW} {t : List Nat × List Nat}
theorem Goes.more {p q : List Nat × List Nat} {l : Nat} (h : Goes f ws p l) : Goes f (ws ++ [q]) p l := by
  obtain ⟨u, h1, h2⟩ := h
  exact ⟨u, List.mem_append_left _ h1, h2⟩
theorem Bfs.start : Bfs f L x0 0 [(x0, [])] [(x0, [])] [] 0 0 where
  head := rfl
  keys := by simp
  run := fun p hp => by
    rw [List.mem_singleton.mp hp]
    exact ⟨fun _ h => (nomatch h), rfl⟩
  up := List.pairwise_singleton _ _
  len := fun p hp => by rw [List.mem_singleton.mp hp]; simp
  wave := fun p hp => ⟨hp, by rw [List.mem_singleton.mp hp]; rfl⟩
  wup := List.pairwise_singleton _ _
  foll := fun _ h => nomatch h
  fup := .nil
  front := fun p hp t _ => by
    rw [List.mem_singleton.mp hp]
    exact .inl (by simp)
  done := fun p hp => .inr (.inl ⟨0, Nat.le_refl _, by rw [List.mem_singleton.mp hp]; rfl⟩)
  part := fun _ _ _ h => absurd h (Nat.not_lt_zero _)
  short := fun p hp => by rw [List.mem_singleton.mp hp]; simp
theorem Bfs.old (b : Bfs f L x0 d ws wv fo i j) (ht : wv[i]? = some t) (hm : f t.1 j ∈ ws.map (·.1)) : Bfs f L x0 d ws wv fo i (j + 1) := by
  obtain ⟨p, hp, e⟩ := List.mem_map.mp hm
  refine { b with front := fun q hq t' ht' => ?_, part := fun t' ht' l hl => ?_ }
  · exact sl_trans (b.front q hq t' ht') (sl_last _ (Nat.lt_succ_self _))
  · rcases Nat.lt_succ_iff_lt_or_eq.mp hl with hl | rfl
    · exact b.part t' ht' l hl
    · rw [ht] at ht'
      cases ht'
      exact ⟨p.2, by rw [← e]; exact hp, .inr (b.front p hp t ht)⟩
theorem Bfs.new (b : Bfs f L x0 d ws wv fo i j) (ht : wv[i]? = some t) (hj : j < L) (hm : f t.1 j ∉ ws.map (·.1)) :
    Bfs f L x0 d (ws ++ [(f t.1 j, t.2 ++ [j])]) wv (fo ++ [(f t.1 j, t.2 ++ [j])]) i (j + 1) := by
  obtain ⟨tw, tl⟩ := b.wave t (List.mem_of_getElem? ht)
  obtain ⟨r1, r2⟩ := b.run t tw
  have nl : (t.2 ++ [j]).length = d + 1 := by simp [tl]
  have pos : 0 < ws.length := List.length_pos_of_mem tw
  refine ⟨?_, ?_, fun p hp => ?_, ?_, fun p hp => ?_, fun p hp => ⟨List.mem_append_left _ (b.wave p hp).1, (b.wave p hp).2⟩, b.wup, fun p hp => ?_, ?_, fun p hp t' ht' => ?_, fun p hp => ?_, fun t' ht' l hl => ?_, fun p hp => ?_⟩
  · rw [List.getElem?_append_left pos]
    exact b.head
  · rw [List.map_append, List.nodup_append]
    refine ⟨b.keys, by simp, fun x hx y hy z => ?_⟩
    simp at hy
    subst hy
    exact hm (z ▸ hx)
  · rcases List.mem_append.mp hp with hp | hp
    · exact b.run p hp
    · rw [List.mem_singleton.mp hp]
      refine ⟨fun l hl => ?_, ?_⟩
      · rcases List.mem_append.mp hl with hl | hl
        · exact r1 l hl
        · rw [List.mem_singleton.mp hl]; exact hj
      · show goes f x0 (t.2 ++ [j]) = f t.1 j
        unfold goes at r2 ⊢
        rw [List.foldl_append, r2]
        rfl
  · rw [List.pairwise_append]
    refine ⟨b.up, List.pairwise_singleton _ _, fun p hp q hq => ?_⟩
    rw [List.mem_singleton.mp hq]
    exact b.front p hp t ht
  · rcases List.mem_append.mp hp with hp | hp
    · exact b.len p hp
    · rw [List.mem_singleton.mp hp]; exact Nat.le_of_eq nl
  · rcases List.mem_append.mp hp with hp | hp
    · exact ⟨List.mem_append_left _ (b.foll p hp).1, (b.foll p hp).2⟩
    · exact ⟨List.mem_append_right _ hp, by rw [List.mem_singleton.mp hp]; exact nl⟩
  · rw [List.pairwise_append]
    refine ⟨b.fup, List.pairwise_singleton _ _, fun p hp q hq => ?_⟩
    rw [List.mem_singleton.mp hq]
    exact b.front p (b.foll p hp).1 t ht
  · rw [ht] at ht'
    cases ht'
    rcases List.mem_append.mp hp with hp | hp
    · exact sl_trans (b.front p hp t ht) (sl_last _ (Nat.lt_succ_self _))
    · rw [List.mem_singleton.mp hp]
      exact sl_last _ (Nat.lt_succ_self _)
  · rcases List.mem_append.mp hp with hp | hp
    · rcases b.done p hp with h | h | h
      · exact .inl (List.mem_append_left _ h)
      · exact .inr (.inl h)
      · exact .inr (.inr fun l hl => (h l hl).more)
    · exact .inl (List.mem_append_right _ hp)
  · rw [ht] at ht'
    cases ht'
    rcases Nat.lt_succ_iff_lt_or_eq.mp hl with hl | rfl
    · exact (b.part t ht l hl).more
    · exact ⟨t.2 ++ [l], List.mem_append_right _ (List.mem_singleton.mpr rfl), .inl rfl⟩
  · rw [List.length_append, List.length_singleton]
    rcases List.mem_append.mp hp with hp | hp
    · exact Nat.lt_succ_of_lt (b.short p hp)
    · rw [List.mem_singleton.mp hp]
      have z := b.short t tw
      show (t.2 ++ [j]).length < _
      rw [List.length_append, List.length_singleton]
      omega
theorem Bfs.next (b : Bfs f L x0 d ws wv fo i L) (ht : wv[i]? = some t) : Bfs f L x0 d ws wv fo (i + 1) 0 := by
  refine { b with front := fun p hp t' ht' => ?_, done := fun p hp => ?_, part := fun _ _ l hl => absurd hl (Nat.not_lt_zero _) }
  · have h1 := b.front p hp t ht
    have h2 : sl t.2 t'.2 := by
      obtain ⟨l1, e1⟩ := List.getElem?_eq_some_iff.mp ht
      obtain ⟨l2, e2⟩ := List.getElem?_eq_some_iff.mp ht'
      rw [← e1, ← e2]
      exact List.pairwise_iff_getElem.mp b.wup i (i + 1) l1 l2 (Nat.lt_succ_self _)
    exact sl_trans h1 (sl_snoc h2)
  · rcases b.done p hp with h | ⟨a, h1, h2⟩ | h
    · exact .inl h
    · rcases Nat.eq_or_lt_of_le h1 with e | e
      · subst e
        rw [ht] at h2
        cases h2
        exact .inr (.inr fun l hl => b.part t ht l hl)
      · exact .inr (.inl ⟨a, e, h2⟩)
    · exact .inr (.inr h)
theorem Bfs.wave' (b : Bfs f L x0 d ws wv fo wv.length 0) : Bfs f L x0 (d + 1) ws fo [] 0 0 := by
  refine ⟨b.head, b.keys, b.run, b.up, fun p hp => Nat.le_succ_of_le (b.len p hp), b.foll, b.fup, fun _ h => (nomatch h), .nil, fun p hp t ht => ?_, fun p hp => ?_, fun _ _ l hl => absurd hl (Nat.not_lt_zero _), b.short⟩
  · have h1 := b.len p hp
    have h2 := (b.foll t (List.mem_of_getElem? ht)).2
    exact .inl (by simp; omega)
  · rcases b.done p hp with h | ⟨a, h1, h2⟩ | h
    · obtain ⟨a, e⟩ := List.mem_iff_getElem?.mp h
      exact .inr (.inl ⟨a, Nat.zero_le _, e⟩)
    · rw [List.getElem?_eq_none h1] at h2
      cases h2
    · exact .inr (.inr h)
theorem Bfs.told (b : Bfs f L x0 d ws [] [] 0 0) : Told f L x0 ws := ⟨b.head, b.keys, b.run, b.up, fun p hp => by
  rcases b.done p hp with h | ⟨a, _, h⟩ | h
  · nomatch h
  · simp at h
  · exact h, b.short⟩
theorem Told.least (T : Told f L x0 ws) : ∀ (n : Nat) (v : List Nat), v.length = n → (∀ l ∈ v, l < L) → ∃ u, (goes f x0 v, u) ∈ ws ∧ sle u v
  | 0, v, hn, _ => by
    have e : v = [] := List.length_eq_zero_iff.mp hn
    subst e
    exact ⟨[], List.mem_of_getElem? T.head, .inl rfl⟩
  | n + 1, v, hn, hv => by
    obtain ⟨v', l, rfl⟩ : ∃ v' l, v = v' ++ [l] := ⟨v.dropLast, v.getLast (by intro z; rw [z] at hn; cases hn), (List.dropLast_concat_getLast _).symm⟩
    obtain ⟨u, h1, h2⟩ := T.least n v' (by simp at hn; omega) fun x hx => hv x (List.mem_append_left _ hx)
    obtain ⟨u', h3, h4⟩ := T.all _ h1 l (hv l (List.mem_append_right _ (List.mem_singleton.mpr rfl)))
    refine ⟨u', ?_, sle_trans h4 (sle_snoc h2)⟩
    have e : goes f x0 (v' ++ [l]) = f (goes f x0 v') l := by
      unfold goes
      rw [List.foldl_append]
      rfl
    rw [e]
    exact h3
theorem goes_in {U : List (List Nat)} (h0 : x0 ∈ U) (hU : ∀ x ∈ U, ∀ l, l < L → f x l ∈ U) : ∀ word : List Nat, (∀ l ∈ word, l < L) → goes f x0 word ∈ U := by
  have go : ∀ (word : List Nat) (x : List Nat), x ∈ U → (∀ l ∈ word, l < L) → word.foldl f x ∈ U := by
    intro word
    induction word with
    | nil => intro x hx _; exact hx
    | cons l word ih => intro x hx h; exact ih _ (hU x hx l (h l (List.mem_cons_self ..))) fun y hy => h y (List.mem_cons_of_mem _ hy)
  exact fun word h => go word x0 h0 h
theorem few_of {U : List (List Nat)} {l : List (List Nat)} (nd : l.Nodup) (h : ∀ x ∈ l, x ∈ U) : l.length ≤ U.length := List.Nodup.length_le_of_subset nd h
end
end L2
namespace L2
theorem sl_asym {u v : List Nat} (h1 : sl u v) (h2 : sl v u) : False := sl_irr (sl_trans h1 h2)
theorem sle_anti {u v : List Nat} (h1 : sle u v) (h2 : sle v u) : u = v := by
  rcases h1 with h1 | h1
  · exact h1
  · rcases h2 with h2 | h2
    · exact h2.symm
    · exact (sl_asym h1 h2).elim
theorem rise_eq : ∀ {ws vs : TW}, (ws.Pairwise fun p q => sl p.2 q.2) → (vs.Pairwise fun p q => sl p.2 q.2) → (∀ p, p ∈ ws ↔ p ∈ vs) → ws = vs
  | [], [], _, _, _ => rfl
  | [], q :: vs, _, _, h => absurd ((h q).mpr (List.mem_cons_self ..)) (by simp)
  | p :: ws, [], _, _, h => absurd ((h p).mp (List.mem_cons_self ..)) (by simp)
  | p :: ws, q :: vs, h1, h2, h => by
    obtain ⟨p1, p2⟩ := List.pairwise_cons.mp h1
    obtain ⟨q1, q2⟩ := List.pairwise_cons.mp h2
    have pq : p = q := by
      rcases List.mem_cons.mp ((h p).mp (List.mem_cons_self ..)) with e | e
      · exact e
      · rcases List.mem_cons.mp ((h q).mpr (List.mem_cons_self ..)) with e' | e'
        · exact e'.symm
        · exact (sl_asym (q1 p e) (p1 q e')).elim
    subst pq
    have rest : ws = vs := rise_eq p2 q2 fun r => by
      constructor
      · intro hr
        rcases List.mem_cons.mp ((h r).mp (List.mem_cons_of_mem _ hr)) with e | e
        · subst e
          exact (sl_irr (p1 r hr)).elim
        · exact e
      · intro hr
        rcases List.mem_cons.mp ((h r).mpr (List.mem_cons_of_mem _ hr)) with e | e
        · subst e
          exact (sl_irr (q1 r hr)).elim
        · exact e
    rw [rest]
theorem Told.sub {f : List Nat → Nat → List Nat} {L : Nat} {x0 : List Nat} {ws vs : TW} (T : Told f L x0 ws) (T' : Told f L x0 vs) {p : List Nat × List Nat} (hp : p ∈ ws) : p ∈ vs := by
  obtain ⟨r1, r2⟩ := T.run p hp
  obtain ⟨u, h1, h2⟩ := T'.least _ p.2 rfl r1
  rw [r2] at h1
  obtain ⟨r3, r4⟩ := T'.run _ h1
  obtain ⟨u', h3, h4⟩ := T.least _ u rfl r3
  have e : goes f x0 u = p.1 := r4
  rw [e] at h3
  have same : u' = p.2 := by
    obtain ⟨i, ei⟩ := List.mem_iff_getElem?.mp h3
    obtain ⟨j, ej⟩ := List.mem_iff_getElem?.mp hp
    have ij : i = j := (List.getElem?_inj (by rw [List.length_map]; exact (List.getElem?_eq_some_iff.mp ei).1) T.keys).mp (by rw [List.getElem?_map, List.getElem?_map, ei, ej]; rfl)
    subst ij
    rw [ei] at ej
    have z := Option.some.inj ej
    rw [← z]
  rw [same] at h4
  have uu : u = p.2 := sle_anti h2 h4
  rw [uu] at h1
  exact h1
theorem Told.uniq {f : List Nat → Nat → List Nat} {L : Nat} {x0 : List Nat} {ws vs : TW} (T : Told f L x0 ws) (T' : Told f L x0 vs) : ws = vs := rise_eq T.up T'.up fun p => ⟨fun h => T.sub T' h, fun h => T'.sub T h⟩
end L2
namespace L2
open PySem PySem.Spec PyProof.Rows
section
variable {P : Program} {w : World} {A : Around} {E : Value → Shared → Prop} {s : Shared} {it d : Addr} {i ep : Nat} {es : Array DictEntry}
abbrev pairObj (k v : Value) : Obj := { cls := .type "tuple", data := .seq #[k, v] }
abbrev goerObj (own : Value) (out : Bool) (d : Addr) (i n ep : Nat) (k v : Value) : Obj := { cls := .type "dict_itemiterator", data := .fields #[own, .bool out, .ref d, .int i 0, .int n 0, .int ep 0, k, v] }
def Lies (h : Heap) (d : Addr) (es : Array DictEntry) (ep : Nat) : Prop := ∃ o, h.get? d = some o ∧ o.ExactDict ∧ o.data = .dict es ep
def Goer (h : Heap) (it d : Addr) (i n ep : Nat) : Prop := ∃ own out k v, h.get? it = some (goerObj own out d i n ep k v) ∧ (own = .none ∨ ∃ a : Nat, own = rawInt a ∧ a ≠ it ∧ ∃ o, h.get? a = some o)
theorem Goer.keep {h h' : Heap} {n : Nat} (g : Goer h it d i n ep) (k : ∀ o, h.get? it = some o → h'.get? it = some o) (l : ∀ b o, h.get? b = some o → ∃ o', h'.get? b = some o') : Goer h' it d i n ep := by
  obtain ⟨own, out, x, v, e, c⟩ := g
  refine ⟨own, out, x, v, k _ e, c.imp id ?_⟩
  rintro ⟨a, ea, na, o, eo⟩
  exact ⟨a, ea, na, l a o eo⟩
theorem pair_made {own : Value} {out : Bool} {n : Nat} {k0 v0 k v : Value} {Q : Value → Shared → Prop} (e : s.heap.get? it = some (goerObj own out d i n ep k0 v0)) (c : own = .none ∨ ∃ a : Nat, own = rawInt a ∧ a ≠ it ∧ ∃ o, s.heap.get? a = some o)
    (q : ∀ h', Goer h' it d i n ep → h'.get? s.heap.objs.size = some (pairObj k v) → (∀ b o, b ≠ it → s.heap.get? b = some o → h'.get? b = some o) → Q (.ref s.heap.objs.size) { s with heap := h' }) :
    wpAny (model P w) A (Builtin.Dict_items.pairFromOwner (.ref it) 6 k v) Q E s := by
  have lt : it < s.heap.objs.size := Heap.lt_size e
  unfold Builtin.Dict_items.pairFromOwner
  refine wpAny_bind (wpAny_newTuple ?_)
  have e1 := Heap.get?_push_of_some (pairObj k v) e
  have ep1 : (s.heap.push (pairObj k v)).get? s.heap.objs.size = some (pairObj k v) := Heap.get?_push_size _ rfl
  have kp : ∀ b o, s.heap.get? b = some o → (s.heap.push (pairObj k v)).get? b = some o := fun b o z => Heap.get?_push_of_some _ z
  have ne : s.heap.objs.size ≠ it := Nat.ne_of_gt lt
  rcases c with rfl | ⟨a, rfl, na, o, ea⟩
  · have free : ∀ {R : Bool → Shared → Prop} {s1 : Shared}, s1.heap.get? it = some (goerObj .none out d i n ep k0 v0) → R true s1 → wpAny (model P w) A (Builtin.Dict_items.ownedTupleIsFree (.ref it)) R E s1 := fun e r => by
      unfold Builtin.Dict_items.ownedTupleIsFree
      exact wpAny_bind (wpAny_field e rfl (x := .none) rfl (wpAny_pure r))
    refine wpAny_bind (free e1 ?_)
    rw [if_pos rfl]
    refine wpAny_bind (wpAny_field e1 rfl (x := k0) rfl (wpAny_bind (wpAny_field e1 rfl (x := v0) rfl ?_)))
    refine wpAny_bind (wpAny_setField_rec e1 (by simp) fun h2 e2 s2 => wpAny_bind (wpAny_setField_rec e2 (by simp) fun h3 e3 s3 => ?_))
    refine wpAny_bind (wpAny_setField_rec e3 (by simp) fun h4 e4 s4 => wpAny_bind (wpAny_setField_rec e4 (by simp) fun h5 e5 s5 => wpAny_bind (wpAny_letGo (wpAny_pure ?_))))
    have sb := ((s2.trans s3).trans s4).trans s5
    have ep5 := sb.extBut _ _ ne ep1
    exact q h5 ⟨_, _, _, _, e5, .inr ⟨_, rfl, ne, _, ep5⟩⟩ ep5 fun b o nb z => sb.extBut _ _ nb (kp b o z)
  · have a1 := kp a o ea
    refine wpAny_bind (m := Builtin.Dict_items.ownedTupleIsFree _) ?_
    unfold Builtin.Dict_items.ownedTupleIsFree
    refine wpAny_bind (wpAny_field e1 rfl (x := rawInt a) rfl ?_)
    have alive : ∀ {R : Option Obj → Shared → Prop}, R (some o) { s with heap := s.heap.push (pairObj k v) } → wpAny (model P w) A (loadIfAlive ((a : Int).toNat)) R E { s with heap := s.heap.push (pairObj k v) } := fun {R} r => by
      rw [Int.toNat_natCast]
      exact fun _ _ _ => show R ((s.heap.push (pairObj k v)).get? a) _ by rw [a1]; exact r
    refine show wpAny _ _ (loadIfAlive ((a : Int).toNat) >>= _) _ _ _ from wpAny_bind (alive ?_)
    refine wpAny_bind (m := field _ _) (wpAny_field e1 rfl (x := .bool out) rfl ?_)
    cases out with
    | true => exact wpAny_pure (wpAny_pure (q _ ⟨_, _, _, _, e1, .inr ⟨a, rfl, na, o, a1⟩⟩ ep1 fun b o _ z => kp b o z))
    | false =>
      refine wpAny_bind (m := setField _ _ _) (wpAny_setField_rec e1 (by simp) fun h2 e2 s2 => wpAny_pure (wpAny_pure ?_))
      exact q h2 ⟨_, _, _, _, e2, .inr ⟨a, rfl, na, o, s2.extBut _ _ na a1⟩⟩ (s2.extBut _ _ ne ep1) fun b o nb z => s2.extBut _ _ nb (kp b o z)
end
end L2
namespace L2
open PySem PySem.Spec PyProof.Rows
section
variable {P : Program} {w : World} {A : Around} {E : Value → Shared → Prop} {s : Shared} {it d : Addr} {i ep : Nat} {es : Array DictEntry}
theorem goer_item {en : DictEntry} {Q : Option Value → Shared → Prop} (G : Goer s.heap it d i es.size ep) (L : Lies s.heap d es ep) (hx : es[i]? = some en)
    (q : ∀ h', Goer h' it d (i + 1) es.size ep → h'.get? s.heap.objs.size = some (pairObj en.key en.val) → (∀ b o, b ≠ it → s.heap.get? b = some o → h'.get? b = some o) → Q (some (.ref s.heap.objs.size)) { s with heap := h' }) :
    wpAny (model P w) A (pyNext (.ref it)) Q E s := by
  obtain ⟨own, out, k0, v0, e, c⟩ := G
  obtain ⟨o, ho, _, hd⟩ := L
  have ty : s.TypeIs (.ref it) "dict_itemiterator" := ⟨_, e, rfl⟩
  have lt : i < es.size := (Array.getElem?_eq_some_iff.mp hx).1
  unfold pyNext
  refine wpAny_bind (wpAny_attempt (wpAny_callSpecial?_slot (name := Str.ofString "__next__") ty F.slot_dict_itemiterator_next (wpAny_call_entry F.slot_dict_itemiterator_next ty F.entry_dict_itemiterator_next ?_ (F.args_dict_itemiterator_next_1 _))))
  refine wpAny_bind (wpAny_pure (wpAny_bind (wpAny_bind ?_)))
  refine wpAny_bind (wpAny_typeNameOfWhole_itemiter ty (wpAny_pure (wpAny_bind (wpAny_fieldsOf e rfl ?_))))
  have own2 : Builtin.Dict_items.ownsTuple "dict_itemiterator" = true := by decide
  simp only [own2, if_true]
  refine show wpAny _ _ (if (Value.ref d == Value.none) = true then _ else _) _ _ s from (if_neg (show ¬ ((Value.ref d == Value.none) = true) from Bool.false_ne_true)) ▸ wpAny_bind (wpAny_pure (wpAny_bind (wpAny_dictEntries ho hd ?_)))
  rw [if_neg (by simp)]
  refine wpAny_bind (wpAny_pure (wpAny_bind (wpAny_dictEpoch ho hd ?_)))
  rw [if_neg (by simp)]
  refine wpAny_pure ?_
  have at0 : (if ((i : Nat) : Int) < 0 then none else es[((i : Nat) : Int).toNat]?) = some en := by
    rw [if_neg (by omega), Int.toNat_natCast]
    exact hx
  show wpAny _ _ (match (if ((i : Nat) : Int) < 0 then none else es[((i : Nat) : Int).toNat]?) with | some e => _ | none => _) _ _ s
  rw [at0]
  refine wpAny_bind (wpAny_bind (wpAny_typeNameOfWhole_itemiter ty (wpAny_pure (wpAny_bind (wpAny_isOneOf_itemiter ty ?_)))))
  refine show wpAny _ _ (setField (.ref it) 3 (rawInt ((i : Int) + 1)) >>= _) _ _ s from wpAny_bind (wpAny_setField_rec e (by simp) fun h1 e1 s1 => wpAny_bind (wpAny_holding ?_))
  have e1' : h1.get? it = some (goerObj own out d (i + 1) es.size ep k0 v0) := by
    have z : ((i + 1 : Nat) : Int) = (i : Int) + 1 := by omega
    unfold goerObj
    rw [z]
    simpa [rawInt] using e1
  have ty1 : Shared.TypeIs { s with heap := h1 } (.ref it) "dict_itemiterator" := ⟨_, e1', rfl⟩
  refine wpAny_bind (wpAny_isOneOf_itemiter ty1 (wpAny_bind (wpAny_isOneOf_itemiter ty1 ?_)))
  have sz : h1.objs.size = s.heap.objs.size := s1.1
  refine show wpAny _ _ (Builtin.Dict_items.pairFromOwner (.ref it) 6 en.key en.val) _ _ { s with heap := h1 } from pair_made (s := { s with heap := h1 }) e1' (c.imp id ?_) fun h2 G2 p2 k2 => ?_
  · rintro ⟨a, ea, na, oa, z⟩
    exact ⟨a, ea, na, oa, s1.extBut _ _ na z⟩
  · have p2' : h2.get? s.heap.objs.size = some (pairObj en.key en.val) := by rw [← sz]; exact p2
    show wpAny _ _ (ret (.ref h1.objs.size)) _ _ _
    rw [sz]
    exact wpAny_pure ⟨_, rfl, wpAny_pure (q h2 G2 p2' fun b o nb z => k2 b o nb (s1.extBut _ _ nb z))⟩
theorem goer_end {Q : Option Value → Shared → Prop} (hh : A.handled = none) (G : Goer s.heap it d i es.size ep) (L : Lies s.heap d es ep) (hx : es[i]? = none)
    (q : ∀ h', Heap.ExtBut it s.heap h' → Q none { s with heap := h' }) : wpAny (model P w) A (pyNext (.ref it)) Q E s := by
  obtain ⟨own, out, k0, v0, e, c⟩ := G
  obtain ⟨o, ho, _, hd⟩ := L
  have ty : s.TypeIs (.ref it) "dict_itemiterator" := ⟨_, e, rfl⟩
  unfold pyNext
  refine wpAny_bind (wpAny_attempt (wpAny_callSpecial?_slot (name := Str.ofString "__next__") ty F.slot_dict_itemiterator_next (wpAny_call_entry F.slot_dict_itemiterator_next ty F.entry_dict_itemiterator_next ?_ (F.args_dict_itemiterator_next_1 _))))
  refine wpAny_bind (wpAny_pure (wpAny_bind (wpAny_bind ?_)))
  refine wpAny_bind (wpAny_typeNameOfWhole_itemiter ty (wpAny_pure (wpAny_bind (wpAny_fieldsOf e rfl ?_))))
  have own2 : Builtin.Dict_items.ownsTuple "dict_itemiterator" = true := by decide
  simp only [own2, if_true]
  refine show wpAny _ _ (if (Value.ref d == Value.none) = true then _ else _) _ _ s from (if_neg (show ¬ ((Value.ref d == Value.none) = true) from Bool.false_ne_true)) ▸ wpAny_bind (wpAny_pure (wpAny_bind (wpAny_dictEntries ho hd ?_)))
  rw [if_neg (by simp)]
  refine wpAny_bind (wpAny_pure (wpAny_bind (wpAny_dictEpoch ho hd ?_)))
  rw [if_neg (by simp)]
  refine wpAny_pure ?_
  have at0 : (if ((i : Nat) : Int) < 0 then none else es[((i : Nat) : Int).toNat]?) = none := by
    rw [if_neg (by omega), Int.toNat_natCast]
    exact hx
  show wpAny _ _ (match (if ((i : Nat) : Int) < 0 then none else es[((i : Nat) : Int).toNat]?) with | some e => _ | none => _) _ _ s
  rw [at0]
  refine wpAny_bind (wpAny_bind (wpAny_typeNameOfWhole_itemiter ty (wpAny_pure ?_)))
  refine show wpAny _ _ (setField (.ref it) 2 .none >>= _) _ _ s from wpAny_bind (wpAny_setField_rec e (by simp) fun h1 e1 sb => ?_)
  refine wpAny_bind (m := newExc _ _) ?_
  simp only [newExc, newTuple]
  refine wpAny_bind (wpAny_newObj_type ?_ (by size_fits))
  refine wpAny_bind (m := firstArgMember _ _) (wpAny_of_eq (a := Value.none) (by first | rfl | (unfold firstArgMember; rfl)) (wpAny_newObj_type ?_ (by size_fits)))
  refine wpAny_raiseNew_none (by simpa using hh) (wpAny_bind (wpAny_isInstance (T := "StopIteration") (b := true) ⟨_, Heap.get?_push_size _ rfl, rfl⟩ isSubtype_stop (wpAny_pure ?_)))
  exact q _ fun b o nb z => Heap.get?_push_of_some _ (Heap.get?_push_of_some _ (sb.extBut b o nb z))
end
end L2
namespace L2
open PySem PySem.Spec PyProof.Rows
structure PMade (es : Array DictEntry) (lo : Addr) (h : Heap) (as : List Addr) : Prop where
  far : ∀ a ∈ as, lo < a
  up : as.Pairwise (· < ·)
  is : ∀ (j : Nat) (a : Addr), as[j]? = some a → ∃ en : DictEntry, es[j]? = some en ∧ h.get? a = some (pairObj en.key en.val)
theorem PMade.nil {es : Array DictEntry} {lo : Addr} {h : Heap} : PMade es lo h [] := ⟨fun _ z => (nomatch z), .nil, fun _ _ z => by simp at z⟩
theorem PMade.here {es : Array DictEntry} {lo : Addr} {h : Heap} {as : List Addr} (m : PMade es lo h as) : ∀ a ∈ as, a < h.objs.size := fun a ha => by
  obtain ⟨j, e⟩ := List.mem_iff_getElem?.mp ha
  obtain ⟨_, _, g⟩ := m.is j a e
  exact Heap.lt_size g
theorem PMade.keep {es : Array DictEntry} {lo : Addr} {h h' : Heap} {as : List Addr} (m : PMade es lo h as) (k : ∀ b o, lo < b → h.get? b = some o → h'.get? b = some o) : PMade es lo h' as :=
  ⟨m.far, m.up, fun j a e => by
    obtain ⟨en, x, g⟩ := m.is j a e
    exact ⟨en, x, k a _ (m.far a (List.mem_of_getElem? e)) g⟩⟩
theorem PMade.more {es : Array DictEntry} {lo a : Addr} {h : Heap} {as : List Addr} {en : DictEntry} (m : PMade es lo h as) (la : lo < a) (new : ∀ b ∈ as, b < a) (x : es[as.length]? = some en) (g : h.get? a = some (pairObj en.key en.val)) : PMade es lo h (as ++ [a]) :=
  ⟨fun b hb => by
    rcases List.mem_append.mp hb with z | z
    · exact m.far b z
    · rw [List.mem_singleton.mp z]; exact la,
   List.pairwise_append.mpr ⟨m.up, List.pairwise_singleton _ _, fun b hb c hc => by rw [List.mem_singleton.mp hc]; exact new b hb⟩,
   fun j b e => by
    by_cases hj : j < as.length
    · rw [List.getElem?_append_left hj] at e
      exact m.is j b e
    · rw [List.getElem?_append_right (Nat.le_of_not_lt hj)] at e
      obtain ⟨z, e'⟩ := List.getElem?_eq_some_iff.mp e
      have j0 : j - as.length = 0 := by simp at z; omega
      have jj : j = as.length := by omega
      subst jj
      simp at e'
      subst e'
      exact ⟨en, x, g⟩⟩
section
variable {P : Program} {w : World} {A : Around} {R : Result → Shared → Prop} {S I d : Addr} {ep : Nat} {es : Array DictEntry} {res : Value}
abbrev lstAt (h : Heap) (S : Addr) (vs : Array Value) (c : Nat) : Prop := h.get? S = some { cls := .type "list", data := .seq vs c }
theorem fill (hh : A.handled = none) (SI : S < I) (dS : d ≠ S) (dI : d ≠ I) (fit : es.size ≤ sizeLine) : ∀ (r i : Nat) (s : Shared) (as : List Addr) (c : Nat), i + r = es.size → as.length = i → Goer s.heap I d i es.size ep → Lies s.heap d es ep →
      lstAt s.heap S (as.map Value.ref).toArray c → PMade es I s.heap as →
      (∀ h' bs c', bs.length = es.size → PMade es I h' bs → lstAt h' S (bs.map Value.ref).toArray c' → (∀ b o, b ≠ S → b ≠ I → s.heap.get? b = some o → h'.get? b = some o) → R (.ok (.ret res)) { s with heap := h' }) →
      codeAny (model P w) A (.builtin "list.extend.loop" ⟨[.ref S, .ref I, res], []⟩) R s := by
  have nSI : S ≠ I := Nat.ne_of_lt SI
  intro r
  induction r with
  | zero =>
    intro i s as c hi hl G L lS M q
    refine codeAny_builtin F.entry_extend_loop ?_
    rw [Around.under_plainId F.plain_extend_loop _]
    refine show wpAny _ A.in1 (pyNext (.ref I) >>= _) _ _ s from wpAny_bind (goer_end (by simpa using hh) G L (Array.getElem?_eq_none (by omega)) fun h' x => wpAny_pure ?_)
    exact q h' as c (by omega) (M.keep fun b o lb e => x b o (Nat.ne_of_gt lb) e) (x S _ nSI lS) fun b o _ nb e => x b o nb e
  | succ r ih =>
    intro i s as c hi hl G L lS M q
    obtain ⟨en, hx⟩ : ∃ en, es[i]? = some en := ⟨es[i]'(by omega), Array.getElem?_eq_getElem (by omega)⟩
    have szI : I < s.heap.objs.size := by
      obtain ⟨_, _, _, _, e, _⟩ := G
      exact Heap.lt_size e
    have szS : S < s.heap.objs.size := Heap.lt_size lS
    refine codeAny_builtin F.entry_extend_loop ?_
    rw [Around.under_plainId F.plain_extend_loop _]
    refine show wpAny _ A.in1 (pyNext (.ref I) >>= _) _ _ s from wpAny_bind (goer_item G L hx fun h1 G1 p1 k1 => ?_)
    have lS1 := k1 S _ nSI lS
    refine show wpAny _ A.in1 (updateSeq S (·.push (Value.ref s.heap.objs.size)) >>= _) _ _ { s with heap := h1 } from wpAny_bind (wpAny_updateSeq lS1 rfl (wpAny_pure ⟨plainId_quiet F.plain_extend_loop _, ?_⟩) ?_ ?_)
    · have off : ∀ b o, b ≠ S → h1.get? b = some o → (h1.update S (Obj.mapSeq (·.push (Value.ref s.heap.objs.size)))).get? b = some o := fun b o nb e => (Heap.get?_update_other _ _ (Ne.symm nb)).trans e
      have lS2 := Heap.get?_update_self (Obj.mapSeq (·.push (Value.ref s.heap.objs.size))) lS1 rfl
      obtain ⟨od, h0, x0, y0⟩ := L
      have M1 : PMade es I h1 as := M.keep fun b o lb e => k1 b o (Nat.ne_of_gt lb) e
      refine ih (i + 1) { s with heap := h1.update S (Obj.mapSeq (·.push (Value.ref s.heap.objs.size))) } (as ++ [s.heap.objs.size]) _ (by omega) (by simp [hl]) (G1.keep (fun o e => off I o (Ne.symm nSI) e) fun b o e => ?_)
        ⟨od, off d od dS (k1 d od dI h0), x0, y0⟩ (by simpa [Obj.mapSeq, List.map_append] using lS2) ?_ fun h' bs c' l' M' lS' k' => q h' bs c' l' M' lS' fun b o n1 n2 e => k' b o n1 n2 (off b o n1 (k1 b o n2 e))
      · by_cases hb : b = S
        · subst hb
          exact ⟨_, lS2⟩
        · exact ⟨o, off b o hb e⟩
      · exact (M1.keep fun b o lb e => off b o (Nat.ne_of_gt (Nat.lt_trans SI lb)) e).more szI M.here (hl ▸ hx) (off _ _ (Nat.ne_of_gt szS) p1)
    · simp; omega
    · simp; omega
end
end L2
namespace L2
open PySem PySem.Spec PyProof.Rows
section
variable {P : Program} {w : World} {A : Around} {E : Value → Shared → Prop} {s : Shared} {v d : Addr} {ep : Nat} {es : Array DictEntry}
abbrev viewObj (d : Addr) : Obj := { cls := .type "dict_items", data := .fields #[.ref d] }
theorem Lies.typeIs {s : Shared} (L : Lies s.heap d es ep) : s.TypeIs (.ref d) "dict" := let ⟨o, h, x, _⟩ := L; ⟨o, h, x.1⟩
theorem view_made {Q : Value → Shared → Prop} (nd : (d == sysModules) = false) (L : Lies s.heap d es ep) (q : Q (.ref s.heap.objs.size) { s with heap := s.heap.push (viewObj d) }) : wpAny (model P w) A (call (.builtin "dict.items") [.ref d]) Q E s := by
  refine call_meetsIn (S := fun _ R s => Lies s.heap d es ep ∧ R (.ok (.ret (.ref s.heap.objs.size))) { s with heap := s.heap.push (viewObj d) }) F.slot_dict_items L.typeIs F.entry_dict_items (F.args_dict_items_1 _) (.of_wp fun A R s ⟨L, r⟩ => ?_) ⟨L, q⟩
  unfold Builtin.«dict.items» Builtin.Dict.noArgs
  refine wpAny_bind (wpAny_bind (wpAny_notOrdered_dict L.typeIs ?_))
  refine show wpAny _ _ (pure d) _ _ s from wpAny_pure (show wpAny _ _ (Builtin.Dict.showsAll d >>= _) _ _ s from ?_)
  have all : Builtin.Dict.showsAll d = pure () := by
    unfold Builtin.Dict.showsAll
    rw [nd]
    rfl
  rw [all]
  exact wpAny_bind (wpAny_pure (wpAny_bind (wpAny_newObj_type (wpAny_pure ⟨_, rfl, r⟩))))
theorem view_iter {Q : Value → Shared → Prop} (ev : s.heap.get? v = some (viewObj d)) (L : Lies s.heap d es ep) (q : Q (.ref s.heap.objs.size) { s with heap := s.heap.push (goerObj .none false d 0 es.size ep .none .none) }) : wpAny (model P w) A (pyIter (.ref v)) Q E s := by
  have ty : s.TypeIs (.ref v) "dict_items" := ⟨_, ev, rfl⟩
  obtain ⟨o, ho, _, hd⟩ := L
  refine wpAny_pyIter_slot ty F.slot_dict_items_iter (wpAny_call_entry F.slot_dict_items_iter ty F.entry_dict_items_iter ?_ (F.args_dict_items_iter_1 _))
  unfold Builtin.«dict_items.__iter__» Builtin.Dict_items.dictOf Builtin.Dict_items.newIterator
  refine wpAny_bind (wpAny_pure (wpAny_bind (wpAny_bind (wpAny_field ev rfl (x := .ref d) rfl (wpAny_pure (wpAny_bind (wpAny_bind (wpAny_dictEntries ho hd (wpAny_bind (wpAny_dictEpoch ho hd ?_))))))))))
  refine show wpAny _ _ (newFields "dict_itemiterator" [.none, .bool false, .ref d, rawInt 0, rawInt (es.size : Nat), rawInt (ep : Nat), .none, .none]) _ _ s from wpAny_newObj_type (wpAny_pure ⟨_, rfl, "dict_itemiterator", _, ⟨_, Heap.get?_push_size _ rfl, rfl⟩, F.slot_dict_itemiterator_next.lookup, q⟩) (by size_fits)
theorem view_hint {Q : Bool → Shared → Prop} (ty : s.TypeIs (.ref v) "dict_items") (q : Q false s) : wpAny (model P w) A (Builtin.List.listLengthHint (.ref v)) Q E s := PySem.W.kdx_hint ty q
theorem items_listed {Q : Value → Shared → Prop} (hh : A.handled = none) (ev : s.heap.get? v = some (viewObj d)) (L : Lies s.heap d es ep) (fit : es.size ≤ sizeLine)
    (q : ∀ h' as c tk, as.length = es.size → PMade es s.heap.objs.size h' as → lstAt h' s.heap.objs.size (as.map Value.ref).toArray c → (∀ b o, s.heap.get? b = some o → h'.get? b = some o) → Q (.ref s.heap.objs.size) { s with heap := h', toks := tk }) :
    wpAny (model P w) A (call (.type "list") [.ref v]) Q E s := by
  let S := s.heap.objs.size
  obtain ⟨o, ho, x, hd⟩ := id L
  have ld : d < S := Heap.lt_size ho
  have lv : v < S := Heap.lt_size ev
  refine callType_codes (Q₁ := fun obj s₁ => obj = .ref S ∧ s₁ = { s with heap := s.heap.push { cls := .type "list", data := .seq #[] } }) F.called_list (F.typeCall_list_1 _) F.entry_list_init (code_list_new _ ⟨rfl, rfl⟩) fun obj s1 z => ?_
  obtain ⟨rfl, rfl⟩ := z
  have lS : lstAt (s.heap.push { cls := .type "list", data := .seq #[] }) S #[] 0 := Heap.get?_push_size _ rfl
  refine ⟨⟨_, lS, rfl⟩, F.args_list_init_2 _ _, ?_⟩
  unfold Builtin.«list.__init__» Builtin.List.listItems
  refine wpAny_bind (wpAny_bind (wpAny_seqItems lS rfl (wpAny_pure ?_)))
  refine wpAny_bind (m := updateSeq S _) (wpAny_updateSeq lS rfl (wpAny_bind (wpAny_letGo ?_)))
  have lS1 := Heap.get?_update_self (Obj.mapSeq (fun _ => (#[] : Array Value))) lS rfl
  let h1 := (s.heap.push { cls := .type "list", data := .seq #[] }).update S (Obj.mapSeq (fun _ => (#[] : Array Value)))
  have k1 : ∀ b o, s.heap.get? b = some o → h1.get? b = some o := fun b o e => (Heap.get?_update_other _ _ (Nat.ne_of_gt (Heap.lt_size e))).trans (Heap.get?_push_of_some _ e)
  have sz1 : h1.objs.size = S + 1 := by
    show (Heap.update _ _ _).objs.size = _
    simp [Heap.update, Heap.push, S]
  have go : ∀ (h2 : Heap) (c tk : Nat), lstAt h2 S #[] c → (∀ b o, b ≠ S → (h1.push (goerObj .none false d 0 es.size ep .none .none)).get? b = some o → h2.get? b = some o) →
      codeAny (model P w) A.in1 (.builtin "list.extend.loop" ⟨[.ref S, .ref h1.objs.size, .none], []⟩) (wants (fun r s₂ => r = Value.none ∧ Q (Value.ref S) s₂) E) { s with heap := h2, toks := tk } := fun h2 c tk l2 k2 => by
    have SI : S < h1.objs.size := by rw [sz1]; exact Nat.lt_succ_self _
    have k12 : ∀ b o, s.heap.get? b = some o → h2.get? b = some o := fun b o e => k2 b o (Nat.ne_of_lt (Heap.lt_size e)) (Heap.get?_push_of_some _ (k1 b o e))
    refine fill (by simpa using hh) SI (Nat.ne_of_lt ld) (Nat.ne_of_lt (Nat.lt_trans ld SI)) fit es.size 0 { s with heap := h2, toks := tk } [] c (by omega) rfl ⟨_, _, _, _, k2 _ _ (Nat.ne_of_gt SI) (Heap.get?_push_size _ rfl), .inl rfl⟩ ⟨o, k12 d o ho, x, hd⟩ l2 .nil fun h' as c' l' M' lS' k' => ?_
    refine ⟨rfl, q h' as c' tk l' ⟨fun a ha => Nat.lt_trans SI (M'.far a ha), M'.up, M'.is⟩ lS' fun b o e => ?_⟩
    have lb : b < S := Heap.lt_size e
    exact k' b o (Nat.ne_of_lt lb) (Nat.ne_of_lt (Nat.lt_trans lb SI)) (k12 b o e)
  refine show wpAny _ _ (Builtin.List.listExtendWith (.ref S) (.ref v) .none) _ _ _ from ?_
  unfold Builtin.List.listExtendWith
  have ev1 := k1 v _ ev
  refine wpAny_bind (wpAny_typeOf (T := "dict_items") ⟨_, ev1, rfl⟩ ?_)
  have no : (Builtin.List.listSameRef (.ref S) (.ref v) || Value.type "dict_items" == Value.type "list" || Value.type "dict_items" == Value.type "tuple") = false := by
    have z : Builtin.List.listSameRef (.ref S) (.ref v) = false := by simp [Builtin.List.listSameRef, Nat.ne_of_gt lv]
    rw [z]
    decide
  rw [no, if_neg (by decide)]
  refine wpAny_bind (view_iter ev1 ⟨o, k1 d o ho, x, hd⟩ (wpAny_bind (wpAny_holding (view_hint ⟨_, Heap.get?_push_of_some _ ev1, rfl⟩ ?_))))
  have lS2 := Heap.get?_push_of_some (goerObj .none false d 0 es.size ep .none .none) lS1
  refine wpAny_ite_split (fun _ => ?_) fun _ => wpAny_pure ⟨plainId_quiet F.plain_extend_loop _, go _ _ _ lS2 fun _ _ _ e => e⟩
  -- room is made by one item more, taken away again
  unfold Builtin.List.listTouch Builtin.List.listUpdate
  refine wpAny_bind (wpAny_rule (wpAny_bind (wpAny_bind (m := updateSeq S _) (wpAny_updateSeq lS2 rfl ?_))))
  have lS3 := Heap.get?_update_self (Obj.mapSeq (·.push Value.none)) lS2 rfl
  refine show wpAny _ _ (updateSeq S (·.pop)) _ _ _ from wpAny_updateSeq (hz := by seq_fits) lS3 rfl (wpAny_pure ⟨plainId_quiet F.plain_extend_loop _, go _ _ _ (Heap.get?_update_self (Obj.mapSeq (·.pop)) lS3 rfl) fun b o nb e => ?_⟩)
  rw [Heap.get?_update_other _ _ (Ne.symm nb), Heap.get?_update_other _ _ (Ne.symm nb)]
  exact e
end
end L2
namespace L2
open PySem PySem.Spec PyProof.Rows
def lay (H : Hp) : List (Addr × HO) → Hp
  | [] => H
  | p :: l => lay (upd H p.1 p.2) l
theorem lay_out : ∀ {l : List (Addr × HO)} {H : Hp} {b : Addr}, (∀ p ∈ l, b ≠ p.1) → lay H l b = H b
  | [], _, _, _ => rfl
  | p :: l, H, b, n => by
    show lay (upd H p.1 p.2) l b = _
    rw [lay_out fun q hq => n q (List.mem_cons_of_mem _ hq), upd_ne (n p (List.mem_cons_self ..))]
theorem lay_in : ∀ {l : List (Addr × HO)} {H : Hp} {p : Addr × HO}, (l.map (·.1)).Nodup → p ∈ l → lay H l p.1 = some p.2
  | q :: l, H, p, nd, hp => by
    obtain ⟨h1, h2⟩ := List.nodup_cons.mp nd
    rcases List.mem_cons.mp hp with rfl | hp
    · show lay (upd H p.1 p.2) l p.1 = _
      rw [lay_out fun r hr z => h1 (List.mem_map.mpr ⟨r, hr, z.symm⟩), upd_same]
    · exact lay_in (l := l) h2 hp
theorem paired_at {α β : Type} {F : α → β → Prop} {l : List α} {m : List β} {j : Nat} {a : α} (r : Paired F l m) (e : l[j]? = some a) : ∃ b, m[j]? = some b ∧ F a b := by
  induction r generalizing j with
  | nil => simp at e
  | cons h _ ih =>
    cases j with
    | zero =>
      have z := Option.some.inj e
      subst z
      exact ⟨_, rfl, h⟩
    | succ j => exact ih (by simpa using e)
section
variable {X : Cx}
theorem Inv.tracks {pins : List (Addr × Obj)} {σ : St} {H0 : Hp} {s s1 : Shared} (I : Inv X pins σ H0 s) : ∀ (l : List (Addr × HO)) (H : Hp), Inv X pins σ H s1 → (∀ p ∈ l, s.heap.objs.size ≤ p.1 ∧ H p.1 = none ∧ ∀ H2, ObjOk X.prog X.w H2 s1.heap p.1 p.2) → (l.map (·.1)).Nodup →
    Inv X pins σ (lay H l) s1
  | [], _, I1, _, _ => I1
  | p :: l, H, I1, ok, nd => by
    obtain ⟨h1, h2⟩ := List.nodup_cons.mp nd
    obtain ⟨le, n, o⟩ := ok p (List.mem_cons_self ..)
    obtain ⟨f0, f1, f2, f3, f4, f5⟩ := I.fpOk (b := p.1) (H' := H) le n
    refine Inv.tracks I l _ (I1.track n (o _) (Nat.le_trans I.sz le) f1 f4 f5) (fun q hq => ?_) h2
    obtain ⟨x, y, z⟩ := ok q (List.mem_cons_of_mem _ hq)
    exact ⟨x, by rw [upd_ne fun e => h1 (List.mem_map.mpr ⟨q, hq, e⟩)]; exact y, z⟩
structure Listed (H H' : Hp) (kvs : List (List Key × V)) (l : Addr) (as : List Addr) : Prop where
  new : H l = none
  news : ∀ a ∈ as, H a = none
  out : l ∉ as
  nd : as.Nodup
  len : as.length = kvs.length
  lst : H' l = some (.lst (as.map .ref))
  is : ∀ (j : Nat) (a : Addr), as[j]? = some a → ∃ k v b, kvs[j]? = some (k, v) ∧ H b = some (.tup (k.map kV)) ∧ H' a = some (.tup [.ref b, v])
  rest : ∀ b, b ≠ l → b ∉ as → H' b = H b
def ViewO (v d : Addr) : HO := .ext fun h => h.get? v = some (viewObj d)
def rItems : V → List V → Hp → VK → Prop := fun x xs H Q => xs = [] ∧ ∃ a kvs, x = .ref a ∧ H a = some (.dT kvs) ∧ ∀ v, H v = none → Q (.ref v) (upd H v (ViewO v a))
theorem mt_items : MtR X "dict.items" rItems := by
  intro pins s σ H x xs u us Q I r1 r2 h
  obtain ⟨rfl, a, kvs, rfl, ha, q⟩ := h
  cases r1
  cases r2
  obtain ⟨z, na, ys, rel, o, es, ep, e1, e2, e3, _⟩ := I.hok a _ ha
  refine view_made na ⟨o, e1, e2, e3⟩ ⟨.ref s.heap.objs.size, _, I.laid (a := s.heap.objs.size) (o := ViewO s.heap.objs.size a) (t' := s.toks) (fun _ _ q => Heap.get?_push_of_some _ q) (Nat.le_refl _) ?_, rfl, q _ I.fresh⟩
  have e : (s.heap.push (viewObj a)).get? s.heap.objs.size = some (viewObj a) := Heap.get?_push_size _ rfl
  exact ⟨e, ⟨_, e⟩, fun h1 h2 y k => k _ y⟩
def rListItems : List V → Hp → VK → Prop := fun xs H Q => ∃ v a kvs, xs = [.ref v] ∧ H v = some (ViewO v a) ∧ H a = some (.dT kvs) ∧ ∀ l as H', Listed H H' kvs l as → Q (.ref l) H'
theorem call_list_items (hc : X.calm = true) : CallR X (.type "list") rListItems := by
  intro pins s σ H xs us Q I r h
  obtain ⟨v, a, kvs, rfl, hv, ha, q⟩ := h
  obtain ⟨u, rfl, ru⟩ := vals1 r
  cases ru
  obtain ⟨ev, _, _⟩ := I.hok v _ hv
  obtain ⟨z, na, ys, rel, o, es, ep, e1, e2, e3, e4, _⟩ := I.hok a _ ha
  have el : es.size = kvs.length := by rw [size_of_entries e4, ← Paired.length rel]
  refine items_listed (I.ok.hd hc) ev ⟨o, e1, e2, e3⟩ (by omega) fun h' as c tk ln M lS k => ?_
  have I1 : Inv X pins σ H { s with heap := h', toks := tk } := I.kept k
  have big : ∀ b, s.heap.objs.size ≤ b → H b = none := fun b hb => I.hok.fresh hb
  have nd : as.Nodup := M.up.imp fun z => Nat.ne_of_lt z
  have out : s.heap.objs.size ∉ as := fun m => Nat.lt_irrefl _ (M.far _ m)
  -- what each pair is
  have each : ∀ (j : Nat) (b : Addr), as[j]? = some b → ∃ k x y, kvs[j]? = some (k, x) ∧ H y = some (.tup (k.map kV)) ∧ ∃ u, RelV x u ∧ h'.get? b = some (pairObj (.ref y) u) := fun j b ej => by
    obtain ⟨en, ee, g⟩ := M.is j b ej
    obtain ⟨jl, _⟩ := List.getElem?_eq_some_iff.mp ej
    obtain ⟨⟨k, x⟩, ek⟩ : ∃ p, kvs[j]? = some p := ⟨_, List.getElem?_eq_getElem (by omega)⟩
    obtain ⟨⟨k', y, u⟩, ey, p1, p2, p3⟩ := paired_at rel ek
    rw [entry_at e4, ey] at ee
    cases ee
    exact ⟨k, x, y, ek, p2, u, p3, g⟩
  have some1 : ∀ b, ∃ o : HO, ∀ j : Nat, as[j]? = some b → ∃ k x y, kvs[j]? = some (k, x) ∧ H y = some (.tup (k.map kV)) ∧ o = .tup [.ref y, x] ∧ ∃ u, RelV x u ∧ h'.get? b = some (pairObj (.ref y) u) := fun b => by
    by_cases hb : b ∈ as
    · obtain ⟨j, ej⟩ := List.mem_iff_getElem?.mp hb
      obtain ⟨k, x, y, h1, h2, u, h3, h4⟩ := each j b ej
      refine ⟨.tup [.ref y, x], fun i ei => ?_⟩
      have ij : j = i := List.getElem?_inj (List.getElem?_eq_some_iff.mp ej).1 nd |>.mp (ej.trans ei.symm)
      subst ij
      exact ⟨k, x, y, h1, h2, rfl, u, h3, h4⟩
    · exact ⟨.tup [], fun j ej => absurd (List.mem_of_getElem? ej) hb⟩
  let pr : Addr → HO := fun b => Classical.choose (some1 b)
  have prIs : ∀ (j : Nat) (b : Addr), as[j]? = some b → ∃ k x y, kvs[j]? = some (k, x) ∧ H y = some (.tup (k.map kV)) ∧ pr b = .tup [.ref y, x] ∧ ∃ u, RelV x u ∧ h'.get? b = some (pairObj (.ref y) u) := fun j b ej => Classical.choose_spec (some1 b) j ej
  have dom : (as.map fun b => (b, pr b)).map (·.1) = as := by simp [List.map_map, Function.comp_def]
  have okT : ∀ b ∈ as, ∀ H2, ObjOk X.prog X.w H2 h' b (pr b) := fun b hb H2 => by
    obtain ⟨j, ej⟩ := List.mem_iff_getElem?.mp hb
    obtain ⟨k, x, y, h1, h2, h3, u, h4, h5⟩ := prIs j b ej
    rw [h3]
    exact ⟨by show 2 ≤ sizeLine; decide, [.ref y, u], .cons rfl (.cons h4 .nil), _, h5, rfl, 0, rfl⟩
  have vs : ∀ l : List Addr, Vals (l.map V.ref) (l.map Value.ref) := fun l => by
    induction l with
    | nil => exact .nil
    | cons x l ih => exact .cons rfl ih
  have I2 := Inv.tracks (s1 := { s with heap := h', toks := tk }) I ((s.heap.objs.size, .lst (as.map .ref)) :: as.map fun b => (b, pr b)) H I1 (fun p hp => by
      rcases List.mem_cons.mp hp with rfl | hp
      · exact ⟨Nat.le_refl _, big _ (Nat.le_refl _), fun H2 => ⟨by rw [List.length_map]; omega, _, c, vs as, lS⟩⟩
      · obtain ⟨b, hb, rfl⟩ := List.mem_map.mp hp
        exact ⟨Nat.le_of_lt (M.far b hb), big _ (Nat.le_of_lt (M.far b hb)), okT b hb⟩) (by
      rw [List.map_cons, dom]
      exact List.nodup_cons.mpr ⟨out, nd⟩)
  refine ⟨.ref s.heap.objs.size, _, I2, rfl, q _ as _ ⟨big _ (Nat.le_refl _), fun b hb => big _ (Nat.le_of_lt (M.far b hb)), out, nd, by omega, ?_, fun j b ej => ?_, fun b h1 h2 => ?_⟩⟩
  · exact lay_in (p := (s.heap.objs.size, .lst (as.map .ref))) (by rw [List.map_cons, dom]; exact List.nodup_cons.mpr ⟨out, nd⟩) (List.mem_cons_self ..)
  · obtain ⟨k, x, y, g1, g2, g3, _⟩ := prIs j b ej
    refine ⟨k, x, y, g1, g2, ?_⟩
    rw [← g3]
    exact lay_in (p := (b, pr b)) (by rw [List.map_cons, dom]; exact List.nodup_cons.mpr ⟨out, nd⟩) (List.mem_cons_of_mem _ (List.mem_map.mpr ⟨b, List.mem_of_getElem? ej, rfl⟩))
  · refine lay_out fun p hp => ?_
    rcases List.mem_cons.mp hp with rfl | hp
    · exact h1
    · obtain ⟨y, hy, rfl⟩ := List.mem_map.mp hp
      exact fun e => h2 (e ▸ hy)
end
end L2
namespace L2
open PySem PySem.Spec PyProof.Rows
def kvsOf (ws : TW) (as : List Addr) : List (List Key × V) := List.zipWith (fun p a => (nk p.1, V.ref a)) ws as
theorem kvs_snoc {ws : TW} {as : List Addr} {p : List Nat × List Nat} {a : Addr} (h : as.length = ws.length) : kvsOf (ws ++ [p]) (as ++ [a]) = kvsOf ws as ++ [(nk p.1, .ref a)] := by
  unfold kvsOf
  rw [List.zipWith_append h.symm]
  rfl
theorem kvs_len {ws : TW} {as : List Addr} (h : as.length = ws.length) : (kvsOf ws as).length = ws.length := by
  unfold kvsOf
  rw [List.length_zipWith]
  omega
theorem kvs_at {ws : TW} {as : List Addr} {j : Nat} {p : List Nat × List Nat} {a : Addr} (hp : ws[j]? = some p) (ha : as[j]? = some a) : (kvsOf ws as)[j]? = some (nk p.1, .ref a) := by
  unfold kvsOf
  rw [List.getElem?_zipWith, hp, ha]
theorem val_no : ∀ {ws : TW} {as : List Addr} {x : List Nat}, x ∉ ws.map (·.1) → valV (kvsOf ws as) (nk x) = none
  | [], _, _, _ => rfl
  | _ :: _, [], _, _ => rfl
  | p :: ws, a :: as, x, h => by
    have h1 : ¬ (nk p.1 : List Key) = nk x := fun z => h (List.mem_map.mpr ⟨p, List.mem_cons_self .., nk_inj z⟩)
    exact (valV_neg (p := (nk p.1, V.ref a)) (r := kvsOf ws as) h1).trans (val_no fun z => h (List.mem_cons_of_mem _ z))
theorem val_at : ∀ {ws : TW} {as : List Addr} {j : Nat} {p : List Nat × List Nat} {a : Addr}, (ws.map (·.1)).Nodup → ws[j]? = some p → as[j]? = some a → valV (kvsOf ws as) (nk p.1) = some (.ref a)
  | q :: ws, b :: as, 0, p, a, _, hp, ha => by
    cases hp
    cases ha
    exact valV_pos (p := (nk q.1, V.ref b)) (r := kvsOf ws as) rfl
  | q :: ws, b :: as, j + 1, p, a, nd, hp, ha => by
    obtain ⟨h1, h2⟩ := List.nodup_cons.mp nd
    have hp' : ws[j]? = some p := by simpa using hp
    have n : ¬ (nk q.1 : List Key) = nk p.1 := fun z => h1 (List.mem_map.mpr ⟨p, List.mem_of_getElem? hp', (nk_inj z).symm⟩)
    exact (valV_neg (p := (nk q.1, V.ref b)) (r := kvsOf ws as) n).trans (val_at h2 hp' (by simpa using ha))
  | [], _, _, _, _, _, hp, _ => by simp at hp
  | _ :: _, [], _, _, _, _, _, ha => by simp at ha
structure WordsAt (H : Hp) (D : Addr) (ws : TW) (as : List Addr) : Prop where
  len : as.length = ws.length
  dict : H D = some (.dT (kvsOf ws as))
  list : ∀ (j : Nat) (a : Addr) (p : List Nat × List Nat), as[j]? = some a → ws[j]? = some p → H a = some (.lst (p.2.map nv))
theorem WordsAt.same {H H' : Hp} {D : Addr} {ws : TW} {as : List Addr} (W : WordsAt H D ws as) (g : Same H H') : WordsAt H' D ws as := ⟨W.len, g _ _ W.dict, fun j a p h1 h2 => g _ _ (W.list j a p h1 h2)⟩
theorem WordsAt.word {H : Hp} {D : Addr} {ws : TW} {as : List Addr} {p : List Nat × List Nat} (W : WordsAt H D ws as) (nd : (ws.map (·.1)).Nodup) (hp : p ∈ ws) : ∃ a, valV (kvsOf ws as) (nk p.1) = some (.ref a) ∧ H a = some (.lst (p.2.map nv)) := by
  obtain ⟨j, e⟩ := List.mem_iff_getElem?.mp hp
  obtain ⟨hj, _⟩ := List.getElem?_eq_some_iff.mp e
  obtain ⟨a, ea⟩ : ∃ a, as[j]? = some a := ⟨_, List.getElem?_eq_getElem (by rw [W.len]; exact hj)⟩
  exact ⟨a, val_at nd e ea, W.list j a p ea e⟩
theorem WordsAt.put {H : Hp} {D l : Addr} {ws : TW} {as : List Addr} {p : List Nat × List Nat} (W : WordsAt H D ws as) (hl : H l = some (.lst (p.2.map nv))) : WordsAt (upd H D (.dT (kvsOf ws as ++ [(nk p.1, .ref l)]))) D (ws ++ [p]) (as ++ [l]) := by
  have nD : ∀ {a : Addr} {xs : List V}, H a = some (.lst xs) → a ≠ D := fun h => ne_of h W.dict (fun z => nomatch z)
  refine ⟨by simp [W.len], by rw [upd_same, kvs_snoc W.len], fun j a q h1 h2 => ?_⟩
  by_cases hj : j < ws.length
  · rw [List.getElem?_append_left (by rw [W.len]; exact hj)] at h1
    rw [List.getElem?_append_left hj] at h2
    have z := W.list j a q h1 h2
    rw [upd_ne (nD z)]
    exact z
  · rw [List.getElem?_append_right (by rw [W.len]; omega)] at h1
    rw [List.getElem?_append_right (by omega)] at h2
    have z : j - ws.length = 0 := by
      have := (List.getElem?_eq_some_iff.mp h2).1
      simp at this
      omega
    rw [W.len, z] at h1
    rw [z] at h2
    cases h1
    cases h2
    rw [upd_ne (nD hl)]
    exact hl
def noT (H : Hp) : Hp := fun a => match H a with
  | some (.tbl _) => none
  | o => o
theorem noT_at {H : Hp} {a : Addr} {o : HO} (h : H a = some o) (n : ∀ ps, o ≠ .tbl ps) : noT H a = some o := by
  unfold noT
  rw [h]
  cases o <;> first | rfl | exact absurd rfl (n _)
theorem of_noT {H : Hp} {a : Addr} {o : HO} (h : noT H a = some o) : H a = some o ∧ ∀ ps, o ≠ .tbl ps := by
  unfold noT at h
  split at h
  · cases h
  · rename_i n
    exact ⟨h, fun ps z => n ps (by rw [h, z])⟩
def Keeps (H H' : Hp) : Prop := Same (noT H) H'
theorem Same.keeps {H H' : Hp} (g : Same H H') : Keeps H H' := fun a o h => g a o (of_noT h).1
theorem Keeps.refl (H : Hp) : Keeps H H := (Same.refl H).keeps
theorem Keeps.trans {H H1 H2 : Hp} (a : Keeps H H1) (b : Keeps H1 H2) : Keeps H H2 := fun c o h => b c o (noT_at (a c o h) (of_noT h).2)
def TabOk (qual : Str) (pos : Pos) (H : Hp) (T : Addr) : Prop := H T = some (.tbl #[]) ∨ ∃ cc, H T = some (.tbl (triple pos cc)) ∧ H cc = some (CodeO cc qual)
theorem TabOk.same {qual : Str} {pos : Pos} {H H' : Hp} {T : Addr} (t : TabOk qual pos H T) (g : Same H H') : TabOk qual pos H' T := by
  rcases t with t | ⟨cc, t1, t2⟩
  · exact .inl (g _ _ t)
  · exact .inr ⟨cc, g _ _ t1, g _ _ t2⟩
def DefAt (K : PySem.W.Frag) (x : Str) (st : Stmt) (f : Addr) (fd : FuncData) (dv cv : Value) : Prop :=
  PySem.W.codeIn K cv x = true ∧ (∃ kV doc pm an ct, fd = PySem.W.fnOf x x (defArgs st) (defBody st) (defScope st) dv kV doc pm an cv ct) ∧ ∃ c d sl, K.lookup f = some ⟨c, d, .func fd, sl⟩
section
variable {P : Program} {w : World} {K : PySem.W.Frag} {mg : Str → Option Value} {base : Heap} {x : Str} {st : Stmt} {f : Addr} {fd : FuncData} {dv cv : Value} {N ps : List Str} {k : Nat} {sp : Sp}
def BodyOk (P : Program) (w : World) (K : PySem.W.Frag) (mg : Str → Option Value) (base : Heap) (x : Str) (st : Stmt) (f : Addr) (cv : Value) (N : List Str) (k : Nat) (sp : Sp) : Prop :=
  ∀ A outer s H vs Q E, sp vs H Q E → Room k (A.deeper (envOfC x (defScope st) s.heap.objs.size f cv)) → ∃ t : TS, t ⟨fun _ H' => Q .non H', Q, fun _ _ => False, fun _ _ => False⟩ (start N vs) H ∧ PSs (cxOf CX0 P w K mg base N x (defScope st) f cv A outer s H E).nox (defBody st) t
theorem DefAt.binds {T : Addr} {o : Obj} {n : Nat} {ds : List Value} (d : DefAt K x st f fd (.ref T) cv) (lT : K.lookup T = some o) (dT : o.data = .seq ds.toArray n) (kk : List Value → Option (Array Value) → Sem (List (Str × Value)))
    (h1 : ∀ (kV doc pm : Value) (an : Option Addr) (ct : Value) (us : List Value), (us ++ ds).length = ps.length → bindArgs (PySem.W.fnOf x x (defArgs st) (defBody st) (defScope st) (.ref T) kV doc pm an cv ct) ⟨us, []⟩ = seqItems? (.ref T) >>= kk us)
    (h2 : ∀ us : List Value, (us ++ ds).length = ps.length → kk us (some ds.toArray) = pure (ps.zip (us ++ ds))) : Binds K fd ps ds := fun s us KX hl => by
  obtain ⟨_, ⟨kV, doc, pm, an, ct, rfl⟩, _⟩ := d
  exact BindsTo.of_defaults rfl (KX _ _ lT) dT (h1 kV doc pm an ct us hl) (h2 us hl)
def CalleeD (P : Program) (w : World) (K : PySem.W.Frag) (mg : Str → Option Value) (base : Heap) (x : Str) (k : Nat) (ps : List Str) (sp : Sp) (dvs : List V) : Prop :=
  ∃ f fd ds, FnOk P w K mg base CX0 k f fd ps sp ∧ mg x = some (.ref f) ∧ PySem.W.keepIn K (.ref f) = true ∧ Binds K fd ps ds ∧ Vals dvs ds
end
end L2
namespace L2
open PySem PySem.Spec PyProof.Rows
theorem pass1 {X : Cx} {P : Program} {w : World} : Passes (CX1 P w) X E0 := fun _ _ _ _ _ _ _ ⟨_, _, _, _, _, _, _, _, _, _, h⟩ => h.elim
def CalleeX (P : Program) (w : World) (K : PySem.W.Frag) (mg : Str → Option Value) (base : Heap) (x : Str) (k : Nat) (ps : List Str) (sp : Sp) : Prop :=
  ∃ f fd, FnOk P w K mg base (CX1 P w) k f fd ps sp ∧ mg x = some (.ref f) ∧ PySem.W.keepIn K (.ref f) = true ∧ Binds K fd ps []
theorem pe_callX {X : Cx} {x : Str} {k : Nat} {ps : List Str} {sp : Sp} {e : Expr} {es : List Expr} {t : TA} {p pos : Pos} {E : XK} (c : CalleeX X.prog X.w X.K X.mg X.base x k ps sp) (hr : Room k X.A) (hx : Passes (CX1 X.prog X.w) X E) (hg : Gl X x) (ha : PA X (e :: es) t)
    (hd : (x == ("__debug__" : Str)) = false := by decide) (hs : starEach (e :: es) X.env = (false, eval e X.env) :: starEach es X.env := by rfl) (hp : (backTo pos (starEach es X.env)).any (·.1) = false := by rfl) :
    PE X (.Call (.Name x p) (e :: es) [] pos) (tCall sp [] E t) := by
  obtain ⟨f, fd, F, m, kp, b⟩ := c
  exact pe_call F hr hg m kp b .nil hx ha hd hs hp
def CalleeDX (P : Program) (w : World) (K : PySem.W.Frag) (mg : Str → Option Value) (base : Heap) (x : Str) (k : Nat) (ps : List Str) (sp : Sp) (dvs : List V) : Prop :=
  ∃ f fd ds, FnOk P w K mg base (CX1 P w) k f fd ps sp ∧ mg x = some (.ref f) ∧ PySem.W.keepIn K (.ref f) = true ∧ Binds K fd ps ds ∧ Vals dvs ds
theorem pe_callDX {X : Cx} {x : Str} {k : Nat} {ps : List Str} {sp : Sp} {dvs : List V} {e : Expr} {es : List Expr} {t : TA} {p pos : Pos} {E : XK} (c : CalleeDX X.prog X.w X.K X.mg X.base x k ps sp dvs) (hr : Room k X.A) (hx : Passes (CX1 X.prog X.w) X E) (hg : Gl X x) (ha : PA X (e :: es) t)
    (hd : (x == ("__debug__" : Str)) = false := by decide) (hs : starEach (e :: es) X.env = (false, eval e X.env) :: starEach es X.env := by rfl) (hp : (backTo pos (starEach es X.env)).any (·.1) = false := by rfl) :
    PE X (.Call (.Name x p) (e :: es) [] pos) (tCall sp dvs E t) := by
  obtain ⟨f, fd, ds, F, m, kp, b, hv⟩ := c
  exact pe_call F hr hg m kp b hv hx ha hd hs hp
section
variable {X : Cx} {pins : List (Addr × Obj)} {σ : St} {H H' : Hp} {s : Shared}
theorem pex_callDX {k : Nat} {ps : List Str} {sp : Sp} {dvs : List V} {x : Str} {p pos : Pos} {e : Expr} {es : List Expr} {t : TA} (c : CalleeDX X.prog X.w X.K X.mg X.base x k ps sp dvs) (hr : Room k X.A) (hg : Gl X x)
    (ha : PA X.nox (e :: es) t) (hdb : (x == ("__debug__" : Str)) = false := by decide) (he : starEach (e :: es) X.env = (false, eval e X.env) :: starEach es X.env := by rfl)
    (hpl : (backTo pos (starEach es X.env)).any (·.1) = false := by rfl) : PEx X (.Call (.Name x p) (e :: es) [] pos) (fun E => tCall sp dvs E t) := by
  obtain ⟨f, fd, ds, F, hm, hk, hb, hd⟩ := c
  intro pins s σ H Q E Ex I h hx
  refine wpAny_Call_Name_kw (ld_glob I hg hm ?_ hdb)
  refine PySem.W.callWith_K (h₀ := X.base) I.ok.mod.kin hk (wpAny_mono (ha pos pins s σ H _ (I.wish _) h) (fun us s1 ⟨vs, H1, I1, r, q⟩ => ?_) fun _ _ z => False.elim z) he hpl
  have I1 := I1.unwish
  refine ⟨I1.kIn, ?_⟩
  have r2 : Vals (vs ++ dvs) (us ++ ds) := r.append hd
  have hl : (us ++ ds).length = ps.length := by rw [← r2.length]; exact F.len _ _ _ _ q
  refine wpAny_call (codeAny_mono (F.run X.A X.stack s1 H1 ⟨us, []⟩ (us ++ ds) (vs ++ dvs) Q E hr I1.env0 (hb s1 us I1.kIn hl) r2 q) fun r s' hq => ?_)
  cases r with
  | error v => exact hx H1 s1 v s' I1 hq
  | ok fl =>
    cases fl with
    | ret u => exact I1.after hq
    | next => exact False.elim hq
    | brk => exact False.elim hq
    | cont => exact False.elim hq
def tCallCX (sp : Sp) (dvs : List V) (E : XK) (j : Nat) (c : Addr) (t : TA) : TE := fun σ H Q => t σ H fun vs H1 => ∃ m, σ[j]? = some (some (.ref m)) ∧ ∀ oc, H1 c = none → sp (vs ++ dvs) (upd H1 c (CellO c m oc)) (fun r H2 => H2 c = some (CellO c m oc) ∧ Q r (drop H2 c)) (fun v d H2 => H2 c = some (CellO c m oc) ∧ E v d (drop H2 c))
theorem CX1.afterC {c m : Addr} {oc : Obj} {E : XK} {v : Value} {s' : Shared} (hc : H c = none) (ec : s.heap.get? c = some oc) (h : CX1 X.prog X.w X.stack (upd H c (CellO c m oc)) s (fun v d H2 => H2 c = some (CellO c m oc) ∧ E v d (drop H2 c)) v s') : CX1 X.prog X.w X.stack H s E v s' := by
  obtain ⟨e, C, d, H2, rfl, os, bare, un, hok, ⟨ne, fe, oe, ws, T, oT, ts, a0, he, hcl, hdc, hd, h0, h1, nT, fT, r⟩, e2, q⟩ := h
  obtain ⟨⟨ec', _⟩, _, _⟩ := hok c _ e2
  refine ⟨e, C, d, drop H2 c, rfl, os, bare, ⟨fun b o e n hb he => ?_, fun b o e n hb he => ?_, fun b o e n he => ?_, un.there, fun b xs e => ?_, fun b o w e => ?_, fun b ps e => ?_⟩, hok.drop e2, ⟨ne, drop_none fe, oe, ws, T, oT, ts, a0, he, hcl, hdc, hd, h0, h1, nT, drop_none fT, r⟩, q⟩
  · by_cases z : b = c
    · subst z
      rw [ec] at e
      cases e
      exact ec'
    · exact un.keep b o e (by rw [upd_ne z]; exact n) hb he
  · by_cases z : b = c
    · subst z
      rw [ec] at e
      cases e
      exact ⟨oc.slots, ec'⟩
    · exact un.slot b o e (by rw [upd_ne z]; exact n) hb he
  · by_cases z : b = c
    · rw [z]; exact drop_same
    · exact drop_none (un.free b o e (by rw [upd_ne z]; exact n) he)
  · have z : b ≠ c := fun z => by rw [z, hc] at e; cases e
    rw [drop_ne z]
    exact un.tups b xs (by rw [upd_ne z]; exact e)
  · have z : b ≠ c := fun z => by rw [z, hc] at e; cases e
    rw [drop_ne z]
    exact un.frzs b o w (by rw [upd_ne z]; exact e)
  · have z : b ≠ c := fun z => by rw [z, hc] at e; cases e
    rw [drop_ne z]
    exact un.tbls b ps (by rw [upd_ne z]; exact e)
theorem pe_callCX {x y : Str} {k j : Nat} {ps : List Str} {sp : Sp} {c : Addr} {dvs : List V} {e : Expr} {es : List Expr} {t : TA} {p pos : Pos} {E : XK} (cl : CalleeDX X.prog X.w X.K X.mg X.base x k ps sp dvs) (hr : Room k X.A) (hx : Passes (CX1 X.prog X.w) X E) (hg : Gl X x)
    (hN : X.N[j]? = some y) (hc : X.env.cells.lookup y = some c) (hkd : X.env.scope.names.lookup y = some .cell) (hfn : X.fn y = true) (ha : PA X (e :: es) t)
    (hdb : (x == ("__debug__" : Str)) = false := by decide) (he : starEach (e :: es) X.env = (false, eval e X.env) :: starEach es X.env := by rfl) (hpl : (backTo pos (starEach es X.env)).any (·.1) = false := by rfl) :
    PE X (.Call (.Name x p) (e :: es) [] pos) (tCallCX sp dvs E j c t) := by
  obtain ⟨f, fd, ds, F, hm, hk, hb, hd⟩ := cl
  intro pins s σ H Q I h
  refine wpAny_Call_Name_kw (ld_glob I hg hm ?_ hdb)
  refine PySem.W.callWith_K (h₀ := X.base) I.ok.mod.kin hk (thn (ha pos pins s σ H _ I h) fun us s1 ⟨vs, H1, I1, r, m, hj, q⟩ => ⟨I1.kIn, ?_⟩) he hpl
  have hc0 : H1 c = none := I1.freeC y c hc
  obtain ⟨mm, hn, look⟩ := I1.loc
  obtain ⟨u, ru, lk⟩ := look j y (.ref m) hN hj (.inr (.inl hkd))
  cases ru
  obtain ⟨oc, ec, dc⟩ : s1.heap.IsCell c (some (.ref m)) := by
    rcases lk with ⟨z, _⟩ | ⟨_, c', ec', ic⟩
    · have z' : X.env.scope.names.lookup y = some .local := z
      rw [hkd] at z'
      cases z'
    · rw [hc] at ec'
      cases ec'
      exact ic
  have q1 := q oc hc0
  have r2 : Vals (vs ++ dvs) (us ++ ds) := r.append hd
  have hl : (us ++ ds).length = ps.length := by rw [← r2.length]; exact F.len _ _ _ _ q1
  have e1 : Env0 X.prog X.w X.K X.mg X.base X.A X.stack s1 (upd H1 c (CellO c m oc)) := by
    have e0 := I1.env0
    have young := I1.ok.cab y c hfn hc
    have nb : ∀ b o, X.base.get? b = some o → b ≠ c := fun b o e z => by
      subst z
      exact absurd (Nat.lt_of_lt_of_le (Heap.lt_size e) (Nat.le_trans I1.ok.bsz young)) (Nat.lt_irrefl _)
    have nf : ∀ b ∈ frs X.stack, b ≠ c := fun b hb z => by
      subst z
      rcases List.mem_cons.mp (I1.stkSub b hb) with w | w
      · exact I1.cne y b hc w
      · obtain ⟨_, o, ho, _⟩ := I1.ok.funs.mem w
        exact absurd (Nat.lt_of_lt_of_le (Heap.lt_size ho) young) (Nat.lt_irrefl _)
    exact ⟨e0.frames, e0.mod, fun b o e => ⟨(e0.bs b o e).1, by rw [upd_ne (nb b o e)]; exact (e0.bs b o e).2⟩, e0.bsz, e0.funs, fun b hb => by rw [upd_ne (nf b hb)]; exact e0.frf b hb, e0.hok.back hc0 (cell_ok ec dc), e0.bare⟩
  refine wpAny_call (codeAny_mono (F.run X.A X.stack s1 _ ⟨us, []⟩ (us ++ ds) (vs ++ dvs) _ _ hr e1 (hb s1 us I1.kIn hl) r2 q1) fun r s' hq => ?_)
  cases r with
  | error e => exact hx pins σ H1 s1 e s' I1 (CX1.afterC hc0 ec hq)
  | ok fl =>
    cases fl with
    | ret u => exact I1.afterC hc0 ec hq
    | next => exact False.elim hq
    | brk => exact False.elim hq
    | cont => exact False.elim hq
end
section
variable {P : Program} {w : World} {K : PySem.W.Frag} {mg : Str → Option Value} {base : Heap} {x : Str} {st : Stmt} {f : Addr} {fd : FuncData} {dv cv : Value} {N ps : List Str} {k : Nat} {sp : Sp}
theorem DefAt.fnOkX (d : DefAt K x st f fd dv cv) (sc : FnScope N ps (defScope st)) (len : ∀ vs H Q E, sp vs H Q E → vs.length = ps.length)
    (b : ∀ A outer s H vs Q E, sp vs H Q E → Room k (A.deeper (envOfC x (defScope st) s.heap.objs.size f cv)) → ∃ t : TS, t ⟨fun _ H' => Q .non H', Q, fun _ _ => False, fun _ _ => False⟩ (start N vs) H ∧ PSs (cxOf (CX1 P w) P w K mg base N x (defScope st) f cv A outer s H E) (defBody st) t) : FnOk P w K mg base (CX1 P w) (k + 1) f fd ps sp := by
  obtain ⟨hcode, ⟨kV, doc, pm, an, ct, rfl⟩, _, _, _, lk⟩ := d
  refine fn_of lk hcode sc len fun A outer s H vs Q E hr hsp => ?_
  obtain ⟨t, q, h⟩ := b A outer s H vs Q E hsp hr
  exact ⟨t, h, q⟩
end
theorem walk_ofT2 {l : PySem.W.OpenLaw} {n k : Nat} {q : Program} {loose : List Str} {XP : (Str → Option Value) → Heap → Prop} {YP : World → Heap → Prop} {d : DefRec} {K : Params → PySem.W.Frag} {sp : World → Sp} {x : Str} {tabs : List Addr}
    (hn : l.most = some n) (hn2 : n ≤ sizeLine) (hdf : d.params.defaults = []) (hr : Room k callerA) (hY : ∀ (w : World) (h : Heap), YP w h → (K w.params).In h)
    (hT : ∀ w : World, ∀ t ∈ tabs, (K w.params).lookup t = none ∧ ∃ c, PySem.W.codeHdIn (K w.params) c t = true) (hP : ∀ (w : World) (h : Heap), YP w h → ∀ t ∈ tabs, h.get? t = some (PySem.W.tabObj #[]))
    (F : ∀ (w : World) (mg : Str → Option Value) (fa : Addr) (h : Heap), (K w.params).In h → h.Ns mainGlobals mg → mg d.name = some (.ref fa) →
      ∃ fd : FuncData, (∀ (s : Shared) (u : Value), BindsTo s fd ⟨[u], []⟩ [(x, u)]) ∧ ∀ base : Heap, (K w.params).In base → base.Ns mainGlobals mg → BMain mg base → FnOk l.prog w (K w.params) mg base CX0 k fa fd [x] (sp w))
    (hsp : ∀ (w : World) (H : Hp) (a : Addr) (ns : List Int), ns.length ≤ n → (∀ t ∈ tabs, H t = some (.tbl #[])) → SqL (K w.params) H a (ns.map V.int) → sp w [.ref a] H (fun v _ => v = .bl true) fun _ _ _ => False) :
    PySem.W.WalkO q loose XP YP l.row.toRowW d [] (fun f vs => PySem.call f vs) := by
  refine Att.attach_call hn hdf fun w s₀ s₁ mg mb fa o pm cd doc a vs ns G Y ho hd hcd hmg hobj hints hlen hg => ?_
  have KX := hY w _ Y
  obtain ⟨fd, hb, hF⟩ := F w mg fa _ KX G.T.g hmg
  refine law_callT (tabs := tabs) KX G.T.g G.T.b G.T.builtins G.T.nolimit hg G.T.bmain hobj hints (Nat.le_trans hlen hn2) hr (fun t ht => ?_) hF hb (fun H hH hS => hsp w H a ns hlen hH hS)
  obtain ⟨h1, c, h2⟩ := hT w t ht
  exact ⟨h1, c, (PySem.W.codeHd_of_K KX h2).tab (hP w _ Y t ht)⟩
end L2
namespace L2
open PySem PySem.Spec PyProof.Rows
section
variable {X : Cx}
def tDisp1 (tk tv : TE) : TE := fun σ H Q => ∀ p, H p = none → tk σ (upd H p (.dT [])) fun x H1 => tv σ H1 fun y H2 => H2 p = some (.dT []) ∧ ∃ b k, x = .ref b ∧ H2 b = some (.tup (k.map kV)) ∧ Q (.ref p) (upd H2 p (.dT [(k, y)]))
theorem pe_disp1 {k v : Expr} {tk tv : TE} {pos : Pos} (hu : X.A.units + 1 < cLine) (hk : PE X k tk) (hv : PE X v tv) : PE X (.Dict [some k] [v] pos) (tDisp1 tk tv) := by
  intro pins s σ H Q I q
  have hn := I.hok.fresh (Nat.le_refl s.heap.objs.size)
  have I1 := I.laid (a := s.heap.objs.size) (o := .dT []) (h' := s.heap.push { cls := .type "dict", data := .dict #[] }) (t' := s.toks) (fun _ _ q => Heap.get?_push_of_some _ q) (Nat.le_refl _) (dt_empty s.heap I.big)
  have pairs := pps_cons (X := X) (pos := pos) hk hv pps_nil
  have q1 := q s.heap.objs.size hn
  rw [arm_eval_Dict]
  refine wpAny_bind (wpAny_standAt ?_)
  have shape : (evalEachOpt [some k] X.env).zip ((evalEach [v] X.env).map fun v => do let x ← v; standAt pos; pure x) = (pairTrees [some k] [v] X.env pos).map fun p => (some p.1, p.2) := rfl
  rw [shape, dictDisplay_pairs _ (by intro z; cases z) (by show 1 < 17; decide)]
  refine wpAny_bind ?_
  unfold subDict
  refine wpAny_bind (wpAny_alloc (wpAny_bind (wpAny_holding ?_)))
  rw [if_pos (by show 1 ≤ 15; decide)]
  let G : List (V × V) → Hp → Prop := fun ps H2 => match ps with | [(x, y)] => H2 s.heap.objs.size = some (.dT []) ∧ ∃ b k, x = .ref b ∧ H2 b = some (.tup (k.map kV)) ∧ Q (.ref s.heap.objs.size) (upd H2 s.heap.objs.size (.dT [(k, y)])) | _ => False
  refine wpAny_bind (thn (pairs pins _ σ _ G I1 q1) fun ws s2 ⟨ps, H2, I2, rel, g⟩ => ?_)
  obtain ⟨x, y, rfl⟩ : ∃ x y, ps = [(x, y)] := by
    cases ps with
    | nil => exact False.elim g
    | cons p ps =>
      cases ps with
      | nil => exact ⟨p.1, p.2, rfl⟩
      | cons _ _ => exact False.elim g
  obtain ⟨e, b, key, rfl, eb, q2⟩ := g
  obtain ⟨u, r, rfl, ru, rr⟩ : ∃ u r, ws = [(u, r)] ∧ RelV (.ref b) u ∧ RelV y r := by
    cases rel with
    | @cons _ q _ qs h t =>
      cases t
      exact ⟨q.1, q.2, rfl, h.1, h.2⟩
  cases ru
  obtain ⟨z, hd, xs, kt, dd⟩ := dt_of I2.hok e
  cases kt
  refine wpAny_holding ?_
  simp only [List.forIn_cons, List.forIn_nil]
  refine wpAny_bind (wpAny_bind (wpAny_bind (wpAny_dictSet_heap (show X.A.units < cLine by omega) (key_of I2.hok eb) dd (fun h' dd' hs => ?_) (by show 0 ≤ _; exact Nat.zero_le _))))
  refine wpAny_pure (wpAny_pure (wpAny_pure (wpAny_pure ?_)))
  obtain ⟨o, es, ep, hq, h2, h3, h4, _, h5⟩ := dd'
  have key' : upd H2 s.heap.objs.size (.dT [(key, y)]) b = some (.tup (key.map kV)) := by
    rw [upd_ne (ne_of eb e (fun z => nomatch z))]
    exact eb
  have ok : ObjOk X.prog X.w (upd H2 s.heap.objs.size (.dT [(key, y)])) h' s.heap.objs.size (.dT [(key, y)]) := ⟨by show 1 ≤ sizeLine; decide, hd, _, .cons ⟨rfl, key', rr⟩ .nil, o, es, ep, hq, h2, h3, h4, h5⟩
  exact wpAny_pure ⟨.ref s.heap.objs.size, _, d_write I2 (by rw [e]; exact True.intro) hs ⟨o, hq⟩ ok, rfl, q2⟩
end
end L2
namespace L2
open PySem PySem.Spec PyProof.Rows
def spRefuse : Sp := fun vs H Q _ => ∃ d : Addr, vs = [.ref d, .non] ∧ Q .non H
def spStep (G : Hp → Prop) (U : List (List Nat)) (L : Nat) (g : List Nat → Nat → List Nat) : Sp := fun vs H Q _ => ∃ (t : Addr) (x : List Nat) (l : Nat), vs = [.ref t, nv l] ∧ G H ∧ H t = some (.tup (x.map nv)) ∧ x ∈ U ∧ l < L ∧ NewT H ((g x l).map nv) Q
def ThAt (H : Hp) (l : Addr) (ps : TW) : Prop := ∃ ts : List Addr, H l = some (.lst (ts.map .ref)) ∧ ts.length = ps.length ∧ ∀ (j : Nat) (t : Addr) (p : List Nat × List Nat), ts[j]? = some t → ps[j]? = some p → H t = some (.tup (p.1.map nv))
theorem ThAt.same {H H' : Hp} {l : Addr} {ps : TW} (h : ThAt H l ps) (g : Same H H') : ThAt H' l ps := by
  obtain ⟨ts, h1, h2, h3⟩ := h
  exact ⟨ts, g _ _ h1, h2, fun j t p e1 e2 => g _ _ (h3 j t p e1 e2)⟩
theorem ThAt.more {H : Hp} {l t : Addr} {ps : TW} {ts : List Addr} {p : List Nat × List Nat} (h1 : H l = some (.lst (ts.map .ref))) (h2 : ts.length = ps.length) (h3 : ∀ (j : Nat) (t : Addr) (p : List Nat × List Nat), ts[j]? = some t → ps[j]? = some p → H t = some (.tup (p.1.map nv))) (ht : H t = some (.tup (p.1.map nv))) :
    ThAt (upd H l (.lst (ts.map .ref ++ [.ref t]))) l (ps ++ [p]) := by
  have nl : ∀ {a : Addr} {xs : List V}, H a = some (.tup xs) → a ≠ l := fun h => ne_of h h1 fun e => nomatch e
  refine ⟨ts ++ [t], by rw [upd_same, List.map_append]; rfl, by simp [h2], fun j a q e1 e2 => ?_⟩
  by_cases hj : j < ps.length
  · rw [List.getElem?_append_left (by omega)] at e1
    rw [List.getElem?_append_left hj] at e2
    have z := h3 j a q e1 e2
    rw [upd_ne (nl z)]
    exact z
  · rw [List.getElem?_append_right (by omega)] at e1
    rw [List.getElem?_append_right (by omega)] at e2
    have z : j - ps.length = 0 := by
      have := (List.getElem?_eq_some_iff.mp e2).1
      simp at this
      omega
    rw [h2, z] at e1
    rw [z] at e2
    cases e1
    cases e2
    rw [upd_ne (nl ht)]
    exact ht
structure Srch (H0 H : Hp) (D wa fa : Addr) (ts : List Addr) (ws wv fo : TW) (as : List Addr) : Prop where
  g : Same H0 H
  nD : H0 D = none
  nF : H0 fa = none
  W : WordsAt H D ws as
  wl : H wa = some (.lst (ts.map .ref))
  wt : ∀ (j : Nat) (t : Addr) (p : List Nat × List Nat), ts[j]? = some t → wv[j]? = some p → H t = some (.tup (p.1.map nv))
  foll : ThAt H fa fo
  wf : wa ≠ fa
  fas : fa ∉ as
  new : ∀ b ∈ as, H0 b = none
theorem Srch.same {H0 H H' : Hp} {D wa fa : Addr} {ts : List Addr} {ws wv fo : TW} {as : List Addr} (S : Srch H0 H D wa fa ts ws wv fo as) (k : Same H H') : Srch H0 H' D wa fa ts ws wv fo as :=
  ⟨S.g.trans k, S.nD, S.nF, S.W.same k, k _ _ S.wl, fun j t p h1 h2 => k _ _ (S.wt j t p h1 h2), S.foll.same k, S.wf, S.fas, S.new⟩
theorem Srch.more {H0 H : Hp} {D wa fa l t : Addr} {tw : List Addr} {ws wv fo : TW} {as ts : List Addr} {p : List Nat × List Nat} (S : Srch H0 H D wa fa tw ws wv fo as) (hl : H l = some (.lst (p.2.map nv))) (lf : l ≠ fa) (l0 : H0 l = none) (ht : H t = some (.tup (p.1.map nv)))
    (e1 : H fa = some (.lst (ts.map .ref))) (e2 : ts.length = fo.length) (e3 : ∀ (j : Nat) (t : Addr) (p : List Nat × List Nat), ts[j]? = some t → fo[j]? = some p → H t = some (.tup (p.1.map nv))) :
    Srch H0 (upd (upd H D (.dT (kvsOf ws as ++ [(nk p.1, .ref l)]))) fa (.lst (ts.map .ref ++ [.ref t]))) D wa fa tw (ws ++ [p]) wv (fo ++ [p]) (as ++ [l]) := by
  have fD : fa ≠ D := ne_of e1 S.W.dict fun e => nomatch e
  have tD : ∀ {a : Addr} {xs : List V}, H a = some (.tup xs) → a ≠ D := fun h => ne_of h S.W.dict fun e => nomatch e
  have wD : wa ≠ D := ne_of S.wl S.W.dict fun e => nomatch e
  have tF : ∀ {a : Addr} {xs : List V}, H a = some (.tup xs) → a ≠ fa := fun h => ne_of h e1 fun e => nomatch e
  have W1 := S.W.put (l := l) (p := p) hl
  have f1 : (upd H D (.dT (kvsOf ws as ++ [(nk p.1, .ref l)]))) fa = some (.lst (ts.map .ref)) := by rw [upd_ne fD]; exact e1
  refine ⟨same_upd (same_upd S.g S.nD) S.nF, S.nD, S.nF, ⟨W1.len, ?_, fun j a q h1 h2 => ?_⟩, ?_, fun j a q h1 h2 => ?_, ?_, S.wf, ?_, fun b hb => (List.mem_append.mp hb).elim (S.new b) fun m => by rw [List.mem_singleton.mp m]; exact l0⟩
  · rw [upd_ne (Ne.symm fD)]
    exact W1.dict
  · have na : a ≠ fa := fun z => by
      subst z
      rcases List.mem_append.mp (List.mem_of_getElem? h1) with m | m
      · exact S.fas m
      · exact lf (List.mem_singleton.mp m).symm
    rw [upd_ne na]
    exact W1.list j a q h1 h2
  · rw [upd_ne S.wf, upd_ne wD]
    exact S.wl
  · have z := S.wt j a q h1 h2
    rw [upd_ne (tF z), upd_ne (tD z)]
    exact z
  · refine ThAt.more f1 e2 (fun j a q h1 h2 => ?_) ?_
    · have z := e3 j a q h1 h2
      rw [upd_ne (tD z)]
      exact z
    · rw [upd_ne (tD ht)]
      exact ht
  · intro m
    rcases List.mem_append.mp m with m | m
    · exact S.fas m
    · exact lf (List.mem_singleton.mp m).symm
section
variable {X : Cx} {H0 : Hp} {a st D wa fa : Addr} {sd : FuncData} {ps : List Str} {x0 : List Nat} {L : Nat} {U : List (List Nat)} {g : List Nat → Nat → List Nat}
abbrev tStep (X : Cx) : TS := tSeq (tAsg (tCallV X 2 (tCons (tVar 7) (tCons (tVar 8) tNil))) (gName 9)) (tIfS (tB (tDNotIn (tVar 9) (tVar 4)))
  (tSeq (sDPut (tVar 4) (tVar 9) (tOp (rCatS X.K) (tDGet (tVar 4) (tVar 7)) (tLst (tCons (tVar 8) tNil)))) (tSeq (tDrop (tCall spRefuse [] E0 (tCons (tVar 4) (tCons (tVar 3) tNil)))) (tDrop (tBM X.K "list" rAppend (tVar 6) (tCons (tVar 9) tNil))))) tNext)
abbrev tWave (X : Cx) : TS := tFor (iList X.K (tVar 5)) (gName 7) (tFor (iRng1 (tCons (tVar 1) tNil)) (gName 8) (tStep X))
abbrev tReach (X : Cx) : TS := tSeq (tAsg (tDisp1 (tVar 0) (tLst tNil)) (gName 4)) (tSeq (tDrop (tCall spRefuse [] E0 (tCons (tVar 4) (tCons (tVar 3) tNil)))) (tSeq (tAsg (tLst (tCons (tVar 0) tNil)) (gName 5))
  (tSeq (tWhile (fun σ H_1 Q => tVar 5 σ H_1 fun x H' => ∃ k, TruV X.K x H' k ∧ Q k H') (tSeq (tAsg (tLst tNil) (gName 6)) (tSeq (tWave X) (tAsg (tVar 6) (gName 5))))) (tRet (tVar 4)))))
theorem few_ws {d i j : Nat} {ws wv fo : TW} (h0 : x0 ∈ U) (hU : ∀ x ∈ U, ∀ l, l < L → g x l ∈ U) (B : Bfs g L x0 d ws wv fo i j) : ws.length ≤ U.length := by
  rw [← List.length_map (f := (·.1)) (as := ws)]
  exact few_of B.keys fun x hx => by
    obtain ⟨p, hp, rfl⟩ := List.mem_map.mp hx
    obtain ⟨r1, r2⟩ := B.run p hp
    rw [← r2]
    exact goes_in h0 hU p.2 r1
end
end L2
namespace L2
open PySem PySem.Spec PyProof.Rows
abbrev AskR (G : TW → Prop) (sR : Sp) (mo : V) (EE : XK) (g : List Nat → Nat → List Nat) (L : Nat) (x0 : List Nat) (H0 : Hp) : Prop := ∀ (H : Hp) (D : Addr) (ws : TW) (as : List Addr) (Q : VK), Same H0 H → WordsAt H D ws as → (ws.map (·.1)).Nodup → (∀ p ∈ ws, (∀ l ∈ p.2, l < L) ∧ goes g x0 p.2 = p.1) → (G ws → Q .non H) → sR [.ref D, mo] H Q EE
section
variable {G : TW → Prop} {sR : Sp} {mo : V} {EE : XK} {X : Cx} {H0 : Hp} {a st D wa fa : Addr} {sd : FuncData} {ps : List Str} {x0 : List Nat} {L : Nat} {U : List (List Nat)} {g : List Nat → Nat → List Nat}
abbrev tStepM (X : Cx) (sR : Sp) (EE : XK) : TS := tSeq (tAsg (tCallV X 2 (tCons (tVar 7) (tCons (tVar 8) tNil))) (gName 9)) (tIfS (tB (tDNotIn (tVar 9) (tVar 4)))
  (tSeq (sDPut (tVar 4) (tVar 9) (tOp (rCatS X.K) (tDGet (tVar 4) (tVar 7)) (tLst (tCons (tVar 8) tNil)))) (tSeq (tDrop (tCall sR [] EE (tCons (tVar 4) (tCons (tVar 3) tNil)))) (tDrop (tBM X.K "list" rAppend (tVar 6) (tCons (tVar 9) tNil))))) tNext)
theorem step_readM {d i j : Nat} {ws wv fo : TW} {as ts : List Addr} {th : Addr} {t : List Nat × List Nat} {H : Hp} {En : Ends} {o9 : Option V} (hR : AskR G sR mo EE g L x0 H0) (hr : Room 5 X.A) (hst : H0 st = some (LamO st sd)) (h0 : x0 ∈ U) (hU : ∀ x ∈ U, ∀ l, l < L → g x l ∈ U) (few : U.length ≤ 4000)
    (hF : FnOk X.prog X.w X.K X.mg X.base CX0 5 st sd ps (spStep (Same H0) U L g)) (hB : Binds X.K sd ps []) (gw : G ws) (B : Bfs g L x0 d ws wv fo i j) (ht : wv[i]? = some t) (hj : j < L) (hd : d + 1 ≤ ws.length) (S : Srch H0 H D wa fa ts ws wv fo as) (hth : H th = some (.tup (t.1.map nv)))
    (next : ∀ ws' fo' as' H' v, G ws' → Bfs g L x0 d ws' wv fo' i (j + 1) → Srch H0 H' D wa fa ts ws' wv fo' as' → ws'.length + fo.length = ws.length + fo'.length → H' th = some (.tup (t.1.map nv)) → En.nx [some (.ref a), some (nv L), some (.ref st), some mo, some (.ref D), some (.ref wa), some (.ref fa), some (.ref th), some (nv j), some v] H') :
    tStepM X sR EE En [some (.ref a), some (nv L), some (.ref st), some mo, some (.ref D), some (.ref wa), some (.ref fa), some (.ref th), some (nv j), o9] H := by
  have tw := (B.wave t (List.mem_of_getElem? ht)).1
  have tU : t.1 ∈ U := by
    obtain ⟨r1, r2⟩ := B.run t tw
    rw [← r2]
    exact goes_in h0 hU t.2 r1
  have fewW : ws.length ≤ 4000 := by
    have z : (ws.map (·.1)).length ≤ U.length := few_of B.keys fun x hx => by
      obtain ⟨p, hp, rfl⟩ := List.mem_map.mp hx
      obtain ⟨r1, r2⟩ := B.run p hp
      rw [← r2]
      exact goes_in h0 hU p.2 r1
    rw [List.length_map] at z
    omega
  refine ⟨_, rfl, st, sd, rfl, S.g _ _ hst, _, rfl, _, rfl, S.g _ _ hst, 5, ps, _, hF, hr, hB, th, t.1, j, rfl, S.g, hth, tU, hj, fun fn H1 g1 e1 => ?_⟩
  have S1 := S.same g1
  have hth1 := g1 _ _ hth
  refine ⟨_, rfl, _, rfl, D, _, rfl, DGet.t S1.W.dict (by rw [nk_kV]; exact e1), _, rfl, ?_⟩
  by_cases hm : g t.1 j ∈ ws.map (·.1)
  · obtain ⟨p, hp, e⟩ := List.mem_map.mp hm
    obtain ⟨c, v1, _⟩ := S1.W.word B.keys hp
    rw [← e, v1]
    rw [if_neg (by simp)]
    exact next ws fo as H1 _ gw (B.old ht hm) S1 rfl hth1
  · rw [val_no hm]
    refine iteT ?_
    obtain ⟨tw, tl⟩ := B.wave t (List.mem_of_getElem? ht)
    obtain ⟨c, v1, v2⟩ := S1.W.word B.keys tw
    have dg : DGet H1 D (.ref th) (some (.ref c)) := v1 ▸ DGet.t S1.W.dict (by rw [nk_kV]; exact hth1)
    refine ⟨_, rfl, _, rfl, D, _, rfl, dg, _, rfl, by show 1 ≤ sizeLine; decide, fun p hp => ?_⟩
    have k2 := same_new hp (.lst [nv j])
    refine ⟨c, p, _, _, rfl, rfl, SqL.of (k2 _ _ v2), SqL.of upd_same, by rw [List.length_map, tl, sizeLine_eq]; show d + 1 ≤ _; omega, fun l hl => ?_⟩
    have k3 := k2.trans (same_new hl (.lst (t.2.map nv ++ [nv j])))
    have S3 := S1.same k3
    have e3 := k3 _ _ e1
    have hl3 : upd (upd H1 p (.lst [nv j])) l (.lst (t.2.map nv ++ [nv j])) l = some (.lst ((t.2 ++ [j]).map nv)) := by rw [upd_same, List.map_append]; rfl
    have hth3 := k3 _ _ hth1
    obtain ⟨tf, f1, f2, f3⟩ := S3.foll
    have lf : l ≠ fa := fun z => by
      obtain ⟨_, q1, _⟩ := S1.foll
      have q2 := k2 _ _ q1
      rw [← z, hl] at q2
      cases q2
    generalize upd (upd H1 p (.lst [nv j])) l (.lst (t.2.map nv ++ [nv j])) = H3 at S3 e3 hl3 hth3 f1 f3 ⊢
    refine ⟨_, rfl, _, rfl, D, _, rfl, DPut.t S3.W.dict (by rw [nk_kV]; exact e3) (by rw [kvs_len S3.W.len, sizeLine_eq]; omega), ?_⟩
    rw [putK_new _ (val_no hm)]
    have fD : fa ≠ D := ne_of f1 S3.W.dict fun e => nomatch e
    have thD : th ≠ D := ne_of hth3 S3.W.dict fun e => nomatch e
    have thF : th ≠ fa := ne_of hth3 f1 fun e => nomatch e
    have ffD : (upd H3 D (.dT (kvsOf ws as ++ [(nk (g t.1 j), .ref l)]))) fa = some (.lst (tf.map .ref)) := by rw [upd_ne fD]; exact f1
    have fl : tf.length ≤ 4000 := by
      have z : (fo.map (·.1)).length ≤ ws.length := by
        rw [← List.length_map (f := (·.1)) (as := ws)]
        refine few_of ?_ fun x hx => ?_
        · refine (List.pairwise_map.mpr (B.fup.imp_of_mem fun {p q} hp hq h z => ?_))
          have r1 := (B.run p (B.foll p hp).1).2
          have r2 := (B.run q (B.foll q hq).1).2
          obtain ⟨i1, e1⟩ := List.mem_iff_getElem?.mp (B.foll p hp).1
          obtain ⟨i2, e2⟩ := List.mem_iff_getElem?.mp (B.foll q hq).1
          have ii : i1 = i2 := (List.getElem?_inj (by rw [List.length_map]; exact (List.getElem?_eq_some_iff.mp e1).1) B.keys).mp (by rw [List.getElem?_map, List.getElem?_map, e1, e2]; exact congrArg some z)
          subst ii
          rw [e1] at e2
          cases e2
          exact sl_irr h
        · obtain ⟨p, hp, rfl⟩ := List.mem_map.mp hx
          exact List.mem_map.mpr ⟨p, (B.foll p hp).1, rfl⟩
      rw [List.length_map] at z
      omega
    have Bn := B.new ht hj hm
    refine ⟨_, rfl, _, rfl, hR _ D (ws ++ [(g t.1 j, t.2 ++ [j])]) (as ++ [l]) _ (same_upd S3.g S3.nD) (S3.W.put (l := l) (p := (g t.1 j, t.2 ++ [j])) hl3) Bn.keys Bn.run fun gw' => ?_⟩
    refine ⟨_, rfl, .inl ⟨rfl, _, SqL.of ffD⟩, _, rfl, fa, _, _, rfl, rfl, ffD, by rw [List.length_map, sizeLine_eq]; omega, ?_⟩
    exact next (ws ++ [(g t.1 j, t.2 ++ [j])]) (fo ++ [(g t.1 j, t.2 ++ [j])]) (as ++ [l]) _ _ gw' (B.new ht hj hm) (S3.more (p := (g t.1 j, t.2 ++ [j])) hl3 lf ((S1.g.trans k2).free hl) e3 f1 f2 f3) (by simp; omega) (by rw [upd_ne thF, upd_ne thD]; exact hth3)
abbrev tWaveM (X : Cx) (sR : Sp) (EE : XK) : TS := tFor (iList X.K (tVar 5)) (gName 7) (tFor (iRng1 (tCons (tVar 1) tNil)) (gName 8) (tStepM X sR EE))
theorem wave_readM {d : Nat} {ws0 wv : TW} {as0 ts : List Addr} {H : Hp} {En : Ends} {o7 o8 o9 : Option V} (hR : AskR G sR mo EE g L x0 H0) (hr : Room 5 X.A) (hst : H0 st = some (LamO st sd)) (h0 : x0 ∈ U) (hU : ∀ x ∈ U, ∀ l, l < L → g x l ∈ U) (few : U.length ≤ 4000) (fewL : L ≤ 4000)
    (hF : FnOk X.prog X.w X.K X.mg X.base CX0 5 st sd ps (spStep (Same H0) U L g)) (hB : Binds X.K sd ps []) (gw : G ws0) (B : Bfs g L x0 d ws0 wv [] 0 0) (hd : d + 1 ≤ ws0.length) (S : Srch H0 H D wa fa ts ws0 wv [] as0) (lt : ts.length = wv.length)
    (next : ∀ ws fo as H' o7 o8 o9, G ws → Bfs g L x0 d ws wv fo wv.length 0 → Srch H0 H' D wa fa ts ws wv fo as → ws.length = ws0.length + fo.length → En.nx [some (.ref a), some (nv L), some (.ref st), some mo, some (.ref D), some (.ref wa), some (.ref fa), o7, o8, o9] H') :
    tWaveM X sR EE En [some (.ref a), some (nv L), some (.ref st), some mo, some (.ref D), some (.ref wa), some (.ref fa), o7, o8, o9] H := by
  let Pv : Nat → L2.St → Hp → Prop := fun i σ H' => ∃ ws fo as o7 o8 o9, G ws ∧ Bfs g L x0 d ws wv fo i 0 ∧ Srch H0 H' D wa fa ts ws wv fo as ∧ ws.length = ws0.length + fo.length ∧
    σ = [some (.ref a), some (nv L), some (.ref st), some mo, some (.ref D), some (.ref wa), some (.ref fa), o7, o8, o9]
  refine ⟨_, rfl, wa, rfl, ⟨_, SqL.of S.wl⟩, for_list (xs := ts.map .ref) Pv ⟨ws0, [], as0, o7, o8, o9, gw, B, S, by simp, rfl⟩ (fun i σ H' _ p => ?_) (fun i x σ H' hx p => ?_) (fun σ H' p => ?_)⟩
  · obtain ⟨_, _, _, _, _, _, _, _, S1, _⟩ := p
    exact SqL.of S1.wl
  · obtain ⟨ws, fo, as, p7, p8, p9, g1, B1, S1, l1, rfl⟩ := p
    rw [List.getElem?_map] at hx
    obtain ⟨th, eth, rfl⟩ := Option.map_eq_some_iff.mp hx
    obtain ⟨hi, _⟩ := List.getElem?_eq_some_iff.mp eth
    obtain ⟨t, ht⟩ : ∃ t, wv[i]? = some t := ⟨_, List.getElem?_eq_getElem (by omega)⟩
    let Pj : Nat → L2.St → Hp → Prop := fun j σ H2 => ∃ ws fo as o8 o9, G ws ∧ Bfs g L x0 d ws wv fo i j ∧ Srch H0 H2 D wa fa ts ws wv fo as ∧ ws.length = ws0.length + fo.length ∧
      σ = [some (.ref a), some (nv L), some (.ref st), some mo, some (.ref D), some (.ref wa), some (.ref fa), some (.ref th), o8, o9]
    refine ⟨_, rfl, (L : Int), rfl, by omega, by omega, for_range Pj ⟨ws, fo, as, p8, p9, g1, B1, S1, l1, rfl⟩ (fun j σ H2 hj p => ?_) (fun σ H2 p => ?_)⟩
    · obtain ⟨ws', fo', as', q8, q9, g2, B2, S2, l2, rfl⟩ := p
      have z : (0 : Int) + ((j : Nat) : Int) = ((j : Nat) : Int) := by omega
      rw [z]
      refine step_readM (t := t) hR hr hst h0 hU few hF hB g2 B2 ht (by simpa using hj) (by omega) S2 (S2.wt i th t eth ht) fun w3 f3 a3 H3 v g3 B3 S3 l3 _ => ⟨w3, f3, a3, _, _, g3, B3, S3, by omega, rfl⟩
    · obtain ⟨ws', fo', as', q8, q9, g2, B2, S2, l2, rfl⟩ := p
      exact ⟨ws', fo', as', _, _, _, g2, Bfs.next (by simpa using B2) ht, S2, l2, rfl⟩
  · obtain ⟨ws, fo, as, p7, p8, p9, g1, B1, S1, l1, rfl⟩ := p
    rw [List.length_map, lt] at B1
    exact next ws fo as H' p7 p8 p9 g1 B1 S1 l1
abbrev tReachM (X : Cx) (sR : Sp) (EE : XK) : TS := tSeq (tAsg (tDisp1 (tVar 0) (tLst tNil)) (gName 4)) (tSeq (tDrop (tCall sR [] EE (tCons (tVar 4) (tCons (tVar 3) tNil)))) (tSeq (tAsg (tLst (tCons (tVar 0) tNil)) (gName 5))
  (tSeq (tWhile (fun σ H_1 Q => tVar 5 σ H_1 fun x H' => ∃ k, TruV X.K x H' k ∧ Q k H') (tSeq (tAsg (tLst tNil) (gName 6)) (tSeq (tWaveM X sR EE) (tAsg (tVar 6) (gName 5))))) (tRet (tVar 4)))))
theorem reach_readM {En : Ends} (hR : AskR G sR mo EE g L x0 H0) (hr : Room 5 X.A) (ha : H0 a = some (.tup (x0.map nv))) (hst : H0 st = some (LamO st sd)) (h0 : x0 ∈ U) (hU : ∀ x ∈ U, ∀ l, l < L → g x l ∈ U) (few : U.length ≤ 4000) (fewL : L ≤ 4000)
    (hF : FnOk X.prog X.w X.K X.mg X.base CX0 5 st sd ps (spStep (Same H0) U L g)) (hB : Binds X.K sd ps []) (q : ∀ D ws as H', Same H0 H' → WordsAt H' D ws as → (∀ b ∈ D :: as, H0 b = none) → Told g L x0 ws → G ws → En.rt (.ref D) H') :
    tReachM X sR EE En [some (.ref a), some (nv L), some (.ref st), some mo, none, none, none, none, none, none] H0 := by
  intro D hD
  have kD := same_new hD (.dT [])
  refine ⟨_, rfl, by show 0 ≤ sizeLine; decide, fun l hl => ?_⟩
  have kl := same_new hl (.lst [])
  refine ⟨kl _ _ upd_same, a, nk x0, rfl, by rw [nk_kV]; exact (kD.trans kl) _ _ ha, ?_⟩
  have lD : l ≠ D := fun z => by
    subst z
    rw [upd_same] at hl
    cases hl
  have W0 : WordsAt (upd (upd (upd H0 D (.dT [])) l (.lst [])) D (.dT [(nk x0, .ref l)])) D [(x0, [])] [l] := ⟨rfl, upd_same, fun j b p h1 h2 => by
    cases j with
    | zero =>
      cases h1
      cases h2
      rw [upd_ne lD, upd_same]
      rfl
    | succ j => simp at h1⟩
  have g0 : Same H0 (upd (upd (upd H0 D (.dT [])) l (.lst [])) D (.dT [(nk x0, .ref l)])) := same_upd (kD.trans kl) hD
  generalize upd (upd (upd H0 D (.dT [])) l (.lst [])) D (.dT [(nk x0, .ref l)]) = H1 at W0 g0 ⊢
  refine ⟨_, rfl, _, rfl, hR _ D [(x0, [])] [l] _ g0 W0 (by simp) (fun p hp => by rw [List.mem_singleton.mp hp]; exact ⟨fun l hl => (nomatch hl), rfl⟩) fun gw => ?_⟩
  refine ⟨_, rfl, by show 1 ≤ sizeLine; decide, fun wa hw => ?_⟩
  have kw := same_new hw (.lst [.ref a])
  let Wv : Nat → L2.St → Hp → Prop := fun m σ H => ∃ (d : Nat) (ws wv : TW) (as : List Addr) (wa : Addr) (ts : List Addr) (o6 o7 o8 o9 : Option V), G ws ∧ Bfs g L x0 d ws wv [] 0 0 ∧ WordsAt H D ws as ∧ H wa = some (.lst (ts.map .ref)) ∧ (∀ (j : Nat) (t : Addr) (p : List Nat × List Nat), ts[j]? = some t → wv[j]? = some p → H t = some (.tup (p.1.map nv))) ∧ ts.length = wv.length ∧ Same H0 H ∧ (∀ b ∈ as, H0 b = none) ∧
      (wv ≠ [] → d + 1 ≤ ws.length) ∧ m = 2 * (U.length - ws.length) + (if wv = [] then 0 else 1) ∧ σ = [some (.ref a), some (nv L), some (.ref st), some mo, some (.ref D), some (.ref wa), o6, o7, o8, o9]
  refine ⟨Wv, ⟨_, 0, [(x0, [])], [(x0, [])], [l], wa, [a], none, none, none, none, gw, Bfs.start, W0.same kw, upd_same, ?_, rfl, g0.trans kw, fun b hb => (by rw [List.mem_singleton.mp hb]; exact kD.free hl), fun _ => Nat.le_refl _, rfl, rfl⟩, fun m σ H P => ?_⟩
  · intro j t p h1 h2
    cases j with
    | zero =>
      cases h1
      cases h2
      exact (g0.trans kw) _ _ ha
    | succ j => simp at h1
  · obtain ⟨d, ws, wv, as, wa, ts, o6, o7, o8, o9, gw, B, W, wl, wt, lt, gg, nw, deep, hm, rfl⟩ := P
    refine ⟨_, rfl, !(ts.map V.ref).isEmpty, .inl ⟨_, SqL.of wl, rfl⟩, ?_⟩
    by_cases hwv : wv = []
    · subst hwv
      have e : ts = [] := List.length_eq_zero_iff.mp lt
      subst e
      rw [if_neg (by simp)]
      exact ⟨_, rfl, q D ws as H gg W (fun b hb => (List.mem_cons.mp hb).elim (fun e => e ▸ hD) (nw b)) B.told gw⟩
    · have ne : ts ≠ [] := fun z => hwv (List.length_eq_zero_iff.mp (by rw [← lt, z]; rfl))
      have c1 : (!(ts.map V.ref).isEmpty) = true := by
        cases ts with
        | nil => exact absurd rfl ne
        | cons => rfl
      rw [c1]
      refine iteT ?_
      refine ⟨fun σ' H' => ∃ m', m' < m ∧ Wv m' σ' H', fun σ' H' h => h, by show 0 ≤ sizeLine; decide, fun fa hfa => ?_⟩
      have kf := same_new hfa (.lst [])
      have fas : fa ∉ as := fun m => by
        obtain ⟨j, e⟩ := List.mem_iff_getElem?.mp m
        obtain ⟨hj, _⟩ := List.getElem?_eq_some_iff.mp e
        have z := W.list j fa _ e (List.getElem?_eq_getElem (by rw [← W.len]; exact hj))
        rw [hfa] at z
        cases z
      have S : Srch H0 (upd H fa (.lst [])) D wa fa ts ws wv [] as := ⟨gg.trans kf, hD, gg.free hfa, W.same kf, kf _ _ wl, fun j t p h1 h2 => kf _ _ (wt j t p h1 h2), ⟨[], upd_same, rfl, fun j t p h1 _ => by simp at h1⟩, ne_of_none wl hfa, fas, nw⟩
      refine wave_readM (En := { En with nx := _, ct := _, bk := _ }) hR hr hst h0 hU few fewL hF hB gw B (deep hwv) S lt fun ws' fo as' H' p7 p8 p9 gw' B' S' l' => ?_
      obtain ⟨tf, f1, f2, f3⟩ := S'.foll
      have z1 := few_ws h0 hU B'
      have z2 := deep hwv
      refine ⟨_, rfl, 2 * (U.length - ws'.length) + (if fo = [] then 0 else 1), ?_, d + 1, ws', fo, as', fa, tf, _, _, _, _, gw', B'.wave', S'.W, f1, f3, f2, S'.g, S'.new, fun nf => ?_, rfl, rfl⟩
      · rw [hm, if_neg hwv]
        by_cases hf : fo = []
        · subst hf
          rw [if_pos rfl]
          simp at l'
          omega
        · have := List.length_pos_iff.mpr hf
          rw [if_neg hf]
          omega
      · have := List.length_pos_iff.mpr nf
        omega
end
end L2
namespace L2
structure Que (f : List Nat → Nat → List Nat) (L : Nat) (x0 : List Nat) (ws : TW) (i j : Nat) : Prop where
  head : ws[0]? = some (x0, [])
  keys : (ws.map (·.1)).Nodup
  run : ∀ p ∈ ws, (∀ l ∈ p.2, l < L) ∧ goes f x0 p.2 = p.1
  up : ws.Pairwise fun p q => sl p.2 q.2
  done : ∀ (a : Nat) p, a < i → ws[a]? = some p → ∀ l, l < L → Goes f ws p l
  part : ∀ p, ws[i]? = some p → ∀ l, l < j → Goes f ws p l
  front : ∀ t, ws[i]? = some t → ∀ p ∈ ws, sl p.2 (t.2 ++ [j])
  short : ∀ (a : Nat) p, ws[a]? = some p → p.2.length ≤ a
section
variable {f : List Nat → Nat → List Nat} {L : Nat} {x0 : List Nat} {ws : TW} {i j : Nat} {t : List Nat × List Nat}
theorem Que.start : Que f L x0 [(x0, [])] 0 0 where
  head := rfl
  keys := by simp
  run := fun p hp => by
    rw [List.mem_singleton.mp hp]
    exact ⟨fun l hl => (nomatch hl), rfl⟩
  up := List.pairwise_singleton _ _
  done := fun a p h => absurd h (Nat.not_lt_zero _)
  part := fun p _ l h => absurd h (Nat.not_lt_zero _)
  front := fun t _ p hp => by
    rw [List.mem_singleton.mp hp]
    exact .inl (by simp)
  short := fun a p h => by
    have z : p ∈ [(x0, ([] : List Nat))] := List.mem_of_getElem? h
    rw [List.mem_singleton.mp z]
    exact Nat.zero_le _
theorem Que.old (q : Que f L x0 ws i j) (ht : ws[i]? = some t) (h : f t.1 j ∈ ws.map (·.1)) : Que f L x0 ws i (j + 1) := by
  refine ⟨q.head, q.keys, q.run, q.up, q.done, fun p hp l hl => ?_, fun t' ht' p hp => ?_, q.short⟩
  · by_cases e : l < j
    · exact q.part p hp l e
    · have e' : l = j := by omega
      subst e'
      rw [ht] at hp
      cases hp
      obtain ⟨r, hr, er⟩ := List.mem_map.mp h
      exact ⟨r.2, by rw [← er]; exact hr, .inr (q.front t ht r hr)⟩
  · rw [ht] at ht'
    cases ht'
    exact sl_trans (q.front t ht p hp) (sl_last _ (Nat.lt_succ_self _))
theorem Que.new (q : Que f L x0 ws i j) (ht : ws[i]? = some t) (hj : j < L) (h : f t.1 j ∉ ws.map (·.1)) : Que f L x0 (ws ++ [(f t.1 j, t.2 ++ [j])]) i (j + 1) := by
  obtain ⟨li, _⟩ := List.getElem?_eq_some_iff.mp ht
  have at1 : ∀ {a : Nat} {p : List Nat × List Nat}, a ≤ i → (ws ++ [(f t.1 j, t.2 ++ [j])])[a]? = some p → ws[a]? = some p := fun {a p} ha e => by
    rwa [List.getElem?_append_left (by omega)] at e
  refine ⟨?_, ?_, fun p hp => ?_, ?_, fun a p ha hp l hl => ?_, fun p hp l hl => ?_, fun t' ht' p hp => ?_, fun a p hp => ?_⟩
  · rw [List.getElem?_append_left (by omega)]
    exact q.head
  · rw [List.map_append, List.nodup_append]
    refine ⟨q.keys, by simp, fun x hx y hy => ?_⟩
    have e : y = f t.1 j := by simpa using hy
    subst e
    exact fun z => h (z ▸ hx)
  · rcases List.mem_append.mp hp with z | z
    · exact q.run p z
    · rw [List.mem_singleton.mp z]
      obtain ⟨r1, r2⟩ := q.run t (List.mem_of_getElem? ht)
      refine ⟨fun l hl => ?_, ?_⟩
      · rcases List.mem_append.mp hl with y | y
        · exact r1 l y
        · rw [List.mem_singleton.mp y]
          exact hj
      · show (t.2 ++ [j]).foldl f x0 = f t.1 j
        rw [List.foldl_append, ← r2]
        rfl
  · refine List.pairwise_append.mpr ⟨q.up, List.pairwise_singleton _ _, fun p hp r hr => ?_⟩
    rw [List.mem_singleton.mp hr]
    exact q.front t ht p hp
  · exact (q.done a p ha (at1 (by omega) hp) l hl).more
  · have hp' := at1 (Nat.le_refl _) hp
    by_cases e : l < j
    · exact (q.part p hp' l e).more
    · have e' : l = j := by omega
      subst e'
      rw [ht] at hp'
      cases hp'
      exact ⟨_, List.mem_append_right _ (List.mem_singleton.mpr rfl), .inl rfl⟩
  · have e := at1 (Nat.le_refl _) ht'
    rw [ht] at e
    cases e
    rcases List.mem_append.mp hp with z | z
    · exact sl_trans (q.front t ht p z) (sl_last _ (Nat.lt_succ_self _))
    · rw [List.mem_singleton.mp z]
      exact sl_last _ (Nat.lt_succ_self _)
  · by_cases e : a < ws.length
    · rw [List.getElem?_append_left e] at hp
      exact q.short a p hp
    · have la := (List.getElem?_eq_some_iff.mp hp).1
      rw [List.length_append] at la
      have ea : a = ws.length := by
        have : a < ws.length + 1 := la
        omega
      rw [ea, List.getElem?_append_right (Nat.le_refl _), Nat.sub_self] at hp
      cases hp
      have := q.short i t ht
      simp
      omega
theorem Que.next (q : Que f L x0 ws i L) (ht : ws[i]? = some t) : Que f L x0 ws (i + 1) 0 := by
  refine ⟨q.head, q.keys, q.run, q.up, fun a p ha hp => ?_, fun p _ l hl => absurd hl (Nat.not_lt_zero _), fun t' ht' p hp => ?_, q.short⟩
  · by_cases e : a < i
    · exact q.done a p e hp
    · have e' : a = i := by omega
      subst e'
      exact q.part p hp
  · obtain ⟨l1, e1⟩ := List.getElem?_eq_some_iff.mp ht
    obtain ⟨l2, e2⟩ := List.getElem?_eq_some_iff.mp ht'
    have up := List.pairwise_iff_getElem.mp q.up i (i + 1) l1 l2 (Nat.lt_succ_self _)
    rw [e1, e2] at up
    exact sl_trans (q.front t ht p hp) (sl_snoc up)
theorem Que.told (q : Que f L x0 ws i j) (h : ws.length ≤ i) : Told f L x0 ws := by
  refine ⟨q.head, q.keys, q.run, q.up, fun p hp => ?_, fun p hp => ?_⟩
  · obtain ⟨a, e⟩ := List.mem_iff_getElem?.mp hp
    exact q.done a p (by have := (List.getElem?_eq_some_iff.mp e).1; omega) e
  · obtain ⟨a, e⟩ := List.mem_iff_getElem?.mp hp
    have := (List.getElem?_eq_some_iff.mp e).1
    have := q.short a p e
    omega
end
end L2
namespace L2
open PySem PySem.Spec PyProof.Rows
structure QAt (H0 H : Hp) (D S : Addr) (ts : List Addr) (ws : TW) (as : List Addr) : Prop where
  g : Same H0 H
  nD : H0 D = none
  nS : H0 S = none
  W : WordsAt H D ws as
  lst : H S = some (.lst (ts.map .ref))
  len : ts.length = ws.length
  each : ∀ (j : Nat) (t : Addr) (p : List Nat × List Nat), ts[j]? = some t → ws[j]? = some p → H t = some (.tup (p.1.map nv))
  out : S ∉ as
theorem QAt.same {H0 H H' : Hp} {D S : Addr} {ts as : List Addr} {ws : TW} (q : QAt H0 H D S ts ws as) (k : Same H H') : QAt H0 H' D S ts ws as :=
  ⟨q.g.trans k, q.nD, q.nS, q.W.same k, k _ _ q.lst, q.len, fun j t p h1 h2 => k _ _ (q.each j t p h1 h2), q.out⟩
theorem QAt.more {H0 H : Hp} {D S l t : Addr} {ts as : List Addr} {ws : TW} {p : List Nat × List Nat} (q : QAt H0 H D S ts ws as) (hl : H l = some (.lst (p.2.map nv))) (lS : l ≠ S) (ht : H t = some (.tup (p.1.map nv))) :
    QAt H0 (upd (upd H D (.dT (kvsOf ws as ++ [(nk p.1, .ref l)]))) S (.lst (ts.map .ref ++ [.ref t]))) D S (ts ++ [t]) (ws ++ [p]) (as ++ [l]) := by
  have SD : S ≠ D := ne_of q.lst q.W.dict fun e => nomatch e
  have off : ∀ {a : Addr} {xs : List V}, H a = some (.tup xs) → (upd (upd H D (.dT (kvsOf ws as ++ [(nk p.1, .ref l)]))) S (.lst (ts.map .ref ++ [.ref t]))) a = some (.tup xs) := fun h => by
    rw [upd_ne (ne_of h q.lst fun e => nomatch e), upd_ne (ne_of h q.W.dict fun e => nomatch e)]
    exact h
  have W1 := q.W.put (l := l) (p := p) hl
  refine ⟨same_upd (same_upd q.g q.nD) q.nS, q.nD, q.nS, ⟨W1.len, ?_, fun j a r h1 h2 => ?_⟩, ?_, by simp [q.len], fun j a r e1 e2 => ?_, fun m => ?_⟩
  · rw [upd_ne (Ne.symm SD)]
    exact W1.dict
  · have na : a ≠ S := fun z => by
      subst z
      rcases List.mem_append.mp (List.mem_of_getElem? h1) with m | m
      · exact q.out m
      · exact lS (List.mem_singleton.mp m).symm
    rw [upd_ne na]
    exact W1.list j a r h1 h2
  · rw [upd_same, List.map_append]
    rfl
  · by_cases hj : j < ws.length
    · rw [List.getElem?_append_left (by rw [q.len]; exact hj)] at e1
      rw [List.getElem?_append_left hj] at e2
      exact off (q.each j a r e1 e2)
    · rw [List.getElem?_append_right (by rw [q.len]; omega)] at e1
      rw [List.getElem?_append_right (by omega)] at e2
      have z : j - ws.length = 0 := by
        have := (List.getElem?_eq_some_iff.mp e2).1
        simp at this
        omega
      rw [q.len, z] at e1
      rw [z] at e2
      cases e1
      cases e2
      exact off ht
  · rcases List.mem_append.mp m with m | m
    · exact q.out m
    · exact lS (List.mem_singleton.mp m).symm
section
variable {X : Cx}
def rGetT : V → List V → Hp → VK → Prop := fun x xs H Q => ∃ a b kvs k, x = .ref a ∧ xs = [V.ref b] ∧ H a = some (.dT kvs) ∧ H b = some (.tup (k.map kV)) ∧ Q ((valV kvs k).getD .non) H
end
end L2
namespace L2
open PySem PySem.Spec PyProof.Rows
end L2
namespace L2
open PySem PySem.Spec PyProof.Rows
section
variable {X : Cx}
def rInD (K : PySem.W.Frag) (neg : Bool) : R2 := fun x y H Q => ∃ (l : Addr) (n : Nat) (d : Dt) (ds : List Dt) (xs : List V), y = .ref l ∧ SqL K H l xs ∧ xs.length = ds.length ∧ Rep K H n d x ∧ (∀ (i : Nat) d' v, ds[i]? = some d' → xs[i]? = some v → Rep K H n d' v) ∧ n ≤ 30 ∧ ∀ b, (b = true ↔ d ∈ ds) → Q (.bl (if neg then !b else b)) H
theorem pg_own2 {x y : Str} {p q tp : Pos} {k : Nat} {sc : Scope} (S : CompScope X [x, y] sc) (hc : X.calm = true) (hx : sc.names.lookup x = some .local) (hy : sc.names.lookup y = some .local) :
    ∀ C s H fp, PG (cxC X [x, y] sc C s H fp) (.Tuple [.Name x p, .Name y q] k tp) (gTup X.K 2 (gCons (gName 0) (gCons (gName 1) gNil))) := fun C s H fp =>
  pg_tup hc (pgs_cons (pg_name S.nd rfl (.inl (lookup_relabel_local hx)) (.inr (lookup_relabel_local hx))) (pgs_cons (pg_name S.nd rfl (.inl (lookup_relabel_local hy)) (.inr (lookup_relabel_local hy))) pgs_nil))
end
end L2
namespace L2
open PySem PySem.Spec PyProof.Rows
section
variable {X : Cx}
def rIndexD (K : PySem.W.Frag) : V → List V → Hp → VK → Prop := fun x vs H Q => ∃ (l : Addr) (y : V) (n : Nat) (d : Dt) (ds : List Dt) (xs : List V) (j : Nat), x = .ref l ∧ vs = [y] ∧ SqL K H l xs ∧ xs.length = ds.length ∧ Rep K H n d y ∧ (∀ (i : Nat) d' v, ds[i]? = some d' → xs[i]? = some v → Rep K H n d' v) ∧ n ≤ 30 ∧ ds[j]? = some d ∧ (∀ i : Nat, i < j → ds[i]? ≠ some d) ∧ Q (.int (j : Nat)) H
end
end L2
namespace L2
open PySem PySem.Spec PyProof.Rows
section
variable {P : Program} {w : World} {A : Around} {E : Value → Shared → Prop} {s : Shared} {it d : Addr} {i ep : Nat} {es : Array DictEntry}
abbrev stepObj (d : Addr) (i n ep : Nat) : Obj := { cls := .type "dict_keyiterator", data := .fields #[.ref d, .int i 0, .int n 0, .int ep 0] }
end
end L2
namespace L2
open PySem PySem.W PyProof.Rows
section
variable (n : Nat) (k : Nat → Int)
def KOk {α : Type} : KasT α → (α → Prop) → Prop
  | .ret a, R => R a
  | .ask i j f, R => i < n ∧ j < n ∧ KOk (f (decide (k i < k j))) R
def Arr (p : Array Nat) : Prop := p.Perm (List.range n).toArray
def SUp (p : Array Nat) (m : Nat) : Prop := ∀ a b, a < b → b < m → k (p.getD a 0) < k (p.getD b 0)
def SDn (p : Array Nat) (m : Nat) : Prop := ∀ a b, a < b → b < m → k (p.getD b 0) < k (p.getD a 0)
variable {n k}
theorem KOk.bind {α β : Type} {f : α → KasT β} {R : α → Prop} {R' : β → Prop} (h : ∀ a, R a → KOk n k (f a) R') : ∀ t : KasT α, KOk n k t R → KOk n k (t.bind f) R'
  | .ret a, q => h a q
  | .ask i j g, q => ⟨q.1, q.2.1, KOk.bind h (g _) q.2.2⟩
theorem KOk.wp {α : Type} {cmp : Nat → Nat → (Bool → Shared → Prop) → Shared → Prop} {s : Shared} {R : α → Prop} {Q : α → Shared → Prop} (hc : ∀ i j (C : Bool → Shared → Prop), i < n → j < n → C (decide (k i < k j)) s → cmp i j C s) (hq : ∀ a, R a → Q a s) :
    ∀ t : KasT α, KOk n k t R → t.kasWp cmp Q s
  | .ret a, q => hq a q
  | .ask i j g, q => hc i j _ q.1 q.2.1 (KOk.wp hc hq (g _) q.2.2)
theorem Arr.size {p : Array Nat} (h : Arr n p) : p.size = n := by
  have z := (Array.perm_iff_toList_perm.mp h).length_eq
  simpa using z
theorem Arr.at {p : Array Nat} (h : Arr n p) {i : Nat} (hi : i < n) : p.getD i 0 < n ∧ p[i]? = some (p.getD i 0) := by
  have hs := h.size
  have e : p[i]? = some (p.getD i 0) := by
    rw [Array.getD_eq_getD_getElem?, Array.getElem?_eq_getElem (by omega)]
    rfl
  refine ⟨?_, e⟩
  have m : p.getD i 0 ∈ p := Array.mem_of_getElem? e
  have m2 := (Array.Perm.mem_iff h).mp m
  simpa using m2
theorem Arr.inj {p : Array Nat} (h : Arr n p) {i j : Nat} (hi : i < n) (hj : j < n) (e : p.getD i 0 = p.getD j 0) : i = j := by
  have nd : p.toList.Nodup := (Array.perm_iff_toList_perm.mp h).nodup_iff.mpr (by simpa using List.nodup_range)
  have e1 := (h.at hi).2
  have e2 := (h.at hj).2
  rw [← e] at e2
  rw [← Array.getElem?_toList] at e1 e2
  exact (List.getElem?_inj (by rw [Array.length_toList, h.size]; exact hi) nd).mp (e1.trans e2.symm)
variable (inj : ∀ i j, i < n → j < n → k i = k j → i = j)
include inj
end
end L2
namespace L2
open PySem PySem.Spec PySem.W PyProof.Rows
section
variable {P : Program} {w : World} {A : Around} {E : Value → Shared → Prop} {s : Shared} {a : Addr} {vs ks : List Value} {k : Nat → Int}
def AskOk (P : Program) (w : World) (A : Around) (ks : List Value) (lt : Nat → Nat → Bool) (s : Shared) : Prop :=
  wpAny (model P w) A (keyKind' ks.toArray) (fun κ s' => s' = s ∧ ∀ i j (C : Bool → Shared → Prop), i < ks.length → j < ks.length → C (lt i j) s → kas_ask P w A κ ks i j C s) (fun _ _ => False) s
abbrev picked (vs : List Value) (p : Array Nat) : List Value := p.toList.map fun i => vs.getD i Value.none
end
end L2
namespace L2
open PySem PySem.Spec PySem.W PyProof.Rows
theorem count_less {α : Type} {p q : α → Bool} : ∀ {xs : List α}, (∀ z ∈ xs, p z = true → q z = true) → (∃ z ∈ xs, p z = false ∧ q z = true) → xs.countP p < xs.countP q
  | [], _, h => by obtain ⟨z, hz, _⟩ := h; cases hz
  | x :: xs, mono, h => by
    have le : xs.countP p ≤ xs.countP q := List.countP_mono_left fun z hz => mono z (List.mem_cons_of_mem _ hz)
    rw [List.countP_cons, List.countP_cons]
    obtain ⟨z, hz, h1, h2⟩ := h
    rcases List.mem_cons.mp hz with e | hz
    · subst e
      rw [h1, h2]
      simp
      omega
    · have ih := count_less (xs := xs) (fun y hy => mono y (List.mem_cons_of_mem _ hy)) ⟨z, hz, h1, h2⟩
      have m := mono x (List.mem_cons_self ..)
      cases e1 : p x with
      | false => cases q x <;> simp <;> omega
      | true => rw [m e1]; simp; omega
structure Total {α : Type} (lt : α → α → Bool) (xs : List α) : Prop where
  irr : ∀ x, lt x x = false
  trans : ∀ x y z, lt x y = true → lt y z = true → lt x z = true
  tot : ∀ x ∈ xs, ∀ y ∈ xs, x ≠ y → lt x y = true ∨ lt y x = true
def rankOf {α : Type} (lt : α → α → Bool) (xs : List α) (x : α) : Int := ((xs.countP fun y => lt y x) : Nat)
section
variable {α : Type} {lt : α → α → Bool} {xs : List α} (T : Total lt xs)
include T
theorem Total.up {x y : α} (hx : x ∈ xs) (h : lt x y = true) : rankOf lt xs x < rankOf lt xs y := by
  unfold rankOf
  have z := count_less (xs := xs) (p := fun z => lt z x) (q := fun z => lt z y) (fun z _ hz => T.trans _ _ _ hz h) ⟨x, hx, T.irr x, h⟩
  omega
theorem Total.same {x y : α} (hx : x ∈ xs) (hy : y ∈ xs) (h : rankOf lt xs x = rankOf lt xs y) : x = y := by
  refine Classical.byContradiction fun e => ?_
  rcases T.tot x hx y hy e with z | z
  · have := T.up hx z
    omega
  · have := T.up hy z
    omega
end
section
variable {P : Program} {w : World} {A : Around} {E : Value → Shared → Prop} {s : Shared}
def TupN (h : Heap) (v : Value) (ns : List Nat) : Prop := ∃ a o its c, v = .ref a ∧ h.get? a = some o ∧ o.cls = .type "tuple" ∧ o.data = .seq its c ∧ Vals (ns.map nv) its.toList
end
end L2
namespace L2
open PySem PySem.Spec PySem.W PyProof.Rows
section
variable {P : Program} {w : World} {A : Around} {E : Value → Shared → Prop} {s : Shared} {vs : List Value} {k : Nat → Int}
end
structure TupsAt (H : Hp) (bs : List Addr) (us : List (List Nat)) : Prop where
  len : bs.length = us.length
  is : ∀ (i : Nat) (b : Addr) (u : List Nat), bs[i]? = some b → us[i]? = some u → H b = some (.tup (u.map nv))
theorem TupsAt.same {H H' : Hp} {bs : List Addr} {us : List (List Nat)} (h : TupsAt H bs us) (g : Same H H') : TupsAt H' bs us := ⟨h.len, fun i b u e1 e2 => g _ _ (h.is i b u e1 e2)⟩
theorem TupsAt.pick {H : Hp} {bs : List Addr} {us : List (List Nat)} (h : TupsAt H bs us) {p : Array Nat} (ar : Arr us.length p) : TupsAt H (p.toList.map fun i => bs.getD i 0) (p.toList.map fun i => us.getD i []) := by
  refine ⟨by simp, fun i b u e1 e2 => ?_⟩
  rw [List.getElem?_map] at e1 e2
  obtain ⟨j, ej, rfl⟩ := Option.map_eq_some_iff.mp e1
  rw [ej] at e2
  cases e2
  have lj : j < us.length := by
    have m := (Array.perm_iff_toList_perm.mp ar).mem_iff.mp (List.mem_of_getElem? ej)
    simpa using m
  have lb := h.len
  refine h.is j _ _ ?_ ?_
  · rw [List.getD_eq_getElem?_getD, List.getElem?_eq_getElem (by omega)]
    rfl
  · show us[j]? = some (us.getD j [])
    rw [List.getD_eq_getElem?_getD, List.getElem?_eq_getElem lj]
    rfl
section
variable {X : Cx}
def rSortT (K : PySem.W.Frag) : List V → Hp → VK → Prop := fun xs H Q => ∃ l as ts, xs = [V.ref l] ∧ SqL K H l (as.map V.ref) ∧ TupsAt H as ts ∧ (∀ t ∈ ts, t ≠ []) ∧ ts.Nodup ∧ ts.length < 64 ∧
  ∀ D bs us, H D = none → TupsAt H bs us → us.Perm ts → us.Pairwise (fun x y => ltl x y = true) → Q (.ref D) (upd H D (.lst (bs.map V.ref)))
end
end L2
namespace L2
open PySem PySem.Spec PySem.W PyProof.Rows
def byKey (g : List Nat → Int) (t u : List Nat) : Bool := plt (g t) t (g u) u
def KeyAt (H : Hp) (g : List Nat → Int) (κ a : Addr) (t : List Nat) : Prop := H κ = some (.tup [.int (g t), .ref a]) ∧ H a = some (.tup (t.map nv))
structure KeysAt (H : Hp) (g : List Nat → Int) (κs as : List Addr) (ts : List (List Nat)) : Prop where
  l1 : κs.length = ts.length
  l2 : as.length = ts.length
  is : ∀ (i : Nat) κ a t, κs[i]? = some κ → as[i]? = some a → ts[i]? = some t → KeyAt H g κ a t
section
variable {X : Cx} {pins : List (Addr × Obj)} {σ : St} {H : Hp} {s : Shared} {g : List Nat → Int}
end
def spKey (g : List Nat → Int) : Sp := fun vs H Q _ => ∃ (a : Addr) (t : List Nat), vs = [.ref a] ∧ H a = some (.tup (t.map nv)) ∧ ∀ κ H', Same H H' → H' κ = some (.tup [.int (g t), .ref a]) → Q (.ref κ) H'
section
variable {X : Cx} {pins : List (Addr × Obj)} {σ : St} {kk : Nat} {f : Addr} {fd : FuncData} {ps : List Str} {g : List Nat → Int}
theorem FpOk.to {H H' : Hp} {b : Addr} (h : FpOk X pins H b) (e : H' b = none) : FpOk X pins H' b := ⟨e, h.2⟩
end
end L2
namespace L2
open PySem PySem.Spec PySem.W PyProof.Rows
section
variable {X : Cx} {pins : List (Addr × Obj)} {σ : St} {H : Hp} {s : Shared} {kk : Nat} {f D : Addr} {fd : FuncData} {ps : List Str} {g : List Nat → Int} {as : List Addr} {ts : List (List Nat)} {E : Value → Shared → Prop}
end
end L2
namespace L2
open PySem PySem.Spec PySem.W PyProof.Rows
section
variable {X : Cx} {pins : List (Addr × Obj)} {σ : St} {H : Hp} {s : Shared} {d : Addr} {kvs : List (List Key × V)} {ts : List (List Nat)}
end
section
variable {X : Cx}
def rListK : List V → Hp → VK → Prop := fun xs H Q => ∃ d kvs ts, xs = [V.ref d] ∧ H d = some (.dT kvs) ∧ kvs.map (·.1) = ts.map nk ∧ ∀ l as, H l = none → TupsAt H as ts → Q (.ref l) (upd H l (.lst (as.map V.ref)))
def rSortK (g : List Nat → Int) : List V → Hp → VK → Prop := fun xs H Q => ∃ d kvs ts, xs = [V.ref d] ∧ H d = some (.dT kvs) ∧ kvs.map (·.1) = ts.map nk ∧ ts.length < 64 ∧
  ∀ D bs us H', Same H H' → H D = none → H' D = some (.lst (bs.map V.ref)) → TupsAt H' bs us → us.Perm ts → us.Pairwise (fun x y => byKey g x y = true) → Q (.ref D) H'
def tSortK (g : List Nat → Int) (te : TE) : TE := fun σ H Q => te σ H fun x H1 => ∃ d, x = .ref d ∧ rSortK g [.ref d] H1 Q
end
end L2
namespace L2
open PySem PySem.Spec PyProof.Rows
section
variable {P : Program} {w : World} {A : Around} {E : Value → Shared → Prop} {s : Shared} {it d : Addr} {i ep : Nat} {es : Array DictEntry}
abbrev vstepObj (d : Addr) (i n ep : Nat) : Obj := { cls := .type "dict_valueiterator", data := .fields #[.ref d, .int i 0, .int n 0, .int ep 0] }
theorem vals_item {en : DictEntry} {Q : Option Value → Shared → Prop} (G : s.heap.get? it = some (vstepObj d i es.size ep)) (L : Lies s.heap d es ep) (hx : es[i]? = some en)
    (q : ∀ h', h'.get? it = some (vstepObj d (i + 1) es.size ep) → Heap.SameBut it s.heap h' → Q (some en.val) { s with heap := h' }) : wpAny (model P w) A (pyNext (.ref it)) Q E s := by
  obtain ⟨o, ho, _, hd⟩ := L
  have ty : s.TypeIs (.ref it) "dict_valueiterator" := ⟨_, G, rfl⟩
  unfold pyNext
  refine wpAny_bind (wpAny_attempt (wpAny_callSpecial?_slot (name := Str.ofString "__next__") ty F.slot_dict_valueiterator_next (wpAny_call_entry F.slot_dict_valueiterator_next ty F.entry_dict_valueiterator_next ?_ (F.args_dict_valueiterator_next_1 _))))
  refine wpAny_bind (wpAny_pure (wpAny_bind (wpAny_bind ?_)))
  refine wpAny_bind (wpAny_typeNameOfWhole_valiter ty (wpAny_pure (wpAny_bind (wpAny_fieldsOf G rfl ?_))))
  have own2 : Builtin.Dict_items.ownsTuple "dict_valueiterator" = false := by decide
  simp only [own2, Bool.false_eq_true, if_false]
  refine show wpAny _ _ (if (Value.ref d == Value.none) = true then _ else _) _ _ s from (if_neg (show ¬ ((Value.ref d == Value.none) = true) from Bool.false_ne_true)) ▸ wpAny_bind (wpAny_pure (wpAny_bind (wpAny_dictEntries ho hd ?_)))
  rw [if_neg (by simp)]
  refine wpAny_bind (wpAny_pure (wpAny_bind (wpAny_dictEpoch ho hd ?_)))
  rw [if_neg (by simp)]
  refine wpAny_pure ?_
  have at0 : (if ((i : Nat) : Int) < 0 then none else es[((i : Nat) : Int).toNat]?) = some en := by
    rw [if_neg (by omega), Int.toNat_natCast]
    exact hx
  show wpAny _ _ (match (if ((i : Nat) : Int) < 0 then none else es[((i : Nat) : Int).toNat]?) with | some e => _ | none => _) _ _ s
  rw [at0]
  refine wpAny_bind (wpAny_bind (wpAny_typeNameOfWhole_valiter ty (wpAny_pure (wpAny_bind (wpAny_isOneOf_valiter ty ?_)))))
  refine show wpAny _ _ (setField (.ref it) 1 (rawInt ((i : Int) + 1)) >>= _) _ _ s from wpAny_bind (wpAny_setField_rec G (by simp) fun h1 e1 s1 => wpAny_bind (wpAny_holding ?_))
  have e1' : h1.get? it = some (vstepObj d (i + 1) es.size ep) := by
    have z : ((i + 1 : Nat) : Int) = (i : Int) + 1 := by omega
    unfold vstepObj
    rw [z]
    simpa [rawInt] using e1
  have ty1 : Shared.TypeIs { s with heap := h1 } (.ref it) "dict_valueiterator" := ⟨_, e1', rfl⟩
  refine wpAny_bind (wpAny_isOneOf_valiter ty1 (wpAny_bind (wpAny_isOneOf_valiter ty1 ?_)))
  exact show wpAny _ _ (pure en.val) _ _ { s with heap := h1 } from wpAny_pure (wpAny_pure ⟨_, rfl, wpAny_pure (q h1 e1' s1)⟩)
theorem vals_end {Q : Option Value → Shared → Prop} (hh : A.handled = none) (G : s.heap.get? it = some (vstepObj d i es.size ep)) (L : Lies s.heap d es ep) (hx : es[i]? = none)
    (q : ∀ h', Heap.ExtBut it s.heap h' → Q none { s with heap := h' }) : wpAny (model P w) A (pyNext (.ref it)) Q E s := by
  obtain ⟨o, ho, _, hd⟩ := L
  have ty : s.TypeIs (.ref it) "dict_valueiterator" := ⟨_, G, rfl⟩
  unfold pyNext
  refine wpAny_bind (wpAny_attempt (wpAny_callSpecial?_slot (name := Str.ofString "__next__") ty F.slot_dict_valueiterator_next (wpAny_call_entry F.slot_dict_valueiterator_next ty F.entry_dict_valueiterator_next ?_ (F.args_dict_valueiterator_next_1 _))))
  refine wpAny_bind (wpAny_pure (wpAny_bind (wpAny_bind ?_)))
  refine wpAny_bind (wpAny_typeNameOfWhole_valiter ty (wpAny_pure (wpAny_bind (wpAny_fieldsOf G rfl ?_))))
  have own2 : Builtin.Dict_items.ownsTuple "dict_valueiterator" = false := by decide
  simp only [own2, Bool.false_eq_true, if_false]
  refine show wpAny _ _ (if (Value.ref d == Value.none) = true then _ else _) _ _ s from (if_neg (show ¬ ((Value.ref d == Value.none) = true) from Bool.false_ne_true)) ▸ wpAny_bind (wpAny_pure (wpAny_bind (wpAny_dictEntries ho hd ?_)))
  rw [if_neg (by simp)]
  refine wpAny_bind (wpAny_pure (wpAny_bind (wpAny_dictEpoch ho hd ?_)))
  rw [if_neg (by simp)]
  refine wpAny_pure ?_
  have at0 : (if ((i : Nat) : Int) < 0 then none else es[((i : Nat) : Int).toNat]?) = none := by
    rw [if_neg (by omega), Int.toNat_natCast]
    exact hx
  show wpAny _ _ (match (if ((i : Nat) : Int) < 0 then none else es[((i : Nat) : Int).toNat]?) with | some e => _ | none => _) _ _ s
  rw [at0]
  refine wpAny_bind (wpAny_bind (wpAny_typeNameOfWhole_valiter ty (wpAny_pure ?_)))
  refine show wpAny _ _ (setField (.ref it) 0 .none >>= _) _ _ s from wpAny_bind (wpAny_setField_rec G (by simp) fun h1 e1 sb => ?_)
  refine wpAny_bind (m := newExc _ _) ?_
  simp only [newExc, newTuple]
  refine wpAny_bind (wpAny_newObj_type ?_ (by size_fits))
  refine wpAny_bind (m := firstArgMember _ _) (wpAny_of_eq (a := Value.none) (by first | rfl | (unfold firstArgMember; rfl)) (wpAny_newObj_type ?_ (by size_fits)))
  refine wpAny_raiseNew_none (by simpa using hh) (wpAny_bind (wpAny_isInstance (T := "StopIteration") (b := true) ⟨_, Heap.get?_push_size _ rfl, rfl⟩ isSubtype_stop (wpAny_pure ?_)))
  exact q _ fun b o nb z => Heap.get?_push_of_some _ (Heap.get?_push_of_some _ (sb.extBut b o nb z))
abbrev vviewObj (d : Addr) : Obj := { cls := .type "dict_values", data := .fields #[.ref d] }
theorem vals_view {Q : Value → Shared → Prop} (nd : (d == sysModules) = false) (L : Lies s.heap d es ep) (q : Q (.ref s.heap.objs.size) { s with heap := s.heap.push (vviewObj d) }) : wpAny (model P w) A (call (.builtin "dict.values") [.ref d]) Q E s := by
  refine call_meetsIn (S := fun _ R s => Lies s.heap d es ep ∧ R (.ok (.ret (.ref s.heap.objs.size))) { s with heap := s.heap.push (vviewObj d) }) F.slot_dict_values L.typeIs F.entry_dict_values (F.args_dict_values_1 _) (.of_wp fun A R s ⟨L, r⟩ => ?_) ⟨L, q⟩
  refine wpAny_bind ?_
  unfold Builtin.Dict.noArgs
  refine wpAny_bind (wpAny_notOrdered_dict L.typeIs ?_)
  refine show wpAny _ _ (pure d) _ _ s from wpAny_pure (show wpAny _ _ (Builtin.Dict.showsAll d >>= _) _ _ s from ?_)
  have all : Builtin.Dict.showsAll d = pure () := by
    unfold Builtin.Dict.showsAll
    rw [nd]
    rfl
  rw [all]
  exact wpAny_bind (wpAny_pure (wpAny_bind (wpAny_newObj_type (wpAny_pure ⟨_, rfl, r⟩))))
theorem vals_iter {v : Addr} {Q : Value → Shared → Prop} (ev : s.heap.get? v = some (vviewObj d)) (L : Lies s.heap d es ep) (q : Q (.ref s.heap.objs.size) { s with heap := s.heap.push (vstepObj d 0 es.size ep) }) : wpAny (model P w) A (pyIter (.ref v)) Q E s := by
  have ty : s.TypeIs (.ref v) "dict_values" := ⟨_, ev, rfl⟩
  obtain ⟨o, ho, _, hd⟩ := L
  refine wpAny_pyIter_slot ty F.slot_dict_values_iter (wpAny_call_entry F.slot_dict_values_iter ty F.entry_dict_values_iter ?_ (F.args_dict_values_iter_1 _))
  unfold Builtin.«dict_values.__iter__» Builtin.Dict_items.dictOf Builtin.Dict_items.newIterator
  refine wpAny_bind (wpAny_pure (wpAny_bind (wpAny_bind (wpAny_field ev rfl (x := .ref d) rfl (wpAny_pure (wpAny_bind (wpAny_bind (wpAny_dictEntries ho hd (wpAny_bind (wpAny_dictEpoch ho hd ?_))))))))))
  have hown : Builtin.Dict_items.ownsTuple "dict_valueiterator" = false := by decide
  simp only [hown, Bool.false_eq_true, if_false]
  refine wpAny_newObj_type (wpAny_pure ⟨_, rfl, "dict_valueiterator", _, ⟨_, Heap.get?_push_size _ rfl, rfl⟩, F.slot_dict_valueiterator_next.lookup, ?_⟩) (by size_fits)
  exact q
theorem walksV (hh : A.handled = none) (hne : d ≠ it) : Walks P w A it [it, d] [it] es.size (fun i v => ∃ en, es[i]? = some en ∧ v = en.val) (fun i h => h.get? it = some (vstepObj d i es.size ep) ∧ Lies h d es ep) where
  sub := fun b hb => List.mem_cons.mpr (.inl (List.mem_singleton.mp hb))
  frame := fun i h h' st k => ⟨k it (List.mem_cons_self ..) _ st.1, let ⟨o, e, x⟩ := st.2; ⟨o, k d (List.mem_cons_of_mem _ (List.mem_singleton.mpr rfl)) _ e, x⟩⟩
  item := fun i s Q E hi st q => by
    obtain ⟨en, he⟩ : ∃ en, es[i]? = some en := ⟨_, Array.getElem?_eq_getElem hi⟩
    refine vals_item st.1 st.2 he fun h' e1 sb => q en.val h' s.toks ⟨en, he, rfl⟩ ⟨e1, let ⟨o, e, x⟩ := st.2; ⟨o, sb.extBut _ _ hne e, x⟩⟩ fun b o nb e => sb.extBut _ _ (fun z => nb (List.mem_singleton.mpr z)) e
  done := fun s Q E st q => vals_end hh st.1 st.2 (Array.getElem?_eq_none (Nat.le_refl _)) fun h' x => q h' s.toks fun b o nb e => x b o (fun z => nb (List.mem_singleton.mpr z)) e
  self := fun i s Q E st q => by
    have ty : s.TypeIs (.ref it) "dict_valueiterator" := ⟨_, st.1, rfl⟩
    refine wpAny_pyIter_slot ty F.slot_dict_valueiterator_iter (wpAny_call_entry F.slot_dict_valueiterator_iter ty entry_dict_valueiterator_iter ?_ (F.args_dict_valueiterator_iter_1 _))
    exact show wpAny _ _ (ret (.ref it)) _ _ s from wpAny_pure ⟨_, rfl, "dict_valueiterator", _, ty, F.slot_dict_valueiterator_next.lookup, q⟩
theorem srcV {v : Addr} : PySem.W.KdlSrc P w "dict_values" v d es.size (fun i u => ∃ en, es[i]? = some en ∧ u = en.val) (fun h => h.get? v = some (vviewObj d) ∧ Lies h d es ep) where
  type := fun _ e => ⟨_, e.1, rfl⟩
  there := fun _ ⟨e1, _, e, _⟩ => ⟨Heap.lt_size e1, Heap.lt_size e⟩
  keep := fun _ _ ⟨e1, o, e, x⟩ k => ⟨k v (.inl rfl) _ e1, o, k d (.inr rfl) _ e, x⟩
  notList := by decide
  notTuple := by decide
  hint := fun _ _ _ _ e q => PySem.W.kdl_hint_values ⟨_, e.1, rfl⟩ q
  iter := fun _ _ hh e => ⟨_, _, fun _ _ q => vals_iter e.1 e.2 q, walksV hh (Nat.ne_of_lt (let ⟨_, z, _⟩ := e.2; Heap.lt_size z)), Heap.get?_push_size _ rfl, let ⟨o, z, x⟩ := e.2; ⟨o, Heap.get?_push_of_some _ z, x⟩⟩
end
def VViewO (v d : Addr) : HO := .ext fun h => h.get? v = some (vviewObj d)
section
variable {X : Cx}
def rValues : V → List V → Hp → VK → Prop := fun x xs H Q => xs = [] ∧ ∃ a kvs, x = .ref a ∧ H a = some (.dT kvs) ∧ ∀ v, H v = none → Q (.ref v) (upd H v (VViewO v a))
theorem mt_values : MtR X "dict.values" rValues := by
  intro pins s σ H x xs u us Q I r1 r2 h
  obtain ⟨rfl, a, kvs, rfl, ha, q⟩ := h
  cases r1
  cases r2
  obtain ⟨z, na, ys, rel, o, es, ep, e1, e2, e3, _⟩ := I.hok a _ ha
  refine vals_view na ⟨o, e1, e2, e3⟩ ⟨.ref s.heap.objs.size, _, I.laid (a := s.heap.objs.size) (o := VViewO s.heap.objs.size a) (t' := s.toks) (fun _ _ q => Heap.get?_push_of_some _ q) (Nat.le_refl _) ?_, rfl, q _ I.fresh⟩
  have e : (s.heap.push (vviewObj a)).get? s.heap.objs.size = some (vviewObj a) := Heap.get?_push_size _ rfl
  exact ⟨e, ⟨_, e⟩, fun h1 h2 y k => k _ y⟩
def rListV : List V → Hp → VK → Prop := fun xs H Q => ∃ v a kvs, xs = [.ref v] ∧ H v = some (VViewO v a) ∧ H a = some (.dT kvs) ∧ ∀ l, H l = none → Q (.ref l) (upd H l (.lst (kvs.map (·.2))))
theorem call_list_vals (hc : X.calm = true) : CallR X (.type "list") rListV := by
  intro pins s σ H xs us Q I r h
  obtain ⟨v, a, kvs, rfl, hv, ha, q⟩ := h
  obtain ⟨u, rfl, ru⟩ := vals1 r
  cases ru
  obtain ⟨ev, _, _⟩ := I.hok v _ hv
  obtain ⟨z, na, ys, rel, o, es, ep, e1, e2, e3, e4, _⟩ := I.hok a _ ha
  have el : es.size = kvs.length := by rw [size_of_entries e4, ← Paired.length rel]
  refine PySem.W.kdl_call (srcV (v := v)) (I.ok.hd hc) ⟨ev, o, e1, e2, e3⟩ (by omega) fun h' tk acc c keep eD it => ?_
  have I1 : Inv X pins σ H { s with heap := h', toks := tk } := I.kept keep
  refine ⟨.ref s.heap.objs.size, _, Inv.trackNew I I1 (o := .lst (kvs.map (·.2))) ⟨by rw [List.length_map]; omega, acc.toList, c, ?_, ?_⟩, rfl, q _ I.fresh⟩
  · have ln : acc.toList.length = (kvs.map (·.2)).length := by rw [List.length_map, ← el, Array.length_toList, it.1]
    have each : ∀ (j : Nat) (x : V) (y : Value), (kvs.map (·.2))[j]? = some x → acc.toList[j]? = some y → RelV x y := fun j x y ex ey => by
      rw [List.getElem?_map] at ex
      obtain ⟨⟨k, x'⟩, ek, rfl⟩ := Option.map_eq_some_iff.mp ex
      rw [Array.getElem?_toList] at ey
      obtain ⟨en, ee, rfl⟩ := it.2 j y ey
      obtain ⟨⟨k', b, u⟩, e5, p1, p2, p3⟩ := paired_at rel ek
      rw [entry_at e4, e5] at ee
      cases ee
      exact p3
    have mk : ∀ (l : List V) (m : List Value), m.length = l.length → (∀ (j : Nat) (x : V) (y : Value), l[j]? = some x → m[j]? = some y → RelV x y) → Vals l m := by
      intro l
      induction l with
      | nil =>
        intro m hm _
        cases List.length_eq_zero_iff.mp hm
        exact .nil
      | cons x l ih =>
        intro m hm hr
        cases m with
        | nil => cases hm
        | cons y m => exact .cons (hr 0 x y rfl rfl) (ih m (by simpa using hm) fun j x' y' h1 h2 => hr (j + 1) x' y' (by simpa using h1) (by simpa using h2))
    exact mk _ _ ln each
  · simpa using eD
end
end L2
namespace L2
open PySem PySem.Spec PyProof.Rows
section
variable {X : Cx} {pins : List (Addr × Obj)} {σ : St} {H : Hp} {s : Shared} {h' : Heap} {t' : Nat}
theorem Inv.turnedN {ch : List Addr} (I : Inv X pins σ H s) (k : ∀ b o, b ∉ ch → s.heap.get? b = some o → h'.get? b = some o) (hf : ∀ b ∈ ch, FpOk X pins H b) : Inv X pins σ H { s with heap := h', toks := t' } := by
  have nt : ∀ b u, H b = some u → b ∉ ch := fun b u e hb => by rw [(hf b hb).1] at e; cases e
  refine I.step (h' := h') (H' := H) (g' := s.gens) (t' := t') (d' := s.drawn) (ch := ch) (fun b hb => ?_) (fun b o _ _ nc e _ => k b o nc e) (fun b o _ _ nc e _ => ⟨o.slots, k b o nc e⟩) (fun b o _ _ n => n) (fun b o nc e => ⟨o, k b o nc e⟩)
    (fun b xs q => q) (fun b o u q => q) (fun b ps q => ⟨#[], by rw [q]; simp⟩) (fun m hm => ?_) (fun b u q => ?_) I.bare
  · obtain ⟨_, f1, _, f3, f4, f5⟩ := hf b hb
    exact ⟨f3, f1, f4, f5⟩
  · exact hm.at' fun o e => k _ o (fun hb => (hf _ hb).2.1 rfl) e
  · refine (I.hok b u q).stay (fun c o hc e => k c o ?_ e) (fun _ z => z) fun _ _ z => z
    rcases hc with z | z
    · rw [z]; exact nt b u q
    · exact nt c _ z
end
end L2
namespace L2
open PySem PySem.Spec PyProof.Rows
def Ite (K : PySem.W.Frag) (l : Addr) : It :=
  ⟨fun i H => ∃ xs x, SqL K H l xs ∧ xs[i]? = some x,
   fun i H v H' => ∃ T x, v = .ref T ∧ H T = none ∧ H' = upd H T (.tup [.int (i : Nat), x]) ∧ ∀ xs, SqL K H l xs → xs[i]? = some x,
   fun i H => ∃ xs, SqL K H l xs ∧ xs.length ≤ i⟩
def EnumAt (e it l : Addr) (i : Nat) (h : Heap) : Prop := (∃ old, IsEnum h e it (i : Nat) old) ∧ h.IsListIter it l i
theorem turn_enum {P : Program} {w : World} {K : PySem.W.Frag} {elts : List Expr} {x1 : Nat} {pos : Pos} {e it l : Addr} (ne : e ≠ it) : Turn P w K (.Tuple elts x1 pos) (Ite K l) [e, it] e (fun i h => EnumAt e it l i h) where
  mem := List.mem_cons_self ..
  obj := fun i h Z b hb => by
    obtain ⟨⟨old, h1⟩, o, h2, h3, h4⟩ := Z
    simp only [List.mem_cons, List.not_mem_nil, or_false] at hb
    rcases hb with rfl | rfl
    · exact ⟨_, h1, fun v q => by cases q⟩
    · exact ⟨_, h2, fun v q => by rw [h4] at q; cases q⟩
  keep := fun i h h' Z k => by
    obtain ⟨⟨old, h1⟩, o, h2, h3, h4⟩ := Z
    exact ⟨⟨old, k e (by simp) _ h1⟩, o, k it (by simp) _ h2, h3, h4⟩
  item := by
    intro X hP hw hK hc i pins s σ H E I hf Z hg
    subst hP hw hK
    obtain ⟨xs, x, q1, hx⟩ := hg
    obtain ⟨⟨old, h1⟩, h2⟩ := Z
    obtain ⟨its, rv, pl, _⟩ := I.list q1
    obtain ⟨u, hu, ru⟩ := rv.get hx
    refine wpAny_pyNext_enum_item h1 h2 pl.isList (x := u) (by simpa using hu) ne fun h' ho hi' hT hs k => ?_
    have I1 : Inv X pins σ H { s with heap := h', toks := s.toks + 1 } := I.turnedN (ch := [e, it]) (t' := s.toks + 1) (fun b o nb eb => k b o (fun z => nb (by simp [z])) (fun z => nb (by simp [z])) eb) hf
    have nT : H s.heap.objs.size = none := I.hok.fresh (Nat.le_refl _)
    have ok : ObjOk X.prog X.w (upd H s.heap.objs.size (.tup [.int (i : Nat), x])) h' s.heap.objs.size (.tup [.int (i : Nat), x]) := ⟨by show 2 ≤ sizeLine; decide, [_, u], .cons ⟨_, rfl⟩ (.cons ru .nil), ⟨_, hT, rfl, _, rfl⟩⟩
    have I2 : Inv X pins σ (upd H s.heap.objs.size (.tup [.int (i : Nat), x])) { s with heap := h', toks := s.toks + 1 } := Inv.trackNew I I1 ok
    refine ⟨_, rfl, wpAny_letOwnedTupleGo_enum ho fun h3 he3 sb => ?_⟩
    have le : e < s.heap.objs.size := Heap.lt_size h1
    have li : it < s.heap.objs.size := by obtain ⟨_, z, _⟩ := h2; exact Heap.lt_size z
    have none2 : ∀ b ∈ [e, it], upd H s.heap.objs.size (.tup [.int (i : Nat), x]) b = none := fun b hb => by
      have nb : b ≠ s.heap.objs.size := by
        simp only [List.mem_cons, List.not_mem_nil, or_false] at hb
        rcases hb with rfl | rfl
        · exact Nat.ne_of_lt le
        · exact Nat.ne_of_lt li
      rw [upd_ne nb]
      exact (hf b hb).1
    obtain ⟨f0, f1, f2, f3, f4, f5⟩ := hf e (List.mem_cons_self ..)
    have I3 : Inv X pins σ (upd H s.heap.objs.size (.tup [.int (i : Nat), x])) { s with heap := h3, toks := s.toks + 1 } := I2.turned (t' := s.toks + 1) (fun b o nb e => sb.extBut b o nb e) (none2 e (List.mem_cons_self ..)) f1 f3 f4 f5
    refine ⟨.ref s.heap.objs.size, _, I3, rfl, ⟨_, x, rfl, nT, rfl, fun xs' h => ?_⟩, ⟨⟨_, he3⟩, ?_⟩, none2⟩
    · rw [I.list_inj h q1]; exact hx
    · obtain ⟨o, z1, z2, z3⟩ := hi'
      exact ⟨o, sb.extBut _ _ (Ne.symm ne) z1, z2, z3⟩
  done := by
    intro X hP hw hK hc i pins s σ H E I hf Z hg
    subst hP hw hK
    obtain ⟨xs, q1, he⟩ := hg
    obtain ⟨⟨old, h1⟩, h2⟩ := Z
    obtain ⟨its, rv, pl, _⟩ := I.list q1
    have l1 := rv.length
    refine wpAny_pyNext_enum_end (I.ok.hd hc) h1 h2 pl.isList (by simp; omega) fun h' k => ⟨rfl, ?_⟩
    exact I.turnedN (ch := [it]) (t' := s.toks) (fun b o nb eb => k b o (fun z => nb (by simp [z])) eb) fun b hb => hf b (by rw [List.mem_singleton.mp hb]; simp)
  self := fun _ _ _ _ _ Z q => by
    obtain ⟨⟨old, h1⟩, _⟩ := Z
    exact wpAny_pyIter_enum h1 q
section
variable {X : Cx}
def iEnum (K : PySem.W.Frag) (ta : TA) : TI := fun σ H R => ta σ H fun vs H1 => ∃ l xs, vs = [.ref l] ∧ SqL K H1 l xs ∧ R (Ite K l) H1
theorem pi_enum {elts : List Expr} {x1 : Nat} {tp : Pos} {a : Expr} {ta : TA} {p pos : Pos} (hg : Gl X "enumerate") (hm : X.mg "enumerate" = none) (ha : PA X [a] ta) (hs : starEach [a] X.env = [(false, eval a X.env)] := by rfl) : PI X (.Tuple elts x1 tp) (.Call (.Name "enumerate" p) [a] [] pos) (iEnum X.K ta) := by
  intro pins s σ H R I h
  refine Call_ (ld_blt I hg hm PyProof.Rows.boot_enumerate (PyProof.Rows.callWith_type1 (thn (ha pos pins s σ H _ I h) fun us s1 ⟨vs, H1, I1, r1, q1⟩ => ?_) (by rw [hs]; rfl) (by rfl)))
  obtain ⟨l, xs, e, q1, q⟩ := q1
  subst e
  obtain ⟨u1, rfl, ru1⟩ := vals1 r1
  cases ru1
  obtain ⟨its, rv, pl, _⟩ := I1.list q1
  have pl' := pl.isList
  refine call_enumerate_list pl' fun h' he hi sz k => wpAny_pyIter_enum he ?_
  have I2 : Inv X pins σ H1 { s1 with heap := h' } := I1.kept (t' := s1.toks) k
  refine ⟨_, _, _, _, H1, rfl, I2, turn_enum (l := l) (Nat.ne_of_gt (Nat.lt_succ_self _)), ⟨⟨_, he⟩, hi⟩, fun b hb => ?_, q⟩
  have le : s1.heap.objs.size ≤ b := by
    simp only [List.mem_cons, List.not_mem_nil, or_false] at hb
    rcases hb with e | e <;> (rw [e]; first | exact Nat.le_refl _ | exact Nat.le_add_right _ _)
  exact I1.fpOk le (I1.hok.fresh le)
end
section
variable {K : PySem.W.Frag} {l : Addr} {xs : List V} {g : TG} {tb : TS} {D : Ends} {σ : St} {H : Hp}
theorem for_enum (Pv : Nat → St → Hp → Prop) (h0 : Pv 0 σ H) (hl : ∀ i σ H, i ≤ xs.length → Pv i σ H → SqL K H l xs)
    (hs : ∀ i T x σ H, xs[i]? = some x → H T = none → Pv i σ H → g (.ref T) σ (upd H T (.tup [.int (i : Nat), x])) fun σ2 H2 => tb { D with nx := Pv (i + 1), ct := Pv (i + 1), bk := D.nx } σ2 H2) (hd : ∀ σ H, Pv xs.length σ H → D.nx σ H) :
    ∃ W : Nat → Nat → St → Hp → Prop, (∃ m, W 0 m σ H) ∧ ∀ i m σ H, W i m σ H →
      ((Ite K l).stop i H ∧ D.nx σ H) ∨ ((Ite K l).go i H ∧ ∃ N : St → Hp → Prop, (∀ σ' H', N σ' H' → ∃ m', m' < m ∧ W (i + 1) m' σ' H') ∧ ∀ x H', (Ite K l).yld i H x H' → g x σ H' fun σ2 H2 => tb { D with nx := N, ct := N, bk := D.nx } σ2 H2) := by
  refine ⟨fun i m σ H => m = xs.length - i ∧ i ≤ xs.length ∧ Pv i σ H, ⟨xs.length, by simp, Nat.zero_le _, h0⟩, ?_⟩
  rintro i m σ H ⟨rfl, hi, p⟩
  have q := hl i σ H hi p
  by_cases hlt : i < xs.length
  · refine .inr ⟨⟨xs, xs[i], q, by simp [hlt]⟩, Pv (i + 1), fun σ' H' p' => ⟨xs.length - (i + 1), by omega, rfl, hlt, p'⟩, fun v H' y => ?_⟩
    obtain ⟨T, x, rfl, nT, rfl, y⟩ := y
    exact hs i T x σ _ (y xs q) nT p
  · have e : i = xs.length := by omega
    subst e
    exact .inl ⟨⟨xs, q, Nat.le_refl _⟩, hd σ H p⟩
end
end L2
namespace L2
open PySem PySem.Spec PyProof.Rows
theorem ints_of : ∀ {ns : List Int} {its : List Value}, Vals (ns.map V.int) its → ∃ zs : List (Int × Tok), zs.map (·.1) = ns ∧ its = zs.map fun p => Value.int p.1 p.2
  | [], _, h => by
    cases h
    exact ⟨[], rfl, rfl⟩
  | n :: ns, _, h => by
    cases h with
    | cons h1 h2 =>
      obtain ⟨t, rfl⟩ := h1
      obtain ⟨zs, e1, rfl⟩ := ints_of h2
      exact ⟨(n, t) :: zs, by rw [List.map_cons, e1], rfl⟩
section
variable {X : Cx}
def rMaxL (K : PySem.W.Frag) : List V → Hp → VK → Prop := fun xs H Q => ∃ (p : Addr) (ns : List Int), xs = [.ref p] ∧ SqL K H p (ns.map V.int) ∧ ns ≠ [] ∧ ∀ M, M ∈ ns → (∀ a ∈ ns, a ≤ M) → Q (.int M) H
def rMinL (K : PySem.W.Frag) : List V → Hp → VK → Prop := fun xs H Q => ∃ (p : Addr) (ns : List Int), xs = [.ref p] ∧ SqL K H p (ns.map V.int) ∧ ns ≠ [] ∧ ∀ M, M ∈ ns → (∀ a ∈ ns, M ≤ a) → Q (.int M) H
theorem best_at {zs : List (Int × Tok)} {k : Nat} {v : Value} (h : (intItems zs.toArray)[k]? = some v) : ∃ t, v = .int (numAt zs.toArray k) t ∧ numAt zs.toArray k ∈ zs.map (·.1) := by
  have h' : (zs.map fun p => Value.int p.1 p.2)[k]? = some v := by simpa [intItems] using h
  rw [List.getElem?_map] at h'
  obtain ⟨⟨n, t⟩, e, rfl⟩ := Option.map_eq_some_iff.mp h'
  have e2 : numAt zs.toArray k = n := by
    rw [numAt_eq, List.getD_eq_getElem?_getD, List.getElem?_map]
    show (Option.map _ zs[k]?).getD 0 = n
    rw [e]
    rfl
  rw [e2]
  exact ⟨t, rfl, List.mem_map.mpr ⟨_, List.mem_of_getElem? e, rfl⟩⟩
theorem num_at {zs : List (Int × Tok)} {a : Int} (h : a ∈ zs.map (·.1)) : ∃ j, j < zs.length ∧ numAt zs.toArray j = a := by
  obtain ⟨j, e⟩ := List.mem_iff_getElem?.mp h
  refine ⟨j, by have := (List.getElem?_eq_some_iff.mp e).1; simpa using this, ?_⟩
  rw [numAt_eq, List.getD_eq_getElem?_getD]
  show ((List.map _ zs)[j]?).getD 0 = a
  rw [e]
  rfl
theorem call_maxL (hc : X.calm = true) : CallR X (.builtin "max") (rMaxL X.K) := by
  intro pins s σ H xs us Q I r h
  obtain ⟨p, ns, rfl, hp, ne, q⟩ := h
  obtain ⟨u, rfl, ru⟩ := vals1 r
  cases ru
  obtain ⟨its, rv, pl, _⟩ := I.list hp
  have hl := pl.isList
  obtain ⟨zs, rfl, rfl⟩ := ints_of rv
  have pos : 0 < zs.length := by
    cases zs with
    | nil => exact absurd rfl ne
    | cons => simp
  refine max_intList (xs := zs.toArray) (I.ok.hd hc) (by rw [show intItems zs.toArray = (zs.map fun p => Value.int p.1 p.2).toArray by simp [intItems]]; exact hl) (by simpa using pos) fun v h' tk hv hk => ?_
  obtain ⟨t, rfl, mem⟩ := best_at hv
  obtain ⟨_, b2⟩ := argBest_gt (numAt zs.toArray) (zs.toArray.size - 1)
  exact ⟨.int _, H, I.kept hk, ⟨t, rfl⟩, q _ mem fun a ha => by
    obtain ⟨j, hj, rfl⟩ := num_at ha
    exact b2 j (by simp; omega)⟩
theorem call_minL (hc : X.calm = true) : CallR X (.builtin "min") (rMinL X.K) := by
  intro pins s σ H xs us Q I r h
  obtain ⟨p, ns, rfl, hp, ne, q⟩ := h
  obtain ⟨u, rfl, ru⟩ := vals1 r
  cases ru
  obtain ⟨its, rv, pl, _⟩ := I.list hp
  have hl := pl.isList
  obtain ⟨zs, rfl, rfl⟩ := ints_of rv
  have pos : 0 < zs.length := by
    cases zs with
    | nil => exact absurd rfl ne
    | cons => simp
  refine min_intList (xs := zs.toArray) (I.ok.hd hc) (by rw [show intItems zs.toArray = (zs.map fun p => Value.int p.1 p.2).toArray by simp [intItems]]; exact hl) (by simpa using pos) fun v h' tk hv hk => ?_
  obtain ⟨t, rfl, mem⟩ := best_at hv
  obtain ⟨_, b2⟩ := argBest_lt (numAt zs.toArray) (zs.toArray.size - 1)
  exact ⟨.int _, H, I.kept hk, ⟨t, rfl⟩, q _ mem fun a ha => by
    obtain ⟨j, hj, rfl⟩ := num_at ha
    exact b2 j (by simp; omega)⟩
def rRange2 : List V → Hp → VK → Prop := fun xs H Q => ∃ i j : Int, xs = [.int i, .int j] ∧ ∀ p, H p = none → Q (.ref p) (upd H p (.rng i j))
def rangeF (i : Int) (n : Nat) : List V := (List.range n).map fun (k : Nat) => V.int (i + (k : Nat))
def rListRng2 : List V → Hp → VK → Prop := fun xs H Q => ∃ p i j, xs = [.ref p] ∧ H p = some (.rng i j) ∧ 0 ≤ i ∧ i ≤ j ∧ j ≤ 1000000 ∧ ∀ l, H l = none → Q (.ref l) (upd H l (.lst (rangeF i (j - i).toNat)))
def rLtTn (K : PySem.W.Frag) : R2 := fun x y H Q => ∃ (p q : Addr) (ps qs : List Nat), x = .ref p ∧ y = .ref q ∧ SqT K H p (ps.map nv) ∧ SqT K H q (qs.map nv) ∧ Q (.bl (ltl ps qs)) H
end
end L2
namespace My
open PySem L2 PyProof.Rows
def top (i : Nat) : Stmt := PySem.Challenge.pw_cascade_k24_whole_groups_are_groups.main.body.getD i (.Pass ⟨0, 0, 0, 0⟩)
abbrev sRefuseMore : Stmt := top 4
abbrev sReached : Stmt := top 5
abbrev sStill : Stmt := top 7
abbrev sBehind : Stmt := top 8
abbrev sRestOf : Stmt := top 9
abbrev sAllTurns : Stmt := top 11
abbrev sIsOwnDouble : Stmt := top 13
abbrev sBearsItself : Stmt := top 14
abbrev sDoubledPower : Stmt := top 15
abbrev sGroups : Stmt := top 16
abbrev sLawCellAt : Stmt := top 18
abbrev sLawTurn : Stmt := top 19
abbrev sLawMachine : Stmt := top 20
abbrev sLawBehind : Stmt := top 21
abbrev sLawAll : Stmt := top 22
abbrev sLawRefused : Stmt := top 23
abbrev sLawComesAgain : Stmt := top 24
abbrev sLawUndone : Stmt := top 25
abbrev sLawIsGroup : Stmt := top 26
abbrev sLaw : Stmt := top 27
def clsBody : Stmt → List Stmt
  | .ClassDef _ _ _ b _ _ _ _ _ _ _ => b
  | _ => []
abbrev sTooManyInit : Stmt := (clsBody (top 2)).getD 0 (.Pass ⟨0, 0, 0, 0⟩)
theorem scRefuseMore : FnScope ["things", "most"] ["things", "most"] (defScope sRefuseMore) := ⟨rfl, rfl, rfl, by decide +kernel, rfl, by decide +kernel, by decide +kernel⟩
theorem scReached : FnScope ["start", "letters", "step", "most", "words", "wave", "following", "thing", "letter", "found"] ["start", "letters", "step", "most"] (defScope sReached) := ⟨rfl, rfl, rfl, by decide +kernel, rfl, by decide +kernel, by decide +kernel⟩
theorem scStill : FnScope ["rooms"] ["rooms"] (defScope sStill) := ⟨rfl, rfl, rfl, by decide +kernel, rfl, by decide +kernel, by decide +kernel⟩
theorem scBehind : FnScope ["one", "other"] ["one", "other"] (defScope sBehind) := ⟨rfl, rfl, rfl, by decide +kernel, rfl, by decide +kernel, by decide +kernel⟩
theorem scRestOf : FnScope ["turn", "numbers", "power", "begin"] ["turn"] (defScope sRestOf) := ⟨rfl, rfl, rfl, by decide +kernel, rfl, by decide +kernel, by decide +kernel⟩
theorem scAllTurns : FnScope ["machine", "most", "start", "words"] ["machine", "most"] (defScope sAllTurns) := ⟨rfl, rfl, rfl, by decide +kernel, rfl, by decide +kernel, by decide +kernel⟩
theorem scIsOwnDouble : FnScope ["turn"] ["turn"] (defScope sIsOwnDouble) := ⟨rfl, rfl, rfl, by decide +kernel, rfl, by decide +kernel, by decide +kernel⟩
theorem scBearsItself : FnScope ["turn"] ["turn"] (defScope sBearsItself) := ⟨rfl, rfl, rfl, by decide +kernel, rfl, by decide +kernel, by decide +kernel⟩
theorem scDoubledPower : FnScope ["turn", "power"] ["turn"] (defScope sDoubledPower) := ⟨rfl, rfl, rfl, by decide +kernel, rfl, by decide +kernel, by decide +kernel⟩
theorem scGroups : FnScope ["machine", "most", "turns", "found", "turn", "number"] ["machine", "most"] (defScope sGroups) := ⟨rfl, rfl, rfl, by decide +kernel, rfl, by decide +kernel, by decide +kernel⟩
theorem scLawCellAt : FnScope ["_law_script", "_law_k"] ["_law_script", "_law_k"] (defScope sLawCellAt) := ⟨rfl, rfl, rfl, by decide +kernel, rfl, by decide +kernel, by decide +kernel⟩
theorem scLawTurn : FnScope ["_law_cell", "_law_rooms", "_law_number", "_law_turn_here", "_law_k", "_law_other"] ["_law_cell", "_law_rooms"] (defScope sLawTurn) := ⟨rfl, rfl, rfl, by decide +kernel, rfl, by decide +kernel, by decide +kernel⟩
theorem scLawMachine : FnScope ["_law_script", "_law_rooms", "_law_many"] ["_law_script"] (defScope sLawMachine) := ⟨rfl, rfl, rfl, by decide +kernel, rfl, by decide +kernel, by decide +kernel⟩
theorem scLawBehind : FnScope ["_law_one", "_law_other"] ["_law_one", "_law_other"] (defScope sLawBehind) := ⟨rfl, rfl, rfl, by decide +kernel, rfl, by decide +kernel, by decide +kernel⟩
theorem scLawAll : FnScope ["_law_machine_here", "_law_most", "_law_found", "_law_known", "_law_at", "_law_turn_here", "_law_word", "_law_letter", "_law_there"] ["_law_machine_here", "_law_most"] (defScope sLawAll) := ⟨rfl, rfl, rfl, by decide +kernel, rfl, by decide +kernel, by decide +kernel⟩
theorem scLawRefused : FnScope ["_law_machine_here"] ["_law_machine_here"] (defScope sLawRefused) := ⟨rfl, rfl, rfl, by decide +kernel, rfl, by decide +kernel, by decide +kernel⟩
theorem scLawComesAgain : FnScope ["_law_turn_here", "_law_power", "_law_k"] ["_law_turn_here"] (defScope sLawComesAgain) := ⟨rfl, rfl, rfl, by decide +kernel, rfl, by decide +kernel, by decide +kernel⟩
theorem scLawUndone : FnScope ["_law_turn_here", "_law_amid", "_law_known", "_law_power", "_law_k"] ["_law_turn_here", "_law_amid", "_law_known"] (defScope sLawUndone) := ⟨rfl, rfl, rfl, by decide +kernel, rfl, by decide +kernel, by decide +kernel⟩
theorem scLawIsGroup : FnScope ["_law_some", "_law_cells", "_law_known", "_law_turn_here", "_law_lone", "_law_cell", "_law_one", "_law_other"] ["_law_some", "_law_cells"] (defScope sLawIsGroup) := ⟨rfl, rfl, rfl, by decide +kernel, rfl, by decide +kernel, by decide +kernel⟩
theorem scLaw : FnScope ["_law_script", "_law_machine_here", "_law_some", "_law_told", "_law_numbers", "_law_k"] ["_law_script"] (defScope sLaw) := ⟨rfl, rfl, rfl, by decide +kernel, rfl, by decide +kernel, by decide +kernel⟩
theorem scTooManyInit : FnScope ["self", "most"] ["self", "most"] (defScope sTooManyInit) := ⟨rfl, rfl, rfl, by decide +kernel, rfl, by decide +kernel, by decide +kernel⟩
def spCellAt (K : PySem.W.Frag) : Sp := fun vs H Q _ => ∃ (a : Addr) (ns : List Int) (k : Int), vs = [.ref a, .int k] ∧ 0 ≤ k ∧ SqL K H a (ns.map V.int) ∧ ∀ c, Q (.int c) H
section
variable {P : Program} {w : World} {K : PySem.W.Frag} {mg : Str → Option Value} {base : Heap} {f : Addr} {fd : FuncData}
end
def spCell2 (K : PySem.W.Frag) : Sp := fun vs H Q _ => ∃ (a : Addr) (ns : List Int) (k : Int), vs = [.ref a, .int k] ∧ 0 ≤ k ∧ SqL K H a (ns.map V.int) ∧ Q (.int (ns.getD k.toNat 0)) H
section
variable {P : Program} {w : World} {K : PySem.W.Frag} {mg : Str → Option Value} {base : Heap} {f : Addr} {fd : FuncData}
theorem ok_cell2 (F : Fun K "_law_cell_at" "_law_cell_at" sLawCellAt f fd) (m_len : mg "len" = none) : FnOk P w K mg base CX0 1 f fd ["_law_script", "_law_k"] (spCell2 K) := by
  refine F.ok scLawCellAt (fun vs H Q E h => ?_) (fun cdv A outer s H vs Q E hr h => ?_)
  · obtain ⟨a, ns, k, rfl, _⟩ := h
    rfl
  obtain ⟨a, ns, k, rfl, h0, hS, q⟩ := h
  refine ⟨_, (pss_cons (ps_if (pt_cmpR op_lt (pv 1) (pe_callB call_len_seq rfl m_len boot_len (pa_cons (pv 0) pa_nil)) (nomark _)) (pss_one (ps_ret (pe_ix ix_list (pv 0) (pv 1) (fun _ _ => rfl)))) pss_nil) (pss_one (ps_ret pe_int))), ?_⟩
  refine ⟨_, rfl, _, rfl, a, _, rfl, .inl hS, _, _, rfl, rfl, _, rfl, ?_⟩
  have e : k = ((k.toNat : Nat) : Int) := by omega
  refine ite2 (fun c => ?_) (fun c => ?_)
  · have c' : k < ((ns.map V.int).length : Nat) := of_decide_eq_true c
    rw [List.length_map] at c'
    have hk : k.toNat < ns.length := by omega
    refine ⟨_, rfl, _, rfl, a, _, _, .int (ns.getD k.toNat 0), rfl, rfl, hS, ?_, q⟩
    rw [e]
    exact at_int hk
  · have c' : ¬ k < ((ns.map V.int).length : Nat) := fun z => c (decide_eq_true z)
    rw [List.length_map] at c'
    have : ns.getD k.toNat 0 = 0 := by
      rw [List.getD_eq_getElem?_getD, List.getElem?_eq_none (by omega)]
      rfl
    rw [this] at q
    exact q
end
theorem Callee.imp {P : Program} {w : World} {K : PySem.W.Frag} {mg : Str → Option Value} {base : Heap} {x : Str} {k : Nat} {ps : List Str} {sp sp' : Sp} (c : Callee P w K mg base x k ps sp) (h : ∀ vs H Q E, sp' vs H Q E → sp vs H Q E) : Callee P w K mg base x k ps sp' := by
  obtain ⟨f, fd, F, r⟩ := c
  exact ⟨f, fd, F.imp h, r⟩
structure Mach (H : Hp) (m : Addr) (ts : List (List Nat)) (n : Nat) : Prop where
  refs : ∃ rs : List Addr, H m = some (.tup (rs.map V.ref)) ∧ rs.length = ts.length ∧ ∀ (i : Nat) r t, rs[i]? = some r → ts[i]? = some t → H r = some (.tup (t.map nv))
  some1 : 1 ≤ ts.length
  few : ts.length ≤ 4
  n1 : 1 ≤ n
  n5 : n ≤ 5
  each : ∀ t ∈ ts, t.length = n ∧ ∀ x ∈ t, x < n
theorem Mach.same {H H' : Hp} {m : Addr} {ts : List (List Nat)} {n : Nat} (M : Mach H m ts n) (g : Same H H') : Mach H' m ts n :=
  ⟨let ⟨rs, h1, h2, h3⟩ := M.refs; ⟨rs, g _ _ h1, h2, fun i r t e1 e2 => g _ _ (h3 i r t e1 e2)⟩, M.some1, M.few, M.n1, M.n5, M.each⟩
theorem Mach.at {H : Hp} {m : Addr} {ts : List (List Nat)} {n : Nat} (M : Mach H m ts n) {l : Nat} (hl : l < ts.length) :
    ∃ (rs : List Addr) (r : Addr), H m = some (.tup (rs.map V.ref)) ∧ rs.length = ts.length ∧ atI (rs.map V.ref) (l : Int) = some (.ref r) ∧ H r = some (.tup ((ts.getD l []).map nv)) ∧ (ts.getD l []).length = n ∧ ∀ x ∈ ts.getD l [], x < n := by
  obtain ⟨rs, h1, h2, h3⟩ := M.refs
  have hr : l < rs.length := by omega
  have e : ts.getD l [] = ts[l] := by rw [List.getD_eq_getElem?_getD, List.getElem?_eq_getElem hl]; rfl
  rw [e]
  obtain ⟨q1, q2⟩ := M.each ts[l] (List.getElem_mem hl)
  exact ⟨rs, rs[l], h1, h2, atI_nat (by rw [List.getElem?_map, List.getElem?_eq_getElem hr]; rfl), h3 l _ _ (by simp [hr]) (by simp [hl]), q1, q2⟩
def lead (ts : List (List Nat)) (r : Nat) (word : List Nat) : Nat := word.foldl (fun r l => (ts.getD l []).getD r 0) r
def leads (ts : List (List Nat)) (n : Nat) (word : List Nat) : List Nat := (List.range n).map fun r => lead ts r word
def turnStep (c : Int) (n : Nat) (st : Int × List Nat) (k : Nat) : Int × List Nat :=
  if c % 5 = 0 then (st.1 / (n : Int), st.2.set k (st.1 % (n : Int)).toNat) else if c % 5 < 3 then (st.1 / ((k : Int) + 1), (st.2.set k (st.2.getD (st.1 % ((k : Int) + 1)).toNat 0)).set (st.1 % ((k : Int) + 1)).toNat (st.2.getD k 0)) else st
def turnM (c : Int) (n i : Nat) : Int × List Nat := (List.range i).foldl (turnStep c n) (c / 5, List.range n)
def turnE (c : Int) (n : Nat) (st : Int × List Nat) : List Nat := if c % 5 = 3 then st.2.set (st.1 % (n : Int)).toNat (st.1 / (n : Int) % (n : Int)).toNat else st.2
def turnF (c : Int) (n : Nat) : List Nat := if c % 5 = 4 then (List.range n).map fun (i : Nat) => (((turnM c n n).1 % (n : Int) + (0 + (i : Int)) * ((turnM c n n).1 / (n : Int) % 2)) % (n : Int)).toNat else turnE c n (turnM c n n)
theorem turnM_succ (c : Int) (n i : Nat) : turnM c n (i + 1) = turnStep c n (turnM c n i) i := by
  unfold turnM
  rw [List.range_succ, List.foldl_append]
  rfl
def spTurn : Sp := fun vs H Q _ => ∃ (c : Int) (n : Nat), vs = [.int c, nv n] ∧ 1 ≤ n ∧ n ≤ 5 ∧
  ∀ r H', Same H H' → H' r = some (.tup ((turnF c n).map nv)) → (turnF c n).length = n → (∀ y ∈ turnF c n, y < n) → Q (.ref r) H'
def machF (ns : List Int) : List (List Nat) := (List.range (1 + ns.getD 1 0 % 4).toNat).map fun i => turnF (ns.getD (2 + i) 0) (1 + ns.getD 0 0 % 5).toNat
def spMachine (K : PySem.W.Frag) : Sp := fun vs H Q _ => ∃ (a : Addr) (ns : List Int), vs = [.ref a] ∧ SqL K H a (ns.map V.int) ∧ ∀ m H', Same H H' → Mach H' m (machF ns) (1 + ns.getD 0 0 % 5).toNat → Q (.ref m) H'
def TurnSt (H : Hp) (c : Int) (n : Nat) (st : Int × List Nat) (σ : L2.St) (H' : Hp) : Prop := Same H H' ∧ ∃ (l : Addr) (ys : List Nat) (num : Int) (o1 o2 : Option V), σ = [some (.int c), some (nv n), some (.int num), some (.ref l), o1, o2] ∧
  H' l = some (.lst (ys.map nv)) ∧ H l = none ∧ ys.length = n ∧ (∀ y ∈ ys, y < n) ∧ (num, ys) = st
section
variable {P : Program} {w : World} {K : PySem.W.Frag} {mg : Str → Option Value} {base : Heap} {f : Addr} {fd : FuncData}
theorem ok_turn (F : Fun K "_law_turn" "_law_turn" sLawTurn f fd) (m_range : mg "range" = none) (m_tuple : mg "tuple" = none) (m_list : mg "list" = none) : FnOk P w K mg base CX0 1 f fd ["_law_cell", "_law_rooms"] spTurn := by
  refine F.ok scLawTurn (fun vs H Q E h => ?_) (fun cdv A outer s H vs Q E hr h => ?_)
  · obtain ⟨c, n, rfl, _⟩ := h
    rfl
  obtain ⟨c, n, rfl, h1, h5, q⟩ := h
  refine ⟨_, (pss_cons (ps_set (i := 2) scLawTurn.nd rfl (Or.inr rfl) (pe_op op_fdiv (pv 0) pe_int)) (pss_cons (ps_set (i := 3) scLawTurn.nd rfl (Or.inl rfl) (pe_callTy (call_list_rng rfl) rfl m_list boot_list (pa_cons (pe_callTy call_rangeV rfl m_range boot_range (pa_cons (pv 1) pa_nil)) pa_nil))) (pss_cons (ps_for PassesOwn.never rfl (pi_range1 rfl m_range (pa_cons (pv 1) pa_nil)) (pg_name (i := 4) scLawTurn.nd rfl (Or.inl rfl)) (pss_one (ps_if (pt_cmpR op_eq (pe_op op_mod (pv 0) pe_int) pe_int (nomark _)) (pss_cons (ps_asg (pe_op op_mod (pv 2) (pv 1)) (pg_sub (pv 3) (pv 4) set_list)) (pss_one (ps_set (i := 2) scLawTurn.nd rfl (Or.inr rfl) (pe_op op_fdiv (pv 2) (pv 1))))) (pss_one (ps_if (pt_cmpR op_lt (pe_op op_mod (pv 0) pe_int) pe_int (nomark _)) (pss_cons (ps_set (i := 5) scLawTurn.nd rfl (Or.inl rfl) (pe_op op_mod (pv 2) (pe_op op_add (pv 4) pe_int))) (pss_cons (ps_set (i := 2) scLawTurn.nd rfl (Or.inr rfl) (pe_op op_fdiv (pv 2) (pe_op op_add (pv 4) pe_int))) (pss_one (ps_asg (pe_tup (pl_at (pl_cons (pe_ix ix_list (pv 3) (pv 5) (fun _ _ => rfl)) (pl_cons (pe_ix ix_list (pv 3) (pv 4) (fun _ _ => rfl)) pl_nil rfl) rfl))) (pg_tup rfl (pgs_cons (pg_sub (pv 3) (pv 4) set_list) (pgs_cons (pg_sub (pv 3) (pv 5) set_list) pgs_nil))))))) pss_nil))))) (pss_cons (ps_cut (ps_if (pt_cmpR op_eq (pe_op op_mod (pv 0) pe_int) pe_int (nomark _)) (pss_one (ps_asg (pe_op op_mod (pe_op op_fdiv (pv 2) (pv 1)) (pv 1)) (pg_sub (pv 3) (pe_op op_mod (pv 2) (pv 1)) set_list))) pss_nil)) (pss_cons (ps_cut (ps_if (pt_cmpR op_eq (pe_op op_mod (pv 0) pe_int) pe_int (nomark _)) (pss_one (ps_setC1 (CompSc.to (N := ["_law_cell", "_law_rooms", "_law_number", "_law_turn_here", "_law_k", "_law_other"]) (osc := defScope sLawTurn) (vs := ["_law_k"]) ⟨rfl, by decide +kernel, by decide +kernel, by decide +kernel, by decide +kernel, by decide +kernel, by decide +kernel⟩) rfl rfl scLawTurn.nd (j := 3) rfl rfl (pi_range1 rfl m_range (pa_cons (pv 1) pa_nil)) (fun _ _ _ _ => pts_nil) (fun _ _ _ _ => (pe_op op_mod (pe_op op_add (pe_op op_mod (pv 3) (pv 2)) (pe_op op_mul (pv 0) (pe_op op_mod (pe_op op_fdiv (pv 3) (pv 2)) pe_int))) (pv 2))))) pss_nil)) (pss_one (ps_ret (pe_callTy call_tuple_of rfl m_tuple boot_tuple (pa_cons (pv 3) pa_nil))))))))), ?_⟩
  have np : (0 : Int) < (n : Int) := by omega
  refine ⟨_, rfl, _, _, rfl, rfl, ⟨by decide, by decide⟩, ?_⟩
  -- list(range(n))
  refine ⟨_, rfl, (n : Int), rfl, fun p1 hp1 => ⟨p1, (n : Int), rfl, upd_same, by omega, by omega, fun l hl => ?_⟩⟩
  have g1 := (same_new hp1 (.rng 0 (n : Int))).trans (same_new hl (.lst (rangeV (n : Int).toNat)))
  have s1 : TurnSt H c n (turnM c n 0) [some (.int c), some (nv n), some (.int (c / 5)), some (.ref l), none, none] (upd (upd H p1 (.rng 0 (n : Int))) l (.lst (rangeV (n : Int).toNat))) :=
    ⟨g1, l, List.range n, c / 5, none, none, rfl, by rw [upd_same]; rfl, (same_new hp1 _).free hl, by simp, fun y hy => List.mem_range.mp hy, rfl⟩
  refine ⟨_, rfl, (n : Int), rfl, by omega, by omega, for_range (fun i σ H' => TurnSt H c n (turnM c n i) σ H') s1 (fun i σ H' hi p => ?_) (fun σ H' p => ?_)⟩
  · obtain ⟨g, l, ys, num, o1, o2, rfl, el, hl, hyl, hy, st⟩ := p
    have hi' : i < n := by omega
    have e0 : (0 + (i : Int)) = ((i : Nat) : Int) := by omega
    obtain ⟨m1, m2⟩ := mod_nv num h1
    have c1e : decide (V.int (c % 5) = V.int 0) = true → c % 5 = 0 := fun z => by injection of_decide_eq_true z
    have c1n : ¬ decide (V.int (c % 5) = V.int 0) = true → ¬ c % 5 = 0 := fun z e => z (decide_eq_true (by rw [e]))
    refine ⟨_, rfl, _, _, rfl, rfl, (by decide : (0 : Int) < 5), rfl, _, rfl, ite2 (fun c1 => ?_) (fun c1 => ?_)⟩
    · refine ⟨_, rfl, _, rfl, _, _, rfl, rfl, np, ?_⟩
      try dsimp only
      rw [m1]
      obtain ⟨k, ek1⟩ : ∃ k, (num % (n : Int)).toNat = k := ⟨_, rfl⟩
      rw [ek1] at m2 ⊢
      refine ⟨_, rfl, _, rfl, l, _, _, i, rfl, rfl, el, (by rw [e0, List.length_map]; exact ixN_nat (by omega)), ?_⟩
      try dsimp only
      rw [set_nv]
      refine ⟨_, rfl, _, rfl, _, _, rfl, rfl, ⟨by omega, by omega⟩, ?_⟩
      refine ⟨same_upd g hl, l, _, _, _, _, rfl, upd_same, hl, by rw [List.length_set, hyl], set_lt hy m2, ?_⟩
      rw [turnM_succ, ← st]
      unfold turnStep
      rw [if_pos (c1e c1), ek1]
    refine ⟨_, rfl, _, _, rfl, rfl, (by decide : (0 : Int) < 5), _, _, rfl, rfl, _, rfl, ite2 (fun c2 => ?_) (fun c2 => ⟨g, l, ys, num, _, _, rfl, el, hl, hyl, hy, by rw [turnM_succ, ← st]; unfold turnStep; rw [if_neg (c1n c1), if_neg fun z => c2 (decide_eq_true z)]⟩)⟩
    have ip : (0 : Int) < 0 + (i : Int) + 1 := by omega
    refine ⟨_, rfl, _, rfl, _, _, rfl, rfl, _, _, rfl, rfl, ip, ?_⟩
    obtain ⟨k, ek, hk⟩ : ∃ k : Nat, num % (0 + (i : Int) + 1) = (k : Int) ∧ k ≤ i := ⟨(num % (0 + (i : Int) + 1)).toNat, by have := Int.emod_nonneg num (Int.ne_of_gt ip); omega, by have := Int.emod_lt_of_pos num ip; omega⟩
    try dsimp only
    rw [ek]
    refine ⟨_, rfl, _, rfl, _, _, rfl, rfl, _, _, rfl, rfl, ⟨by omega, by omega⟩, ?_⟩
    refine ⟨_, rfl, _, rfl, l, _, _, _, rfl, rfl, SqL.of el, at_nv (by omega), _, rfl, _, rfl, l, _, _, _, rfl, rfl, SqL.of el, (by rw [e0]; exact at_nv (by omega)), by show 2 ≤ sizeLine; decide, fun t nt => ?_⟩
    have kt := same_new nt (.tup [nv (ys.getD k 0), nv (ys.getD i 0)])
    refine ⟨t, _, rfl, SqT.of upd_same, rfl, _, _, rfl, _, rfl, _, rfl, l, _, _, i, rfl, rfl, kt _ _ el, (by rw [e0, List.length_map]; exact ixN_nat (by omega)), ?_⟩
    try dsimp only
    rw [set_nv]
    refine ⟨_, _, rfl, _, rfl, _, rfl, l, _, _, k, rfl, rfl, upd_same, (by rw [List.length_map, List.length_set]; exact ixN_nat (by omega)), ?_⟩
    try dsimp only
    rw [set_nv, upd_upd]
    refine ⟨rfl, same_upd (g.trans kt) hl, l, _, _, _, _, rfl, upd_same, hl, by rw [List.length_set, List.length_set, hyl], set_lt (set_lt hy (getD_lt hy (by omega))) (getD_lt hy (by omega)), ?_⟩
    rw [turnM_succ, ← st]
    unfold turnStep
    have ek2 : num % ((i : Int) + 1) = (k : Int) := by rw [← ek, Int.zero_add]
    rw [if_neg (c1n c1), if_pos (of_decide_eq_true c2), ek2, Int.toNat_natCast, Int.zero_add]
  · obtain ⟨g, l, ys, num, o1, o2, rfl, el, hl, hyl, hy, st⟩ := p
    have st : (num, ys) = turnM c n n := st
    have s1 : (turnM c n n).1 = num := by rw [← st]
    have s2 : (turnM c n n).2 = ys := by rw [← st]
    refine ⟨TurnSt H c n (num, turnE c n (num, ys)), ?_, fun σ4 H4 p4 => ?_⟩
    · refine ⟨_, rfl, _, _, rfl, rfl, (by decide : (0 : Int) < 5), rfl, _, rfl, ite2 (fun c5 => ?_) (fun c5 => ⟨g, l, ys, num, o1, o2, rfl, el, hl, hyl, hy, by unfold turnE; rw [if_neg fun e => c5 (decide_eq_true (congrArg V.int e))]⟩)⟩
      obtain ⟨m1, m2⟩ := mod_nv num h1
      obtain ⟨m3, m4⟩ := mod_nv (num / (n : Int)) h1
      refine ⟨_, rfl, _, rfl, _, _, rfl, rfl, ⟨by omega, by omega⟩, _, rfl, _, _, rfl, rfl, np, ?_⟩
      try dsimp only
      rw [m3]
      refine ⟨_, rfl, _, rfl, _, rfl, _, _, rfl, rfl, np, ?_⟩
      try dsimp only
      rw [m1]
      have c5e : c % 5 = 3 := by injection of_decide_eq_true c5
      obtain ⟨k, ek1⟩ : ∃ k, (num % (n : Int)).toNat = k := ⟨_, rfl⟩
      rw [ek1] at m2 ⊢
      refine ⟨l, _, _, k, rfl, rfl, el, (by rw [List.length_map]; exact ixN_nat (by omega)), ?_⟩
      try dsimp only
      rw [set_nv]
      refine ⟨same_upd g hl, l, _, _, _, _, rfl, upd_same, hl, by rw [List.length_set, hyl], set_lt hy m4, ?_⟩
      unfold turnE
      rw [if_pos c5e, ek1]
    · obtain ⟨g4, l4, ys4, num4, o1, o2, rfl, el4, hl4, hyl4, hy4, st4⟩ := p4
      injection st4 with st5 st6
      subst st5
      refine ⟨TurnSt H c n (num4, turnF c n), ?_, fun σ5 H5 p5 => ?_⟩
      · refine ⟨_, rfl, _, _, rfl, rfl, (by decide : (0 : Int) < 5), rfl, _, rfl, ite2 (fun c6 => ?_) (fun c6 => ⟨g4, l4, ys4, num4, o1, o2, rfl, el4, hl4, hyl4, hy4, by unfold turnF; rw [if_neg fun e => c6 (decide_eq_true (congrArg V.int e)), ← st, st6]⟩)⟩
        have e1 : (n : Int).toNat = n := Int.toNat_natCast n
        have c6e : c % 5 = 4 := by injection of_decide_eq_true c6
        refine ⟨_, rfl, (n : Int), rfl, by omega, by omega, map_range (f := fun (i : Nat) => nv ((num4 % (n : Int) + (0 + (i : Int)) * (num4 / (n : Int) % 2)) % (n : Int)).toNat) (small (by omega)) (fun i Q hi q => ?_) (fun l5 hl5 => ?_)⟩
        · refine ⟨_, rfl, _, rfl, _, _, rfl, rfl, np, _, rfl, _, rfl, _, rfl, _, _, rfl, rfl, ⟨by omega, by omega⟩, _, _, rfl, rfl, (by decide : (0 : Int) < 2), _, _, rfl, rfl, .inl ⟨by omega, by omega⟩, _, _, rfl, rfl, _, rfl, _, _, rfl, rfl, np, ?_⟩
          try dsimp only
          rw [(mod_nv _ h1).1]
          exact q
        · refine ⟨g4.trans (same_new hl5 _), l5, (List.range n).map fun (i : Nat) => ((num4 % (n : Int) + (0 + (i : Int)) * (num4 / (n : Int) % 2)) % (n : Int)).toNat, num4, _, _, rfl, ?_, g4.free hl5, by simp, fun y hy => ?_, ?_⟩
          · rw [upd_same, e1, List.map_map]
            rfl
          · obtain ⟨i, _, rfl⟩ := List.mem_map.mp hy
            exact (mod_nv _ h1).2
          · unfold turnF
            rw [if_pos c6e, s1]
      · obtain ⟨g4, l4, ys4, num, o1, o2, rfl, el4, hl4, hyl4, hy4, st7⟩ := p5
        injection st7 with _ st8
        subst st8
        exact ⟨_, rfl, l4, _, rfl, .inl ⟨SqL.of el4, fun t ht => q t _ (g4.trans (same_new ht _)) upd_same hyl4 hy4⟩⟩
theorem ok_machine (F : Fun K "_law_machine" "_law_machine" sLawMachine f fd) (c__law_cell_at : Callee P w K mg base "_law_cell_at" 1 ["_law_script", "_law_k"] (spCell2 K)) (c__law_turn : Callee P w K mg base "_law_turn" 1 ["_law_cell", "_law_rooms"] spTurn)
    (m_range : mg "range" = none) (m_tuple : mg "tuple" = none) : FnOk P w K mg base CX0 3 f fd ["_law_script"] (spMachine K) := by
  refine F.ok scLawMachine (fun vs H Q E h => ?_) (fun cdv A outer s H vs Q E hr h => ?_)
  · obtain ⟨a, ns, rfl, _⟩ := h
    rfl
  obtain ⟨a, ns, rfl, hS, q⟩ := h
  refine ⟨_, (pss_cons (ps_set (i := 1) scLawMachine.nd rfl (Or.inr rfl) (pe_op op_add pe_int (pe_op op_mod (pe_callD c__law_cell_at (hr.mono (by decide)) rfl (pl_at (pl_cons (pv 0) (pl_cons pe_int pl_nil rfl) rfl))) pe_int))) (pss_cons (ps_set (i := 2) scLawMachine.nd rfl (Or.inl rfl) (pe_op op_add pe_int (pe_op op_mod (pe_callD c__law_cell_at (hr.mono (by decide)) rfl (pl_at (pl_cons (pv 0) (pl_cons pe_int pl_nil rfl) rfl))) pe_int))) (pss_one (ps_ret (pe_callTy call_tuple_of rfl m_tuple boot_tuple (pa_cons (pe_comp1 (CompSc.to (N := ["_law_script", "_law_rooms", "_law_many"]) (osc := defScope sLawMachine) (vs := ["_law_k"]) ⟨rfl, by decide +kernel, by decide +kernel, by decide +kernel, by decide +kernel, by decide +kernel, by decide +kernel⟩) rfl rfl (pi_range1 rfl m_range (pa_cons (pv 2) pa_nil)) (fun _ _ _ _ => pts_nil) (fun _ _ _ _ => (pe_callD c__law_turn (hr.mono (by decide)) rfl (pl_at (pl_cons (pe_callD c__law_cell_at (hr.mono (by decide)) rfl (pl_at (pl_cons (pv 1) (pl_cons (pe_op op_add pe_int (pv 0)) pl_nil rfl) rfl))) (pl_cons (pv 2) pl_nil rfl) rfl))))) pa_nil)))))), ?_⟩
  refine ⟨_, rfl, a, ns, 0, rfl, Int.le_refl 0, hS, ⟨_, _, rfl, rfl, (by decide : (0 : Int) < 5), _, _, rfl, rfl, ?_⟩⟩
  obtain ⟨n, en, n1, n5, en2⟩ : ∃ n : Nat, (1 + ns.getD (0 : Int).toNat 0 % 5 : Int) = (n : Int) ∧ 1 ≤ n ∧ n ≤ 5 ∧ (1 + ns.getD 0 0 % 5 : Int).toNat = n := ⟨(1 + ns.getD 0 0 % 5).toNat, by show (1 + ns.getD 0 0 % 5 : Int) = _; omega, by omega, by omega, rfl⟩
  try dsimp only
  rw [en]
  refine ⟨_, rfl, a, ns, 1, rfl, by decide, hS, ⟨_, _, rfl, rfl, (by decide : (0 : Int) < 4), _, _, rfl, rfl, ?_⟩⟩
  obtain ⟨k, ek, k1, k4, ek2⟩ : ∃ n : Nat, (1 + ns.getD (1 : Int).toNat 0 % 4 : Int) = (n : Int) ∧ 1 ≤ n ∧ n ≤ 4 ∧ (1 + ns.getD 1 0 % 4 : Int).toNat = n := ⟨(1 + ns.getD 1 0 % 4).toNat, by show (1 + ns.getD 1 0 % 4 : Int) = _; omega, by omega, by omega, rfl⟩
  try dsimp only
  rw [ek]
  have em : machF ns = (List.range k).map fun i => turnF (ns.getD (2 + i) 0) n := by unfold machF; rw [ek2, en2]
  rw [en2] at q
  refine ⟨_, rfl, (k : Int), rfl, by omega, by omega, comp_range (fun i zs H' => Same H H' ∧ ∃ (rs : List Addr) (ts : List (List Nat)), ts = ((List.range i).map fun i => turnF (ns.getD (2 + i) 0) n) ∧ zs = rs.map V.ref ∧ rs.length = i ∧ ts.length = i ∧ (∀ (j : Nat) r t, rs[j]? = some r → ts[j]? = some t → H' r = some (.tup (t.map nv))) ∧ ∀ t ∈ ts, t.length = n ∧ ∀ x ∈ t, x < n)
    (small (by omega)) ⟨Same.refl _, [], [], rfl, rfl, rfl, rfl, (fun j r t e => absurd e (by simp)), (fun t ht => absurd ht (by simp))⟩ (fun i zs H' _ p => ?_) (fun i zs H' hi p => ?_) (fun zs H' p l hl => ?_)⟩
  · obtain ⟨_, rs, ts, _, rfl, e, _⟩ := p
    rw [List.length_map]
    omega
  · obtain ⟨g, rs, ts, ets, rfl, hrl, htl, hrt, ht⟩ := p
    refine ⟨keep_one, yes_of ?_⟩
    refine ⟨_, rfl, _, rfl, _, _, rfl, rfl, a, ns, _, rfl, by omega, g.seq hS, ⟨_, rfl, _, n, rfl, n1, n5, fun r H2 g2 e2 hyl hy => ?_⟩⟩
    have ei : (2 + (0 + (i : Int)) : Int).toNat = 2 + i := by omega
    rw [ei] at e2 hyl hy
    generalize ey : turnF (ns.getD (2 + i) 0) n = ys at e2 hyl hy
    refine ⟨g.trans g2, rs ++ [r], ts ++ [ys], by rw [ets, List.range_succ, List.map_append]; show _ ++ [ys] = _ ++ [turnF (ns.getD (2 + i) 0) n]; rw [ey], by simp, by simp [hrl], by simp [htl], fun j r' t' e3 e4 => ?_, fun t ht' => ?_⟩
    · by_cases hj : j < i
      · rw [List.getElem?_append_left (by omega)] at e3 e4
        exact g2 _ _ (hrt j r' t' e3 e4)
      · have hj' : j = i := by
          have := (List.getElem?_eq_some_iff.mp e3).1
          rw [List.length_append, hrl] at this
          have : j < i + 1 := this
          omega
        subst hj'
        rw [List.getElem?_append_right (by omega), hrl, Nat.sub_self] at e3
        rw [List.getElem?_append_right (by omega), htl, Nat.sub_self] at e4
        cases e3
        cases e4
        exact e2
    · rcases List.mem_append.mp ht' with z | z
      · exact ht t z
      · have e : t = ys := by simpa using z
        rw [e]
        exact ⟨hyl, hy⟩
  · obtain ⟨g, rs, ts, ets, rfl, hrl, htl, hrt, ht⟩ := p
    have g1 := same_new hl (.lst (rs.map V.ref))
    refine ⟨l, _, rfl, .inl ⟨SqL.of upd_same, fun m hm => ?_⟩⟩
    have g2 := g1.trans (same_new hm (.tup (rs.map V.ref)))
    have hk : (k : Int).toNat = k := Int.toNat_natCast k
    rw [hk, ← em] at ets
    rw [← ets] at q
    exact q m _ (g.trans g2) ⟨⟨rs, upd_same, by omega, fun i r t e1 e2 => g2 _ _ (hrt i r t e1 e2)⟩, by omega, by omega, n1, n5, ht⟩
end
def spStill : Sp := fun vs H Q _ => ∃ n : Nat, vs = [nv n] ∧ n ≤ 1000 ∧ NewT H ((List.range n).map nv) Q
section
variable {P : Program} {w : World} {K : PySem.W.Frag} {mg : Str → Option Value} {base : Heap} {f : Addr} {fd : FuncData}
theorem ok_still (F : Fun K "still" "still" sStill f fd) (m_tuple : mg "tuple" = none) (m_range : mg "range" = none) : FnOk P w K mg base CX0 1 f fd ["rooms"] spStill := by
  refine F.ok scStill (fun vs H Q E h => ?_) (fun cdv A outer s H vs Q E hr h => ?_)
  · obtain ⟨n, rfl, _⟩ := h
    rfl
  obtain ⟨n, rfl, hn, q⟩ := h
  refine ⟨_, (pss_one (ps_ret (pe_callTy (call_tup_rng rfl) rfl m_tuple boot_tuple (pa_cons (pe_callTy call_rangeV rfl m_range boot_range (pa_cons (pv 0) pa_nil)) pa_nil)))), ?_⟩
  refine ⟨_, rfl, (n : Int), rfl, fun p hp => ⟨p, (n : Int), rfl, upd_same, by omega, by omega, fun t ht => ?_⟩⟩
  exact q t _ ((same_new hp _).trans (same_new ht _)) upd_same
end
def beh (xs ys : List Nat) : List Nat := xs.map fun x => ys.getD x 0
def spBehind : Sp := fun vs H Q _ => ∃ (a b : Addr) (xs ys : List Nat), vs = [.ref a, .ref b] ∧ H a = some (.tup (xs.map nv)) ∧ H b = some (.tup (ys.map nv)) ∧ (∀ x ∈ xs, x < ys.length) ∧ xs.length ≤ 1000 ∧ NewT H ((beh xs ys).map nv) Q
section
variable {P : Program} {w : World} {K : PySem.W.Frag} {mg : Str → Option Value} {base : Heap} {f : Addr} {fd : FuncData}
theorem ok_behind (F : Fun K "behind" "behind" sBehind f fd) (m_tuple : mg "tuple" = none) : FnOk P w K mg base CX0 1 f fd ["one", "other"] spBehind := by
  refine F.ok scBehind (fun vs H Q E h => ?_) (fun cdv A outer s H vs Q E hr h => ?_)
  · obtain ⟨a, b, xs, ys, rfl, _⟩ := h
    rfl
  obtain ⟨a, b, xs, ys, rfl, ha, hb, hlt, hz, q⟩ := h
  refine ⟨_, (pss_one (ps_ret (pe_callTy call_tuple_of rfl m_tuple boot_tuple (pa_cons (pe_comp1 (CompSc.to (N := ["one", "other"]) (osc := defScope sBehind) (vs := ["room"]) ⟨rfl, by decide +kernel, by decide +kernel, by decide +kernel, by decide +kernel, by decide +kernel, by decide +kernel⟩) rfl rfl (pi_tup (pv 0)) (fun _ _ _ _ => pts_nil) (fun _ _ _ _ => (pe_ix (IxR.k (K := K) rIxT ix_tup rfl) (pv 2) (pv 0) (fun _ _ => rfl)))) pa_nil)))), ?_⟩
  have e : (xs.map nv).map (fun v => match v with | .int i => nv (ys.getD i.toNat 0) | v => v) = (beh xs ys).map nv := by
    unfold beh
    rw [List.map_map, List.map_map]
    rfl
  refine ⟨_, rfl, a, rfl, ⟨_, SqT.of ha⟩, map_tup (f := fun v => match v with | .int i => nv (ys.getD i.toNat 0) | v => v) (by rw [List.length_map]; exact small hz) (SqT.of ha) (fun v Q hv q => ?_) (fun p hp => ?_)⟩
  · obtain ⟨x, hx, rfl⟩ := List.mem_map.mp hv
    exact ⟨_, rfl, _, rfl, b, _, _, _, rfl, rfl, SqT.of hb, at_nv (hlt x hx), q⟩
  · rw [e]
    exact ⟨p, _, rfl, .inl ⟨SqL.of upd_same, fun t ht => q t _ ((same_new hp _).trans (same_new ht _)) upd_same⟩⟩
end
def spRest : Sp := fun vs H Q _ => ∃ (a : Addr) (t : List Nat), vs = [.ref a] ∧ H a = some (.tup (t.map nv)) ∧ Cyc.Turn t ∧ t.length ≤ 10 ∧
  ∀ (r : Addr) (H' : Hp) (b c : Nat), Same H H' → H' r = some (.tup [nv b, nv c]) → Cyc.Ring (Cyc.pw t) b c → Q (.ref r) H'
def RestSt (H : Hp) (a d : Addr) (t : List Nat) (k : Nat) (σ : L2.St) (H' : Hp) : Prop := Same H H' ∧ ∃ (pr : Addr) (kvs : List (List Key × V)) (o : Option V), σ = [some (.ref a), some (.ref d), some (.ref pr), o] ∧ H' d = some (.dT kvs) ∧
  H' pr = some (.tup ((Cyc.pw t k).map nv)) ∧ kvs.length = k ∧ (∀ x v, valV kvs (nk x) = some v ↔ ∃ i, i < k ∧ Cyc.pw t i = x ∧ v = nv i) ∧ ∀ i j, i < j → j < k → Cyc.pw t i ≠ Cyc.pw t j
section
variable {P : Program} {w : World} {K : PySem.W.Frag} {mg : Str → Option Value} {base : Heap} {f : Addr} {fd : FuncData}
theorem ok_rest_of (F : Fun K "rest_of" "rest_of" sRestOf f fd) (c_still : Callee P w K mg base "still" 1 ["rooms"] spStill) (c_behind : Callee P w K mg base "behind" 1 ["one", "other"] spBehind) (m_len : mg "len" = none) : FnOk P w K mg base CX0 3 f fd ["turn"] spRest := by
  refine F.ok scRestOf (fun vs H Q E h => ?_) (fun cdv A outer s H vs Q E hr h => ?_)
  · obtain ⟨a, t, rfl, _⟩ := h
    rfl
  obtain ⟨a, t, rfl, ha, hT, h10, q⟩ := h
  have hu1 := hu_of hr
  refine ⟨_, (pss_cons (ps_set (i := 1) scRestOf.nd rfl (Or.inl rfl) pe_dnewT) (pss_cons (ps_set (i := 2) scRestOf.nd rfl (Or.inl rfl) (pe_callD c_still (hr.mono (by decide)) rfl (pa_cons (pe_callB call_len_seq rfl m_len boot_len (pa_cons (pv 0) pa_nil)) pa_nil))) (pss_cons (ps_while PassesOwn.never (pt_cmp (pc_dnotin hu1 (pv 2) (pv 1))) (pss_cons (ps_dput hu1 (pv 1) (pv 2) (pe_callB call_lenT rfl m_len boot_len (pa_cons (pv 1) pa_nil)) rfl) (pss_one (ps_set (i := 2) scRestOf.nd rfl (Or.inl rfl) (pe_callD c_behind (hr.mono (by decide)) rfl (pl_at (pl_cons (pv 2) (pl_cons (pv 0) pl_nil rfl) rfl))))))) (pss_cons (ps_set (i := 3) scRestOf.nd rfl (Or.inl rfl) (pe_dget hu1 (pv 1) (pv 2) (fun _ _ => rfl))) (pss_one (ps_ret (pe_tup (pl_at (pl_cons (pv 3) (pl_cons (pe_op op_sub (pe_callB call_lenT rfl m_len boot_len (pa_cons (pv 1) pa_nil)) (pv 3)) pl_nil rfl) rfl))))))))), ?_⟩
  refine fun d hd => ?_
  have gd := same_new hd (.dT [])
  refine ⟨_, rfl, a, _, rfl, .inr (SqT.of (gd _ _ ha)), (t.map nv).length, rfl, by rw [List.length_map]; omega, fun pr H1 g1 e1 => ?_⟩
  rw [List.length_map] at e1
  have hfp := Cyc.fact_pos t.length
  have hfl := Cyc.fact_le t.length h10
  refine ⟨fun m σ H' => ∃ k, m + k = t.length + Cyc.fact t.length + 1 ∧ RestSt H a d t k σ H', ⟨_, 0, rfl, gd.trans g1, pr, [], _, rfl, g1 _ _ upd_same, e1, rfl, fun x v => ⟨fun z => (by cases z), fun ⟨i, hi, _⟩ => absurd hi (Nat.not_lt_zero _)⟩, fun i j _ hj => absurd hj (Nat.not_lt_zero _)⟩, fun m σ H' p => ?_⟩
  obtain ⟨k, hm, g, pr, kvs, o, rfl, ed, epr, hk, hv, hne⟩ := p
  have kN : k ≤ t.length + Cyc.fact t.length := by
    by_cases z : k ≤ t.length + Cyc.fact t.length
    · exact z
    · exact absurd (Cyc.pw_again hT) (hne _ _ (by omega) (by omega))
  have hdg := DGet.t (k := nk (Cyc.pw t k)) ed (b := pr) (by rw [nk_kV]; exact epr)
  refine ⟨_, rfl, _, rfl, d, _, rfl, hdg, _, rfl, ?_⟩
  cases ev : valV kvs (nk (Cyc.pw t k)) with
  | none =>
    refine iteT ⟨RestSt H a d t (k + 1), fun σ' H'' p' => ⟨m - 1, by omega, k + 1, by omega, p'⟩, ?_⟩
    refine ⟨_, rfl, d, kvs, rfl, ed, _, rfl, _, rfl, d, _, rfl, DPut.t (k := nk (Cyc.pw t k)) ed (by rw [nk_kV]; exact epr) (by rw [hk, sizeLine_eq]; omega), ?_⟩
    have n1 : pr ≠ d := ne_of epr ed (by intro z; cases z)
    have n2 : a ≠ d := ne_of (g _ _ ha) ed (by intro z; cases z)
    refine ⟨_, rfl, _, rfl, pr, a, Cyc.pw t k, t, rfl, (by rw [upd_ne n1]; exact epr), (by rw [upd_ne n2]; exact g _ _ ha), Cyc.pw_lt hT k, by rw [Cyc.pw_len]; omega, fun r H4 g4 e4 => ?_⟩
    refine ⟨(same_upd g hd).trans g4, r, _, o, rfl, g4 _ _ upd_same, e4, ?_, fun x v => ?_, fun i j h1 h2 => ?_⟩
    · rw [putK_new _ ev, List.length_append, hk]
      rfl
    · rw [valV_put]
      by_cases z : nk x = nk (Cyc.pw t k)
      · rw [if_pos z]
        have z' := nk_inj z
        constructor
        · intro e
          exact ⟨k, by omega, z'.symm, by rw [hk] at e; exact (Option.some.inj e).symm⟩
        · rintro ⟨i, hi, e, rfl⟩
          by_cases hi' : i < k
          · have := (hv x (nv i)).mpr ⟨i, hi', e, rfl⟩
            rw [z, ev] at this
            cases this
          · have : i = k := by omega
            rw [this, hk]
      · rw [if_neg z, hv]
        constructor
        · rintro ⟨i, hi, e, rfl⟩
          exact ⟨i, by omega, e, rfl⟩
        · rintro ⟨i, hi, e, rfl⟩
          refine ⟨i, ?_, e, rfl⟩
          by_cases hi' : i = k
          · rw [hi'] at e
            exact absurd (by rw [e]) z
          · omega
    · by_cases hj : j < k
      · exact hne i j h1 hj
      · have : j = k := by omega
        subst this
        intro e
        have := (hv (Cyc.pw t j) (nv i)).mpr ⟨i, h1, e, rfl⟩
        rw [ev] at this
        cases this
  | some v =>
    refine iteF ?_
    rw [ev] at hdg
    refine ⟨_, rfl, _, rfl, d, v, rfl, hdg, ?_⟩
    obtain ⟨i, hi, e, rfl⟩ := (hv _ _).mp ev
    refine ⟨_, rfl, _, rfl, d, kvs, rfl, ed, _, rfl, _, _, rfl, rfl, (by show 2 ≤ sizeLine; decide), fun r hr => q r _ i (k - i) (g.trans (same_new hr _)) ?_ ⟨by omega, ?_, fun x y h1 h2 => hne x y h1 (by omega)⟩⟩
    · rw [upd_same]
      have : V.int ((kvs.length : Int) - (i : Int)) = nv (k - i) := by
        show V.int _ = V.int ((k - i : Nat) : Int)
        rw [hk]
        congr 1
        omega
      show some (HO.tup [nv i, V.int ((kvs.length : Int) - (i : Int))]) = _
      rw [this]
    · have : i + (k - i) = k := by omega
      rw [this, e]
end
def spTooMany (C : Addr) : Sp := fun vs H Q _ => ∃ (e : Addr) (n : Nat), vs = [.ref e, nv n] ∧ n ≤ 400 ∧ H e = some (.ext (ExcX e C none)) ∧ ∀ dx, H dx = none → dx ≠ e → Q .non (upd (upd H dx (.xd [("most", nv n)])) e (.ext (ExcX e C (some dx))))
def spRefuseM (C : Addr) : Sp := fun vs H Q E => ∃ (d : Addr) (kvs : List (List Key × V)) (n : Nat), vs = [.ref d, nv n] ∧ H d = some (.dT kvs) ∧ n ≤ 400 ∧ (kvs.length ≤ n → Q .non H) ∧ (n < kvs.length → ∀ dx, H dx = none → E (.ref C) (some dx) (upd H dx (.xd [("most", nv n)])))
def spReachedX (P : Program) (w : World) (K : PySem.W.Frag) (mg : Str → Option Value) (base : Heap) (C : Addr) : Sp := fun vs H Q E => ∃ (a st : Addr) (fd : FuncData) (ps : List Str) (x0 : List Nat) (L : Nat) (U : List (List Nat)) (g : List Nat → Nat → List Nat) (most : Nat),
  vs = [.ref a, nv L, .ref st, nv most] ∧ H a = some (.tup (x0.map nv)) ∧ H st = some (LamO st fd) ∧ x0 ∈ U ∧ (∀ x ∈ U, ∀ l, l < L → g x l ∈ U) ∧ U.length ≤ 4000 ∧ L ≤ 4000 ∧ most ≤ 400 ∧ FnOk P w K mg base CX0 5 st fd ps (spStep (Same H) U L g) ∧ Binds K fd ps [] ∧
  (∀ D ws as H', Same H H' → WordsAt H' D ws as → (∀ b ∈ D :: as, H b = none) → Told g L x0 ws → ws.length ≤ most → Q (.ref D) H') ∧
  (∀ (ws : TW) H' dx, Same H H' → H dx = none → H' dx = some (.xd [("most", nv most)]) → (ws.map (·.1)).Nodup → (∀ p ∈ ws, (∀ l ∈ p.2, l < L) ∧ goes g x0 p.2 = p.1) → most < ws.length → E (.ref C) (some dx) H')
section
variable {P : Program} {w : World} {K : PySem.W.Frag} {mg : Str → Option Value} {base : Heap} {f : Addr} {fd : FuncData} {C D : Addr}
theorem ok_too_many (F : Fun K "__init__" "TooMany.__init__" sTooManyInit f fd) (mkE : MkE K C D f) (bI : BaseI K D) (sE : SetE K C "most") (m_HallError : mg "HallError" = some (.ref D)) : FnOk P w K mg base CX0 1 f fd ["self", "most"] (spTooMany C) := by
  refine F.ok scTooManyInit (fun vs H Q E h => ?_) (fun cdv A outer s H vs Q E hr h => ?_)
  · obtain ⟨e, n, rfl, _⟩ := h
    rfl
  obtain ⟨e, n, rfl, hn, he, q⟩ := h
  refine ⟨_, (pss_cons (ps_expr (pe_initB mkE bI rfl m_HallError (pl_at (pl_cons (pv 0) (pl_cons (pe_fstr (pj_str (pj_int (pv 1) pj_nil))) pl_nil rfl) rfl)))) (pss_one (ps_fldE rfl mkE sE (pv 0) (pv 1)))), ?_⟩
  have z : ∀ k : Fin 401, (Str.empty ++ Str.ofString "there are more than " ++ Str.ofString (toString ((k : Nat) : Int))).length ≤ 40 := by decide +kernel
  have z1 := z ⟨n, by omega⟩
  have z2 : ∀ k : Fin 401, ((k : Nat) : Int).natAbs.log2 < 1920 := by decide +kernel
  have s1 : (40 : Nat) ≤ sizeLine := by decide
  exact ⟨_, rfl, by decide, _, rfl, (n : Int), rfl, z2 ⟨n, by omega⟩, Nat.le_trans z1 s1, Nat.le_trans z1 s1, e, _, rfl, he, _, rfl, _, rfl, e, rfl, he, q⟩
theorem ok_refuse_more (F : Fun K "refuse_more" "refuse_more" sRefuseMore f fd) (c_TooMany : MakesE P w K mg base "TooMany" 1 ["self", "most"] (spTooMany C) C) (m_len : mg "len" = none) : FnOk P w K mg base (CX1 P w) 3 f fd ["things", "most"] (spRefuseM C) := by
  refine F.okX scRefuseMore (fun vs H Q E h => ?_) (fun cdv A outer s H vs Q E hr h => ?_)
  · obtain ⟨d, kvs, n, rfl, _⟩ := h
    rfl
  obtain ⟨d, kvs, n, rfl, hd, hn, q, qE⟩ := h
  have hu1 := hu_of hr
  refine ⟨_, (pss_one (ps_if (PW.pt (pw_and (pt_cmpR op_notN (pv 1) pe_non (nomark _)) (pw_and1 (pt_cmpR op_gt (pe_callB call_lenT rfl m_len boot_len (pa_cons (pv 0) pa_nil)) (pv 1) (nomark _))))) (pss_one (ps_raiseM rfl rfl throwsE_def c_TooMany (hr.mono (by decide)) rfl (pa_cons (pv 1) pa_nil))) pss_nil)), ?_⟩
  refine ⟨_, rfl, rfl, _, rfl, iteT ⟨_, rfl, d, kvs, rfl, hd, _, rfl, _, _, rfl, rfl, _, rfl, ite2 (fun c => ?_) (fun c => ?_)⟩⟩
  · have c1 : n < kvs.length := by
      have := of_decide_eq_true c
      omega
    refine ⟨_, rfl, by show 1 ≤ sizeLine; decide, fun e he => ⟨e, n, rfl, hn, upd_same, fun dx hdx ne => ⟨rfl, some dx, upd H dx (.xd [("most", nv n)]), ?_, ?_, qE c1 dx ?_⟩⟩⟩
    · funext b
      unfold upd
      by_cases h1 : b = e
      · rw [if_pos h1, if_pos h1]
      · rw [if_neg h1, if_neg h1]
        by_cases h2 : b = dx
        · rw [if_pos h2, if_neg h1]
        · rw [if_neg h2, if_neg h1]
    · rw [upd_ne (Ne.symm ne)]
      exact he
    · rw [upd_ne ne] at hdx
      exact hdx
  · exact q (by
      have : ¬ (n : Int) < (kvs.length : Int) := fun z => c (decide_eq_true z)
      omega)
theorem ok_reached {fdv cv : Value} (F : DefAt K "reached" sReached f fd fdv cv) (c_refuse_more : CalleeX P w K mg base "refuse_more" 3 ["things", "most"] (spRefuseM C)) (m_range : mg "range" = none) : FnOk P w K mg base (CX1 P w) 8 f fd ["start", "letters", "step", "most"] (spReachedX P w K mg base C) := by
  refine F.fnOkX scReached (fun vs H Q E h => ?_) (fun A outer s H vs Q E h hr => ?_)
  · obtain ⟨a, st, fd, ps, x0, L, U, g, most, rfl, _⟩ := h
    rfl
  obtain ⟨a, st, sd, ps, x0, L, U, g, most, rfl, ha, hst, h0, hU, few, fewL, fewM, hF, hB, q, qE⟩ := h
  have hu1 := hu_of hr
  refine ⟨_, reach_readM (G := fun ws => ws.length ≤ most) (sR := spRefuseM C) (mo := nv most) (EE := E) (fun H1 D ws as Q1 g1 W kn run k => ?_) (hr.mono (by decide)) ha hst h0 hU few fewL hF hB q, (pss_cons (ps_set (i := 4) scReached.nd rfl (Or.inl rfl) (pe_disp1 hu1 (pv 0) (pe_lst pa_nil))) (pss_cons (ps_expr (pe_callX c_refuse_more (hr.mono (by decide)) passes_def rfl (pl_at (pl_cons (pv 4) (pl_cons (pv 3) pl_nil rfl) rfl)))) (pss_cons (ps_set (i := 5) scReached.nd rfl (Or.inl rfl) (pe_lst (pa_cons (pv 0) pa_nil))) (pss_cons (ps_while PassesOwn.leaving (pt_truth (pv 5) (fun _ => rfl)) (pss_cons (ps_set (i := 6) scReached.nd rfl (Or.inl rfl) (pe_lst pa_nil)) (pss_cons (ps_for PassesOwn.leaving rfl (pi_list (pv 5)) (pg_name (i := 7) scReached.nd rfl (Or.inl rfl)) (pss_one (ps_for PassesOwn.leaving rfl (pi_range1 rfl m_range (pa_cons (pv 1) pa_nil)) (pg_name (i := 8) scReached.nd rfl (Or.inl rfl)) (pss_cons (ps_set (i := 9) scReached.nd rfl (Or.inl rfl) (pe_callV 2 (pv 2) (pl_at (pl_cons (pv 7) (pl_cons (pv 8) pl_nil rfl) rfl)))) (pss_one (ps_if (pt_cmp (pc_dnotin hu1 (pv 9) (pv 4))) (pss_cons (ps_dput hu1 (pv 4) (pv 9) (pe_op op_catS (pe_dget hu1 (pv 4) (pv 7) (fun _ _ => rfl)) (pe_lst (pa_cons (pv 8) pa_nil))) rfl) (pss_cons (ps_expr (pe_callX c_refuse_more (hr.mono (by decide)) passes_def rfl (pl_at (pl_cons (pv 4) (pl_cons (pv 3) pl_nil rfl) rfl)))) (pss_one (ps_expr (pe_bm PySem.F.plainAttrs_list PySem.F.slot_list_append PySem.F.type_list_append mt_append (pv 6) (pa_cons (pv 9) pa_nil)))))) pss_nil)))))) (pss_one (ps_set (i := 5) scReached.nd rfl (Or.inl rfl) (pv 6)))))) (pss_one (ps_ret (pv 4)))))))⟩
  refine ⟨D, kvsOf ws as, most, rfl, W.dict, fewM, fun h => k (by rw [kvs_len W.len] at h; exact h), fun h dx hdx => qE ws _ dx (g1.trans (same_new hdx _)) (g1.free hdx) upd_same kn run (by rw [kvs_len W.len] at h; exact h)⟩
end
def mapsU (n : Nat) : Nat → List (List Nat)
  | 0 => [[]]
  | k + 1 => (mapsU n k).flatMap fun x => (List.range n).map fun r => x ++ [r]
theorem mem_mapsU {n : Nat} : ∀ {k : Nat} {x : List Nat}, x ∈ mapsU n k ↔ x.length = k ∧ ∀ r ∈ x, r < n
  | 0, x => by
    show x ∈ [[]] ↔ _
    rw [List.mem_singleton]
    constructor
    · rintro rfl
      exact ⟨rfl, fun r hr => nomatch hr⟩
    · rintro ⟨h, _⟩
      exact List.length_eq_zero_iff.mp h
  | k + 1, x => by
    show x ∈ (mapsU n k).flatMap _ ↔ _
    rw [List.mem_flatMap]
    constructor
    · rintro ⟨y, hy, hx⟩
      obtain ⟨r, hr, rfl⟩ := List.mem_map.mp hx
      obtain ⟨h1, h2⟩ := mem_mapsU.mp hy
      refine ⟨by simp [h1], fun z hz => ?_⟩
      rcases List.mem_append.mp hz with m | m
      · exact h2 z m
      · rw [List.mem_singleton.mp m]
        exact List.mem_range.mp hr
    · rintro ⟨h1, h2⟩
      have ne : x ≠ [] := fun z => by rw [z] at h1; cases h1
      refine ⟨x.dropLast, mem_mapsU.mpr ⟨by rw [List.length_dropLast, h1]; rfl, fun r hr => h2 r (List.dropLast_subset _ hr)⟩, List.mem_map.mpr ⟨x.getLast ne, List.mem_range.mpr (h2 _ (List.getLast_mem ne)), List.dropLast_concat_getLast ne⟩⟩
theorem mapsU_len {n : Nat} : ∀ k, (mapsU n k).length = n ^ k
  | 0 => rfl
  | k + 1 => by
    show ((mapsU n k).flatMap _).length = _
    rw [List.length_flatMap]
    have z : ∀ l : List (List Nat), (l.map fun x => ((List.range n).map fun r => x ++ [r]).length).sum = l.length * n := by
      intro l
      induction l with
      | nil => simp
      | cons a l ih => rw [List.map_cons, List.sum_cons, ih, List.length_map, List.length_range, List.length_cons, Nat.succ_mul, Nat.add_comm]
    rw [z, mapsU_len k, Nat.pow_succ]
theorem mapsU_few {n : Nat} (h : n ≤ 5) : (mapsU n n).length ≤ 4000 := by
  rw [mapsU_len]
  have z : ∀ k : Fin 6, (k : Nat) ^ (k : Nat) ≤ 4000 := by decide
  exact z ⟨n, by omega⟩
def stepT (ts : List (List Nat)) (x : List Nat) (l : Nat) : List Nat := beh x (ts.getD l [])
theorem Mach.noT {H : Hp} {m : Addr} {ts : List (List Nat)} {n : Nat} (M : Mach H m ts n) : Mach (L2.noT H) m ts n :=
  ⟨let ⟨rs, h1, h2, h3⟩ := M.refs; ⟨rs, noT_at h1 (fun _ e => nomatch e), h2, fun i r t e1 e2 => noT_at (h3 i r t e1 e2) fun _ e => nomatch e⟩, M.some1, M.few, M.n1, M.n5, M.each⟩
theorem Mach.keeps {H H' : Hp} {m : Addr} {ts : List (List Nat)} {n : Nat} (M : Mach H m ts n) (g : Keeps H H') : Mach H' m ts n := M.noT.same g
theorem Mach.drop {H : Hp} {m c : Addr} {ts : List (List Nat)} {n : Nat} {φ : Heap → Prop} (M : Mach H m ts n) (hc : H c = some (.ext φ)) : Mach (L2.drop H c) m ts n := by
  obtain ⟨rs, h1, h2, h3⟩ := M.refs
  refine ⟨⟨rs, ?_, h2, fun i r t e1 e2 => ?_⟩, M.some1, M.few, M.n1, M.n5, M.each⟩
  · rw [drop_ne (ne_of h1 hc fun e => nomatch e)]
    exact h1
  · have z := h3 i r t e1 e2
    rw [drop_ne (ne_of z hc fun e => nomatch e)]
    exact z
theorem Mach.steps {H : Hp} {m : Addr} {ts : List (List Nat)} {n : Nat} (M : Mach H m ts n) : ∀ x ∈ mapsU n n, ∀ l, l < ts.length → stepT ts x l ∈ mapsU n n := fun x hx l hl => by
  obtain ⟨h1, h2⟩ := mem_mapsU.mp hx
  obtain ⟨_, _, _, _, _, _, h5, h6⟩ := M.at hl
  refine mem_mapsU.mpr ⟨by unfold stepT beh; rw [List.length_map, h1], fun r hr => ?_⟩
  obtain ⟨y, hy, rfl⟩ := List.mem_map.mp hr
  exact getD_lt h6 (by rw [h5]; exact h2 y hy)
theorem range_mapsU (n : Nat) : List.range n ∈ mapsU n n := mem_mapsU.mpr ⟨List.length_range, fun r hr => List.mem_range.mp hr⟩
def PicsAt (H : Hp) (l : Addr) (as : List Addr) (ws : TW) : Prop := H l = some (.lst (as.map .ref)) ∧ as.length = ws.length ∧ ∀ (j : Nat) (a : Addr) (p : List Nat × List Nat), as[j]? = some a → ws[j]? = some p → ∃ b c, c ≠ l ∧ H a = some (.tup [.ref b, .ref c]) ∧ H b = some (.tup (p.1.map nv)) ∧ H c = some (.lst (p.2.map nv))
abbrev AllQ : Str := "all_turns.<locals>.<lambda>"
def spAllTurns (C T : Addr) (pos : Pos) : Sp := fun vs H Q E => ∃ (m : Addr) (ts : List (List Nat)) (n most : Nat), vs = [.ref m, nv most] ∧ Mach H m ts n ∧ most ≤ 400 ∧ TabOk AllQ pos H T ∧
  (∀ l as ws H', Keeps H H' → TabOk AllQ pos H' T → PicsAt H' l as ws → Told (stepT ts) ts.length (List.range n) ws → ws.length ≤ most → Q (.ref l) H') ∧
  (∀ (ws : TW) H' dx, Keeps H H' → TabOk AllQ pos H' T → H' dx = some (.xd [("most", nv most)]) → (ws.map (·.1)).Nodup → (∀ p ∈ ws, (∀ l ∈ p.2, l < ts.length) ∧ goes (stepT ts) (List.range n) p.2 = p.1) → most < ws.length → E (.ref C) (some dx) H')
theorem made1 {H : Hp} {T fl cc : Addr} (pos : Pos) (qual : Str) (hT : H T = some (.tbl #[])) (hfl : H fl = none) (hcc : H cc = none) (ne : fl ≠ cc) (lo : HO) : Keeps H (upd (upd (upd H T (.tbl (triple pos cc))) cc (CodeO cc qual)) fl lo) ∧
    (upd (upd (upd H T (.tbl (triple pos cc))) cc (CodeO cc qual)) fl lo) T = some (.tbl (triple pos cc)) ∧ (upd (upd (upd H T (.tbl (triple pos cc))) cc (CodeO cc qual)) fl lo) cc = some (CodeO cc qual) := by
  refine ⟨fun b o hb => ?_, ?_, ?_⟩
  · obtain ⟨z, nt⟩ := of_noT hb
    rw [upd_ne (ne_of_none z hfl), upd_ne (ne_of_none z hcc), upd_ne (ne_of z hT fun e => nt _ e)]
    exact z
  · rw [upd_ne (ne_of_none hT hfl), upd_ne (ne_of_none hT hcc), upd_same]
  · rw [upd_ne (Ne.symm ne), upd_same]
section
variable {P : Program} {w : World} {K : PySem.W.Frag} {mg : Str → Option Value} {base : Heap} {f C : Addr} {fd : FuncData}
theorem lam_all {fl c m cc : Addr} {oc : Obj} {ts : List (List Nat)} {n : Nat} {Hc : Hp} {pm ct : Value} {params : Arguments} {body : Expr} {scope : Scope} {fx a1 a2 a4 : Expr} {kw : List Keyword} {tgs : List Expr} {s0 : Stmt} {rest : List Stmt} {lp cp rp : Pos} (e : defBody sAllTurns = s0 :: .Assign tgs (.Call fx [a1, a2, .Lambda params body scope lp, a4] kw cp) rp :: rest)
    (c_behind : Callee P w K mg base "behind" 1 ["one", "other"] spBehind) (M : Mach Hc m ts n) (h1 : Hc fl = some (LamO fl (lamFd AllQ params body scope "machine" c pm (.ref cc) ct))) (h2 : Hc c = some (CellO c m oc)) (h3 : Hc cc = some (CodeO cc AllQ)) :
    FnOk P w K mg base CX0 5 fl (lamFd AllQ params body scope "machine" c pm (.ref cc) ct) ["turn", "letter"] (spStep (Same Hc) (mapsU n n) ts.length (stepT ts)) ∧ Binds K (lamFd AllQ params body scope "machine" c pm (.ref cc) ct) ["turn", "letter"] [] := by
  cases e
  refine ⟨lam_fn (k := 4) (m := m) (oc := oc) ⟨rfl, rfl, rfl, by decide +kernel, by decide +kernel, rfl, by decide +kernel⟩ (fun vs H Q E h => ?_) (fun vs H Q E h => ?_) (fun A outer s H vs Q E hr h => ?_), .all fun us hl => match us, hl with | [_, _], _ => rfl⟩
  · obtain ⟨t, x, l, rfl, _⟩ := h
    rfl
  · obtain ⟨t, x, l, rfl, g, _⟩ := h
    exact ⟨g _ _ h1, g _ _ h2, g _ _ h3⟩
  · obtain ⟨t, x, l, rfl, g, ht, hx, hl, q⟩ := h
    refine ⟨_, (pe_callD c_behind (hr.mono (by decide)) rfl (pl_at (pl_cons (pv 0) (pl_cons (pe_ix ix_tup (pv 2) (pv 1) (fun _ _ => rfl)) pl_nil rfl) rfl))), ?_⟩
    obtain ⟨x1, x2⟩ := mem_mapsU.mp hx
    have hc := g _ _ h2
    have M1 := (M.same g).drop hc
    have n5 := M.n5
    have ht1 : (L2.drop H c) t = some (.tup (x.map nv)) := by rw [drop_ne (ne_of ht hc fun e => nomatch e)]; exact ht
    obtain ⟨rs, r, b1, b2, b3, b4, b5, b6⟩ := M1.at hl
    refine ⟨_, rfl, _, rfl, _, rfl, m, _, _, _, rfl, rfl, SqT.of b1, b3, t, r, x, ts.getD l [], rfl, ht1, b4, fun y hy => ?_, by omega, fun p H3 g3 e3 free => q p _ (fun y o ho => ?_) ?_⟩
    · rw [b5]
      exact x2 y hy
    · by_cases hy : y = c
      · subst hy
        rw [hc] at ho
        cases ho
        exact upd_same
      · rw [upd_ne hy]
        exact g3 _ _ (by rw [drop_ne hy]; exact ho)
    · rw [upd_ne (ne_of_none e3 free)]
      exact e3
theorem go_all {T p m c : Addr} {H0 : Hp} {ts : List (List Nat)} {n most : Nat} {σ : L2.St} {R : V → Hp → Prop} {R' : XK} {pm : Value} {params : Arguments} {body : Expr} {scope : Scope} {fx a1 a2 a4 : Expr} {kw : List Keyword} {tgs : List Expr} {s0 : Stmt} {rst : List Stmt} {lp cp rp : Pos} (e : defBody sAllTurns = s0 :: .Assign tgs (.Call fx [a1, a2, .Lambda params body scope lp, a4] kw cp) rp :: rst)
    (c_behind : Callee P w K mg base "behind" 1 ["one", "other"] spBehind) (M0 : Mach H0 m ts n) (hp : H0 p = some (.tup ((List.range n).map nv))) (hmost : most ≤ 400) (hT : TabOk AllQ (⟨44, 41, 44, 91⟩ : Pos) H0 T) (hσ : σ[0]? = some (some (.ref m))) (hσ1 : σ[1]? = some (some (nv most)))
    (rest : ∀ D ws as H', Keeps H0 H' → TabOk AllQ (⟨44, 41, 44, 91⟩ : Pos) H' T → WordsAt H' D ws as → (∀ b ∈ D :: as, L2.noT H0 b = none) → Told (stepT ts) ts.length (List.range n) ws → ws.length ≤ most → R (.ref D) H')
    (restE : ∀ (ws : TW) H' dx, Keeps H0 H' → TabOk AllQ (⟨44, 41, 44, 91⟩ : Pos) H' T → H' dx = some (.xd [("most", nv most)]) → (ws.map (·.1)).Nodup → (∀ p ∈ ws, (∀ l ∈ p.2, l < ts.length) ∧ goes (stepT ts) (List.range n) p.2 = p.1) → most < ws.length → R' (.ref C) (some dx) H') :
    tCons (tLam T AllQ params body scope "machine" c pm (⟨44, 41, 44, 91⟩ : Pos)) (tCons (tVar 1) tNil) σ H0 fun xs H2 => ∃ m1, σ[0]? = some (some (.ref m1)) ∧ ∀ oc, H2 c = none → spReachedX P w K mg base C (.ref p :: .int (ts.length : Int) :: xs ++ []) (upd H2 c (CellO c m1 oc)) (fun r H2 => H2 c = some (CellO c m1 oc) ∧ R r (L2.drop H2 c)) (fun v d H2 => H2 c = some (CellO c m1 oc) ∧ R' v d (L2.drop H2 c)) := by
  have n5 := M0.n5
  have go : ∀ (fl cc : Addr) (ct : Value) (H1 : Hp), Keeps H0 H1 → H1 T = some (.tbl (triple (⟨44, 41, 44, 91⟩ : Pos) cc)) → H1 cc = some (CodeO cc AllQ) → H1 fl = some (LamO fl (lamFd AllQ params body scope "machine" c pm (.ref cc) ct)) → 
      ∀ oc, H1 c = none → (FnOk P w K mg base CX0 5 fl (lamFd AllQ params body scope "machine" c pm (.ref cc) ct) ["turn", "letter"] (spStep (Same (upd H1 c (CellO c m oc))) (mapsU n n) ts.length (stepT ts))) → Binds K (lamFd AllQ params body scope "machine" c pm (.ref cc) ct) ["turn", "letter"] [] →
      spReachedX P w K mg base C [.ref p, nv ts.length, .ref fl, nv most] (upd H1 c (CellO c m oc)) (fun r H2 => H2 c = some (CellO c m oc) ∧ R r (L2.drop H2 c)) (fun v d H2 => H2 c = some (CellO c m oc) ∧ R' v d (L2.drop H2 c)) := fun fl cc ct H1 k1 t1 t2 t3 oc hc hF hB => by
    have kc := same_new hc (CellO c m oc)
    have kp : ∀ {H2 : Hp}, Same (upd H1 c (CellO c m oc)) H2 → Keeps H0 (L2.drop H2 c) := fun g2 b o hb => by
      have z := k1 b o hb
      rw [drop_ne (ne_of_none z hc)]
      exact g2 _ _ (kc _ _ z)
    have tb : ∀ {H2 : Hp}, Same (upd H1 c (CellO c m oc)) H2 → TabOk AllQ (⟨44, 41, 44, 91⟩ : Pos) (L2.drop H2 c) T := fun g2 => .inr ⟨cc, by
      rw [drop_ne (ne_of_none t1 hc)]
      exact g2 _ _ (kc _ _ t1), by
      rw [drop_ne (ne_of_none t2 hc)]
      exact g2 _ _ (kc _ _ t2)⟩
    refine ⟨p, fl, _, _, List.range n, ts.length, mapsU n n, stepT ts, most, rfl, kc _ _ (k1 _ _ (noT_at hp fun _ e => nomatch e)), kc _ _ t3, range_mapsU n, M0.steps, mapsU_few n5, ?_, hmost, hF, hB, fun D ws as H2 g2 W nw TT le => ⟨g2 _ _ upd_same, rest D ws as _ (kp g2) (tb g2) ⟨W.len, ?_, fun j a r e1 e2 => ?_⟩ (fun b hb => ?_) TT le⟩, fun ws H2 dx g2 _ hdx kn run lt => ⟨g2 _ _ upd_same, restE ws _ dx (kp g2) (tb g2) (by rw [drop_ne (ne_of hdx (g2 _ _ upd_same) fun e => nomatch e)]; exact hdx) kn run lt⟩⟩
    · have := M0.few
      omega
    · rw [drop_ne (ne_of W.dict (g2 _ _ upd_same) fun e => nomatch e)]
      exact W.dict
    · have z := W.list j a r e1 e2
      rw [drop_ne (ne_of z (g2 _ _ upd_same) fun e => nomatch e)]
      exact z
    · have z := nw b hb
      cases y : L2.noT H0 b with
      | none => rfl
      | some o =>
        have z2 := kc _ _ (k1 _ _ y)
        rw [z] at z2
        cases z2
  rcases hT with hT | ⟨cc, hT, hcc⟩
  · refine .inl ⟨hT, fun fl cc ct hfl hcc ne => ⟨_, hσ1, m, hσ, fun oc hc => ?_⟩⟩
    obtain ⟨k1, hT1, hc1⟩ := made1 (⟨44, 41, 44, 91⟩ : Pos) AllQ hT hfl hcc ne (LamO fl (lamFd AllQ params body scope "machine" c pm (.ref cc) ct))
    have kc := same_new hc (CellO c m oc)
    obtain ⟨F1, F2⟩ := lam_all e c_behind ((M0.keeps k1).same kc) (kc _ _ upd_same) upd_same (kc _ _ hc1)
    exact go fl cc ct _ k1 hT1 hc1 upd_same oc hc F1 F2
  · refine .inr ⟨cc, hT, hcc, fun fl ct hfl => ⟨_, hσ1, m, hσ, fun oc hc => ?_⟩⟩
    have k1 : ∀ lo, Same H0 (upd H0 fl lo) := fun lo => same_new hfl lo
    have kc := same_new hc (CellO c m oc)
    obtain ⟨F1, F2⟩ := lam_all e c_behind ((M0.same (k1 _)).same kc) (kc _ _ upd_same) upd_same (kc _ _ (k1 _ _ _ hcc))
    exact go fl cc ct _ (k1 _).keeps (k1 _ _ _ hT) (k1 _ _ _ hcc) upd_same oc hc F1 F2
theorem ok_all_turns {fdv : Value} {cd T : Addr} (F : DefAt K "all_turns" sAllTurns f fd fdv (.ref cd)) (hC : PySem.W.CodeHd base cd T) (bm : BMain mg base) (c_still : Callee P w K mg base "still" 1 ["rooms"] spStill) (c_behind : Callee P w K mg base "behind" 1 ["one", "other"] spBehind)
    (c_reached : CalleeDX P w K mg base "reached" 8 ["start", "letters", "step", "most"] (spReachedX P w K mg base C) []) (m_len : mg "len" = none) (m_list : mg "list" = none) : FnOk P w K mg base (CX1 P w) 10 f fd ["machine", "most"] (spAllTurns C T (⟨44, 41, 44, 91⟩ : Pos)) := by
  refine F.fnOkX scAllTurns (fun vs H Q E h => ?_) (fun A outer s H vs Q E h hr => ?_)
  · obtain ⟨m, ts, n, most, rfl, _⟩ := h
    rfl
  obtain ⟨m, ts, n, most, rfl, M, hmost, hT, q, qE⟩ := h
  refine ⟨_, ?_, (pss_cons (ps_set (i := 2) scAllTurns.nd rfl (Or.inl rfl) (pe_callD c_still (hr.mono (by decide)) rfl (pa_cons (pe_callB call_len_seq rfl m_len boot_len (pa_cons (pe_ix ix_tup (pv 0) pe_int (fun _ _ => rfl)) pa_nil)) pa_nil))) (pss_cons (ps_set (i := 3) scAllTurns.nd rfl (Or.inl rfl) (pe_callCX c_reached (hr.mono (by decide)) passes_def rfl (j := 0) rfl rfl rfl rfl (pl_at (pl_cons (pv 2) (pl_cons (pe_callB call_len_seq rfl m_len boot_len (pa_cons (pv 0) pa_nil)) (pl_cons (pe_lam (qual := "all_turns.<locals>.<lambda>") rfl hC bm (fun _ _ _ _ _ => rfl) rfl rfl) (pl_cons (pv 1) pl_nil rfl) rfl) rfl) rfl)))) (pss_one (ps_ret (pe_callTy (call_list_items rfl) rfl m_list boot_list (pa_cons (pe_bm0 PySem.F.plainAttrs_dict PySem.F.slot_dict_items PySem.F.type_dict_items mt_items (pv 3)) pa_nil))))))⟩
  have t1 := M.some1
  have n5 := M.n5
  obtain ⟨_, r0, b1, b2, b3, b4, b5, b6⟩ := M.at (l := 0) (by omega)
  refine ⟨_, rfl, m, _, _, _, rfl, rfl, SqT.of b1, b3, r0, _, rfl, .inr (SqT.of b4), ?_⟩
  try dsimp only
  rw [List.length_map, b5]
  refine ⟨n, rfl, by omega, fun st H0 g0 e0 => ?_⟩
  have M0 := M.same g0
  obtain ⟨rs, hm, hrl, _⟩ := M0.refs
  refine ⟨_, rfl, _, rfl, m, _, rfl, .inr (SqT.of hm), ?_⟩
  try dsimp only
  rw [List.length_map, hrl]
  refine go_all (R := fun r H3 => gName 3 r _ H3 _) rfl c_behind M0 e0 hmost (hT.same g0) rfl rfl (fun D ws as H1 k1 T1 W nw TT le => ?_) (fun ws H1 dx k1 T1 hdx kn run lt => qE ws H1 dx (g0.keeps.trans k1) T1 hdx kn run lt)
  refine ⟨_, rfl, .inr (.inr (.inl ⟨rfl, .inr ⟨_, W.dict⟩⟩)), rfl, D, _, rfl, W.dict, fun v hv => ?_⟩
  have kv := same_new hv (ViewO v D)
  refine ⟨v, D, _, rfl, upd_same, kv _ _ W.dict, fun l ps H3 Ls => ?_⟩
  have k3 : Same (upd H1 v (ViewO v D)) H3 := fun b o hb => by
    rw [Ls.rest b (ne_of_none hb Ls.new) fun z => by rw [Ls.news b z] at hb; cases hb]
    exact hb
  have kk : Same H1 H3 := kv.trans k3
  refine q l ps ws H3 ((g0.keeps.trans k1).trans kk.keeps) (T1.same kk) ⟨Ls.lst, by rw [Ls.len, kvs_len W.len], fun j a p e1 e2 => ?_⟩ TT le
  obtain ⟨k, x, b, f1, f2, f3⟩ := Ls.is j a e1
  obtain ⟨hj, _⟩ := List.getElem?_eq_some_iff.mp e2
  obtain ⟨c, ec⟩ : ∃ c, as[j]? = some c := ⟨_, List.getElem?_eq_getElem (by rw [W.len]; exact hj)⟩
  rw [kvs_at e2 ec] at f1
  cases f1
  have hc := kv _ _ (W.list j c p ec e2)
  rw [nk_kV] at f2
  exact ⟨b, c, ne_of_none hc Ls.new, f3, k3 _ _ f2, k3 _ _ hc⟩
end
def kvT (ws : TW) : List (List Key × V) := ws.map fun p => (nk p.1, V.bl true)
theorem kvT_no : ∀ {ws : TW} {x : List Nat}, x ∉ ws.map (·.1) → valV (kvT ws) (nk x) = none
  | [], _, _ => rfl
  | p :: ws, x, h => by
    have h1 : ¬ (nk p.1 : List Key) = nk x := fun z => h (List.mem_map.mpr ⟨p, List.mem_cons_self .., nk_inj z⟩)
    exact (valV_neg (p := (nk p.1, V.bl true)) (r := kvT ws) h1).trans (kvT_no fun z => h (List.mem_cons_of_mem _ z))
theorem kvT_in : ∀ {ws : TW} {x : List Nat}, x ∈ ws.map (·.1) → valV (kvT ws) (nk x) = some (.bl true)
  | [], _, h => nomatch h
  | p :: ws, x, h => by
    by_cases e : p.1 = x
    · rw [← e]
      exact valV_pos (p := (nk p.1, V.bl true)) (r := kvT ws) rfl
    · have h1 : ¬ (nk p.1 : List Key) = nk x := fun z => e (nk_inj z)
      exact (valV_neg (p := (nk p.1, V.bl true)) (r := kvT ws) h1).trans (kvT_in ((List.mem_cons.mp h).resolve_left fun z => e z.symm))
structure WAt (H0 H : Hp) (Dk wa : Addr) (ps : List Addr) (kn ws : TW) : Prop where
  g : Same H0 H
  nK : H0 Dk = none
  nW : H0 wa = none
  known : H Dk = some (.dT (kvT kn))
  lst : H wa = some (.lst (ps.map .ref))
  len : ps.length = ws.length
  each : ∀ (j : Nat) (p : Addr) (r : List Nat × List Nat), ps[j]? = some p → ws[j]? = some r → ∃ t l, H p = some (.tup [.ref t, .ref l]) ∧ H t = some (.tup (r.1.map nv)) ∧ H l = some (.lst (r.2.map nv)) ∧ l ≠ wa
theorem WAt.same {H0 H H' : Hp} {Dk wa : Addr} {ps : List Addr} {kn ws : TW} (h : WAt H0 H Dk wa ps kn ws) (g : Same H H') : WAt H0 H' Dk wa ps kn ws := ⟨h.g.trans g, h.nK, h.nW, g _ _ h.known, g _ _ h.lst, h.len, fun j p r e1 e2 => let ⟨t, l, h1, h2, h3, h4⟩ := h.each j p r e1 e2; ⟨t, l, g _ _ h1, g _ _ h2, g _ _ h3, h4⟩⟩
theorem WAt.put {H0 H : Hp} {Dk wa : Addr} {ps : List Addr} {kn ws : TW} {r : List Nat × List Nat} (h : WAt H0 H Dk wa ps kn ws) : WAt H0 (upd H Dk (.dT (kvT kn ++ [(nk r.1, .bl true)]))) Dk wa ps (kn ++ [r]) ws := by
  have off : ∀ {b : Addr} {u : HO}, (∀ kvs, u ≠ .dT kvs) → H b = some u → (upd H Dk (.dT (kvT kn ++ [(nk r.1, .bl true)]))) b = some u := fun nu hb => by
    rw [upd_ne (ne_of hb h.known fun e => nu _ e)]
    exact hb
  refine ⟨same_upd h.g h.nK, h.nK, h.nW, ?_, off (fun _ e => nomatch e) h.lst, h.len, fun j p r' e1 e2 => ?_⟩
  · rw [upd_same]
    unfold kvT
    rw [List.map_append]
    rfl
  · obtain ⟨t', l', h1, h2, h3, h4⟩ := h.each j p r' e1 e2
    exact ⟨t', l', off (fun _ e => nomatch e) h1, off (fun _ e => nomatch e) h2, off (fun _ e => nomatch e) h3, h4⟩
theorem WAt.app {H0 H : Hp} {Dk wa q t l : Addr} {ps : List Addr} {kn ws : TW} {r : List Nat × List Nat} (h : WAt H0 H Dk wa ps kn ws) (hq : H q = some (.tup [.ref t, .ref l])) (ht : H t = some (.tup (r.1.map nv))) (hl : H l = some (.lst (r.2.map nv))) (lw : l ≠ wa) : WAt H0 (upd H wa (.lst (ps.map .ref ++ [.ref q]))) Dk wa (ps ++ [q]) kn (ws ++ [r]) := by
  have wD : Dk ≠ wa := (ne_of h.lst h.known fun e => nomatch e).symm
  have offT : ∀ {b : Addr} {vs : List V}, H b = some (.tup vs) → (upd H wa (.lst (ps.map .ref ++ [.ref q]))) b = some (.tup vs) := fun hb => by
    rw [upd_ne (ne_of hb h.lst fun e => nomatch e)]
    exact hb
  have offL : ∀ {b : Addr} {vs : List V}, b ≠ wa → H b = some (.lst vs) → (upd H wa (.lst (ps.map .ref ++ [.ref q]))) b = some (.lst vs) := fun nb hb => by
    rw [upd_ne nb]
    exact hb
  refine ⟨same_upd h.g h.nW, h.nK, h.nW, by rw [upd_ne wD]; exact h.known, ?_, by simp [h.len], fun j p r' e1 e2 => ?_⟩
  · rw [upd_same, List.map_append]
    rfl
  · by_cases hj : j < ps.length
    · rw [List.getElem?_append_left hj] at e1
      rw [List.getElem?_append_left (by rw [← h.len]; exact hj)] at e2
      obtain ⟨t', l', h1, h2, h3, h4⟩ := h.each j p r' e1 e2
      exact ⟨t', l', offT h1, offT h2, offL h4 h3, h4⟩
    · rw [List.getElem?_append_right (by omega)] at e1
      rw [List.getElem?_append_right (by rw [← h.len]; omega)] at e2
      have z : j - ps.length = 0 := by
        have := (List.getElem?_eq_some_iff.mp e1).1
        simp at this
        omega
      rw [z] at e1
      rw [← h.len, z] at e2
      cases e1
      cases e2
      exact ⟨t, l, offT hq, offT ht, offL lw hl, lw⟩
termination_by (U.length - ws.length, ws.length - i, L - j)
decreasing_by
  all_goals simp_wf
  · exact Prod.Lex.right _ (Prod.Lex.left _ _ (by omega))
  · exact Prod.Lex.right _ (Prod.Lex.right _ (by omega))
  · exact Prod.Lex.left _ _ (by omega)
def spAll : Sp := fun vs H Q _ => ∃ (m : Addr) (ts : List (List Nat)) (n most : Nat), vs = [.ref m, nv most] ∧ Mach H m ts n ∧ most ≤ 400 ∧
  ∀ l ps ws H', Same H H' → PicsAt H' l ps ws → (ws.map (·.1)).Nodup → (∀ p ∈ ws, (∀ x ∈ p.2, x < ts.length) ∧ goes (stepT ts) (List.range n) p.2 = p.1) → (ws.length ≤ most → Told (stepT ts) ts.length (List.range n) ws) → Q (.ref l) H'
section
variable {P : Program} {w : World} {K : PySem.W.Frag} {mg : Str → Option Value} {base : Heap} {f : Addr} {fd : FuncData}
theorem ok_lbehind (F : Fun K "_law_behind" "_law_behind" sLawBehind f fd) (m_tuple : mg "tuple" = none) : FnOk P w K mg base CX0 1 f fd ["_law_one", "_law_other"] spBehind := by
  refine F.ok scLawBehind (fun vs H Q E h => ?_) (fun cdv A outer s H vs Q E hr h => ?_)
  · obtain ⟨a, b, xs, ys, rfl, _⟩ := h
    rfl
  obtain ⟨a, b, xs, ys, rfl, ha, hb, hlt, hz, q⟩ := h
  refine ⟨_, (pss_one (ps_ret (pe_callTy call_tuple_of rfl m_tuple boot_tuple (pa_cons (pe_comp1 (CompSc.to (N := ["_law_one", "_law_other"]) (osc := defScope sLawBehind) (vs := ["_law_room"]) ⟨rfl, by decide +kernel, by decide +kernel, by decide +kernel, by decide +kernel, by decide +kernel, by decide +kernel⟩) rfl rfl (pi_tup (pv 0)) (fun _ _ _ _ => pts_nil) (fun _ _ _ _ => (pe_ix (IxR.k (K := K) rIxT ix_tup rfl) (pv 2) (pv 0) (fun _ _ => rfl)))) pa_nil)))), ?_⟩
  have e : (xs.map nv).map (fun v => match v with | .int i => nv (ys.getD i.toNat 0) | v => v) = (beh xs ys).map nv := by
    unfold beh
    rw [List.map_map, List.map_map]
    rfl
  refine ⟨_, rfl, a, rfl, ⟨_, SqT.of ha⟩, map_tup (f := fun v => match v with | .int i => nv (ys.getD i.toNat 0) | v => v) (by rw [List.length_map]; exact small hz) (SqT.of ha) (fun v Q hv q => ?_) (fun p hp => ?_)⟩
  · obtain ⟨x, hx, rfl⟩ := List.mem_map.mp hv
    exact ⟨_, rfl, _, rfl, b, _, _, _, rfl, rfl, SqT.of hb, at_nv (hlt x hx), q⟩
  · rw [e]
    exact ⟨p, _, rfl, .inl ⟨SqL.of upd_same, fun t ht => q t _ ((same_new hp _).trans (same_new ht _)) upd_same⟩⟩
theorem ok_all (F : Fun K "_law_all" "_law_all" sLawAll f fd) (c__law_behind : Callee P w K mg base "_law_behind" 1 ["_law_one", "_law_other"] spBehind) (m_tuple : mg "tuple" = none) (m_range : mg "range" = none) (m_len : mg "len" = none) : FnOk P w K mg base CX0 3 f fd ["_law_machine_here", "_law_most"] spAll := by
  refine F.ok scLawAll (fun vs H Q E h => ?_) (fun cdv A outer s H vs Q E hr h => ?_)
  · obtain ⟨m, ts, n, most, rfl, _⟩ := h
    rfl
  obtain ⟨m, ts, n, most, rfl, M, hmost, q⟩ := h
  have hu1 := hu_of hr
  refine ⟨_, (pss_cons (ps_set (i := 2) scLawAll.nd rfl (Or.inl rfl) (pe_lst (pa_cons (pe_tup (pl_at (pl_cons (pe_callTy (call_tup_rng rfl) rfl m_tuple boot_tuple (pa_cons (pe_callTy call_rangeV rfl m_range boot_range (pa_cons (pe_callB call_len_seq rfl m_len boot_len (pa_cons (pe_ix ix_tup (pv 0) pe_int (fun _ _ => rfl)) pa_nil)) pa_nil)) pa_nil)) (pl_cons (pe_lst pa_nil) pl_nil rfl) rfl))) pa_nil))) (pss_cons (ps_set (i := 3) scLawAll.nd rfl (Or.inl rfl) (pe_disp1 hu1 (pe_ix ix_tup (pe_ix ix_list (pv 2) pe_int (fun _ _ => rfl)) pe_int (fun _ _ => rfl)) pe_bl)) (pss_cons (ps_set (i := 4) scLawAll.nd rfl (Or.inl rfl) pe_int) (pss_cons (ps_while PassesOwn.never (PW.pt (pw_and (pt_cmpR op_lt (pv 4) (pe_callB call_len_seq rfl m_len boot_len (pa_cons (pv 2) pa_nil)) (nomark _)) (pw_and1 (pt_cmpR op_le (pe_callB call_len_seq rfl m_len boot_len (pa_cons (pv 2) pa_nil)) (pv 1) (nomark _))))) (pss_cons (ps_asg (pe_ix ix_list (pv 2) (pv 4) (fun _ _ => rfl)) (pg_tup rfl (pgs_cons (pg_name (i := 5) scLawAll.nd rfl (Or.inl rfl)) (pgs_cons (pg_name (i := 6) scLawAll.nd rfl (Or.inl rfl)) pgs_nil)))) (pss_cons (ps_for PassesOwn.never rfl (pi_range1 rfl m_range (pa_cons (pe_callB call_len_seq rfl m_len boot_len (pa_cons (pv 0) pa_nil)) pa_nil)) (pg_name (i := 7) scLawAll.nd rfl (Or.inl rfl)) (pss_cons (ps_set (i := 8) scLawAll.nd rfl (Or.inl rfl) (pe_callD c__law_behind (hr.mono (by decide)) rfl (pl_at (pl_cons (pv 5) (pl_cons (pe_ix ix_tup (pv 0) (pv 7) (fun _ _ => rfl)) pl_nil rfl) rfl)))) (pss_one (ps_if (pt_cmp (pc_dnotin hu1 (pv 8) (pv 3))) (pss_cons (ps_dput hu1 (pv 3) (pv 8) pe_bl rfl) (pss_one (ps_expr (pe_bm PySem.F.plainAttrs_list PySem.F.slot_list_append PySem.F.type_list_append mt_append (pv 2) (pa_cons (pe_tup (pl_at (pl_cons (pv 8) (pl_cons (pe_op op_catS (pv 6) (pe_lst (pa_cons (pv 7) pa_nil))) pl_nil rfl) rfl))) pa_nil))))) pss_nil)))) (pss_one (ps_set (i := 4) scLawAll.nd rfl (Or.inl rfl) (pe_op op_add (pv 4) pe_int)))))) (pss_one (ps_ret (pv 2))))))), ?_⟩
  have t1 := M.some1
  have n5 := M.n5
  have t4 := M.few
  obtain ⟨_, r0, b1, b2, b3, b4, b5, b6⟩ := M.at (l := 0) (by omega)
  refine ⟨_, rfl, m, _, _, _, rfl, rfl, SqT.of b1, b3, r0, _, rfl, .inr (SqT.of b4), ?_⟩
  try dsimp only
  rw [List.length_map, b5]
  refine ⟨(n : Int), rfl, fun p hp => ⟨p, (n : Int), rfl, upd_same, by omega, by omega, fun t1 nt1 => ?_⟩⟩
  have k2 := (same_new hp (.rng 0 (n : Int))).trans (same_new nt1 (.tup (rangeV (n : Int).toNat)))
  have et1 : upd (upd H p (.rng 0 (n : Int))) t1 (.tup (rangeV (n : Int).toNat)) t1 = some (.tup ((List.range n).map nv)) := upd_same
  generalize upd (upd H p (.rng 0 (n : Int))) t1 (.tup (rangeV (n : Int).toNat)) = H2 at k2 et1 ⊢
  refine ⟨by show 0 ≤ sizeLine; decide, fun l1 nl1 => ?_⟩
  have k3 := same_new nl1 (.lst [])
  have el1 : upd H2 l1 (.lst []) l1 = some (.lst (([] : List Nat).map nv)) := upd_same
  have et3 := k3 _ _ et1
  have g3 := k2.trans k3
  generalize upd H2 l1 (.lst []) = H3 at k3 el1 et3 g3 ⊢
  refine ⟨by show 2 ≤ sizeLine; decide, fun q1 nq1 => ?_⟩
  have k4 := same_new nq1 (.tup [.ref t1, .ref l1])
  have eq1 : upd H3 q1 (.tup [.ref t1, .ref l1]) q1 = some (.tup [.ref t1, .ref l1]) := upd_same
  have et4 := k4 _ _ et3
  have el4 := k4 _ _ el1
  have g4 := g3.trans k4
  generalize upd H3 q1 (.tup [.ref t1, .ref l1]) = H4 at k4 eq1 et4 el4 g4 ⊢
  refine ⟨by show 1 ≤ sizeLine; decide, fun wa nwa => ?_⟩
  have k5 := same_new nwa (.lst [.ref q1])
  have lw : l1 ≠ wa := ne_of_none el4 nwa
  have nW : H wa = none := g4.free nwa
  have ewa : upd H4 wa (.lst [.ref q1]) wa = some (.lst ([q1].map .ref)) := upd_same
  have eq5 := k5 _ _ eq1
  have et5 := k5 _ _ et4
  have el5 := k5 _ _ el4
  have g5 := g4.trans k5
  generalize upd H4 wa (.lst [.ref q1]) = H5 at ewa eq5 et5 el5 g5 ⊢
  intro Dk hDk
  have kD := same_new hDk (.dT [])
  refine ⟨_, rfl, wa, _, _, _, rfl, rfl, SqL.of (kD _ _ ewa), rfl, q1, _, _, _, rfl, rfl, SqT.of (kD _ _ eq5), rfl, ?_⟩
  refine ⟨upd_same, t1, nk (List.range n), rfl, by rw [nk_kV]; exact kD _ _ et5, ?_⟩
  have g6 : Same H (upd (upd H5 Dk (.dT [])) Dk (.dT [(nk (List.range n), .bl true)])) := by rw [upd_upd]; exact g5.trans (same_new hDk _)
  have k6 : Same H5 (upd (upd H5 Dk (.dT [])) Dk (.dT [(nk (List.range n), .bl true)])) := by rw [upd_upd]; exact same_new hDk _
  have A0 : WAt H (upd (upd H5 Dk (.dT [])) Dk (.dT [(nk (List.range n), .bl true)])) Dk wa [q1] [(List.range n, [])] [(List.range n, [])] := ⟨g6, g5.free hDk, nW, upd_same, k6 _ _ ewa, rfl, fun j p r e1 e2 => by
    cases j with
    | zero =>
      cases e1
      cases e2
      exact ⟨t1, l1, k6 _ _ eq5, k6 _ _ et5, k6 _ _ el5, lw⟩
    | succ j => simp at e1⟩
  generalize upd (upd H5 Dk (.dT [])) Dk (.dT [(nk (List.range n), .bl true)]) = H6 at A0 ⊢
  have hU := M.steps
  have h0 := range_mapsU n
  have inU : ∀ {ws : TW} {i j : Nat}, Que (stepT ts) ts.length (List.range n) ws i j → ∀ r ∈ ws, r.1 ∈ mapsU n n := fun B r hr => by
    obtain ⟨r1, r2⟩ := B.run r hr
    rw [← r2]
    exact goes_in h0 hU r.2 r1
  have few : ∀ {ws : TW} {i j : Nat}, Que (stepT ts) ts.length (List.range n) ws i j → ws.length ≤ 4000 := fun {ws i j} B => by
    rw [← List.length_map (f := (·.1)) (as := ws)]
    refine Nat.le_trans (few_of B.keys (U := mapsU n n) fun x hx => ?_) (mapsU_few n5)
    obtain ⟨r, hr, rfl⟩ := List.mem_map.mp hx
    exact inU B r hr
  have done : ∀ {ws : TW} {i : Nat} {ps : List Addr} {H' : Hp}, Que (stepT ts) ts.length (List.range n) ws i 0 → WAt H H' Dk wa ps ws ws → (ws.length ≤ most → i = ws.length) → Q (.ref wa) H' := fun {ws i ps H'} B W hi =>
    q wa ps ws H' W.g ⟨W.lst, W.len, fun j a p e1 e2 => let ⟨t, l, h1, h2, h3, h4⟩ := W.each j a p e1 e2; ⟨t, l, h4, h1, h2, h3⟩⟩ B.keys B.run fun le => B.told (by have := hi le; omega)
  let Wv : Nat → L2.St → Hp → Prop := fun k σ H' => ∃ (i : Nat) (ws : TW) (ps : List Addr) (o5 o6 o7 o8 : Option V), Que (stepT ts) ts.length (List.range n) ws i 0 ∧ WAt H H' Dk wa ps ws ws ∧ k + i = 4001 ∧ i ≤ ws.length ∧ σ = [some (.ref m), some (nv most), some (.ref wa), some (.ref Dk), some (nv i), o5, o6, o7, o8]
  refine ⟨Wv, ⟨4001, 0, _, _, none, none, none, none, Que.start, A0, rfl, Nat.zero_le _, rfl⟩, fun k σ H6 P => ?_⟩
  obtain ⟨i, ws, ps, o5, o6, o7, o8, B, W, hk, hi, rfl⟩ := P
  have lps := W.len
  refine ⟨_, rfl, _, rfl, wa, _, rfl, .inl (SqL.of W.lst), _, _, rfl, rfl, _, rfl, ite2 (fun c => ?_) (fun c => ?_)⟩
  · have c1 : i < ws.length := by
      have := of_decide_eq_true c
      rw [List.length_map, lps] at this
      omega
    refine ⟨_, rfl, wa, _, rfl, .inl (SqL.of W.lst), _, rfl, _, _, rfl, rfl, _, rfl, ite2 (fun c' => ?_) (fun c' => ?_)⟩
    · refine ⟨fun σ' H' => ∃ m', m' < k ∧ Wv m' σ' H', fun σ' H' h => h, ?_⟩
      obtain ⟨r, er⟩ : ∃ r, ws[i]? = some r := ⟨_, List.getElem?_eq_getElem c1⟩
      obtain ⟨pi, epi⟩ : ∃ pi, ps[i]? = some pi := ⟨_, List.getElem?_eq_getElem (by omega)⟩
      obtain ⟨y, l, hp, hy, hl, lwa⟩ := W.each i pi r epi er
      obtain ⟨x1, x2⟩ := mem_mapsU.mp (inU B r (List.mem_of_getElem? er))
      have hat : atI (ps.map V.ref) (i : Int) = some (.ref pi) := atI_nat (by rw [List.getElem?_map, epi]; rfl)
      refine ⟨_, rfl, _, rfl, wa, _, _, _, rfl, rfl, SqL.of W.lst, hat, pi, _, rfl, SqT.of hp, rfl, _, _, rfl, _, _, rfl, rfl, ?_⟩
      have shr := B.short i r er
      have f36 := few B
      let Pj : Nat → L2.St → Hp → Prop := fun j σ H' => ∃ (ws : TW) (ps : List Addr) (o7 o8 : Option V), Que (stepT ts) ts.length (List.range n) ws i j ∧ ws[i]? = some r ∧ WAt H H' Dk wa ps ws ws ∧ H' y = some (.tup (r.1.map nv)) ∧ H' l = some (.lst (r.2.map nv)) ∧ σ = [some (.ref m), some (nv most), some (.ref wa), some (.ref Dk), some (nv i), some (.ref y), some (.ref l), o7, o8]
      obtain ⟨rs, hm, hrl, _⟩ := (M.same W.g).refs
      refine ⟨_, rfl, m, _, rfl, .inr (SqT.of hm), (ts.length : Int), by rw [List.length_map, hrl], by omega, by omega, for_range Pj ⟨ws, ps, _, _, B, er, W, hy, hl, rfl⟩ (fun j σ H7 hj p => ?_) (fun σ H7 p => ?_)⟩
      · obtain ⟨ws, ps, o7, o8, B, er, W, hy, hl, rfl⟩ := p
        have hj' : j < ts.length := by simpa using hj
        have zj : V.int ((0 : Int) + ((j : Nat) : Int)) = nv j := by show V.int (0 + (j : Int)) = V.int (j : Int); rw [Int.zero_add]
        rw [zj]
        have li := (List.getElem?_eq_some_iff.mp er).1
        obtain ⟨rs, rr, b1, b2, b3, b4, b5, b6⟩ := (M.same W.g).at hj'
        have f36 := few B
        refine ⟨_, rfl, _, rfl, _, rfl, m, _, _, _, rfl, rfl, SqT.of b1, b3, y, rr, r.1, ts.getD j [], rfl, hy, b4, fun x hx => by rw [b5]; exact x2 x hx, by omega, fun th H8 k8 eth => ?_⟩
        have W8 := W.same k8
        have hy8 := k8 _ _ hy
        have hl8 := k8 _ _ hl
        have eth : H8 th = some (.tup ((stepT ts r.1 j).map nv)) := eth
        refine ⟨_, rfl, _, rfl, Dk, _, rfl, DGet.t W8.known (by rw [nk_kV]; exact eth), _, rfl, ?_⟩
        by_cases hin : stepT ts r.1 j ∈ ws.map (·.1)
        · rw [kvT_in hin]
          exact iteF ⟨ws, ps, _, _, B.old er hin, er, W8, hy8, hl8, rfl⟩
        · rw [kvT_no hin]
          refine iteT ⟨_, rfl, _, rfl, Dk, _, rfl, DPut.t W8.known (by rw [nk_kV]; exact eth) (by rw [show (kvT ws).length = ws.length by unfold kvT; rw [List.length_map], sizeLine_eq]; omega), ?_⟩
          rw [putK_new _ (kvT_no hin)]
          have W9 := W8.put (r := (stepT ts r.1 j, r.2 ++ [j]))
          have offD : ∀ {b : Addr} {u : HO}, (∀ kvs, u ≠ .dT kvs) → H8 b = some u → (upd H8 Dk (.dT (kvT ws ++ [(nk (stepT ts r.1 j), .bl true)]))) b = some u := fun nu hb => by
            rw [upd_ne (ne_of hb W8.known fun e => nu _ e)]
            exact hb
          have eth9 := offD (u := HO.tup _) (fun _ e => nomatch e) eth
          have hy9 := offD (u := HO.tup _) (fun _ e => nomatch e) hy8
          have hl9 := offD (u := HO.lst _) (fun _ e => nomatch e) hl8
          generalize upd H8 Dk (.dT (kvT ws ++ [(nk (stepT ts r.1 j), .bl true)])) = H9 at W9 eth9 hy9 hl9 ⊢
          refine ⟨_, rfl, .inl ⟨rfl, _, SqL.of W9.lst⟩, _, rfl, _, rfl, _, rfl, by show 1 ≤ sizeLine; decide, fun p1 np1 => ?_⟩
          have ka := same_new np1 (.lst [nv j])
          refine ⟨l, p1, _, _, rfl, rfl, SqL.of (ka _ _ hl9), SqL.of upd_same, by rw [List.length_map, sizeLine_eq]; show r.2.length + 1 ≤ _; omega, fun l2 nl2 => ?_⟩
          have kb := ka.trans (same_new nl2 (.lst (r.2.map nv ++ [nv j])))
          have el2 : upd (upd H9 p1 (.lst [nv j])) l2 (.lst (r.2.map nv ++ [nv j])) l2 = some (.lst ((r.2 ++ [j]).map nv)) := by rw [upd_same, List.map_append]; rfl
          have l2wa : l2 ≠ wa := (ne_of_none (ka _ _ W9.lst) nl2).symm
          generalize upd (upd H9 p1 (.lst [nv j])) l2 (.lst (r.2.map nv ++ [nv j])) = H10 at kb el2 ⊢
          refine ⟨by show 2 ≤ sizeLine; decide, fun q2 nq2 => ?_⟩
          have kc := same_new nq2 (.tup [.ref th, .ref l2])
          have eq2 : upd H10 q2 (.tup [.ref th, .ref l2]) q2 = some (.tup [.ref th, .ref l2]) := upd_same
          have kd := kb.trans kc
          have el11 := kc _ _ el2
          generalize upd H10 q2 (.tup [.ref th, .ref l2]) = H11 at kc eq2 kd el11 ⊢
          have W11 := W9.same kd
          have lps11 := W11.len
          refine ⟨wa, _, _, rfl, rfl, W11.lst, by rw [List.length_map, sizeLine_eq]; omega, ?_⟩
          have W12 := W11.app (r := (stepT ts r.1 j, r.2 ++ [j])) eq2 (kd _ _ eth9) el11 l2wa
          have hy11 := kd _ _ hy9
          have hl11 := kd _ _ hl9
          refine ⟨ws ++ [(stepT ts r.1 j, r.2 ++ [j])], ps ++ [q2], _, _, B.new er hj' hin, by rw [List.getElem?_append_left li]; exact er, W12, ?_, ?_, rfl⟩
          · rw [upd_ne (ne_of hy11 W11.lst fun e => nomatch e)]
            exact hy11
          · rw [upd_ne lwa]
            exact hl11
      · obtain ⟨ws, ps, o7, o8, B, er, W, hy, hl, rfl⟩ := p
        have f36 := few B
        have li := (List.getElem?_eq_some_iff.mp er).1
        exact ⟨_, rfl, _, _, rfl, rfl, k - 1, by omega, i + 1, ws, ps, _, _, _, _, Que.next (by simpa using B) er, W, by omega, by omega, rfl⟩
    · refine ⟨_, rfl, done B W fun le => absurd (decide_eq_true ?_) c'⟩
      rw [List.length_map, lps]
      omega
  · have c1 : ¬ i < ws.length := fun z => c (by rw [List.length_map, lps]; exact decide_eq_true (by omega))
    exact iteF ⟨_, rfl, done B W fun _ => by omega⟩
end
theorem nodup_at {α : Type} {us : List α} (nd : us.Nodup) {i j : Nat} {x : α} (h1 : us[i]? = some x) (h2 : us[j]? = some x) : i = j := by
  obtain ⟨hi, e1⟩ := List.getElem?_eq_some_iff.mp h1
  obtain ⟨hj, e2⟩ := List.getElem?_eq_some_iff.mp h2
  rcases Nat.lt_trichotomy i j with h | h | h
  · exact absurd (e1.trans e2.symm) (List.pairwise_iff_getElem.mp nd i j hi hj h)
  · exact h
  · exact absurd (e2.trans e1.symm) (List.pairwise_iff_getElem.mp nd j i hj hi h)
theorem tn_of {n : Nat} {u : List Nat} (h : u ∈ mapsU n n) : Cyc.Tn n u := mem_mapsU.mp h
theorem goes_beh {ts : List (List Nat)} {n : Nat} (each : ∀ t ∈ ts, t.length = n ∧ ∀ x ∈ t, x < n) : ∀ (w : List Nat) (x : List Nat), (∀ l ∈ w, l < ts.length) → Cyc.Tn n x → goes (stepT ts) x w = Cyc.beh x (goes (stepT ts) (List.range n) w) ∧ Cyc.Tn n (goes (stepT ts) x w)
  | [], x, _, hx => by
    refine ⟨?_, hx⟩
    show x = Cyc.beh x (List.range n)
    unfold Cyc.beh
    have : x.map (fun a => (List.range n).getD a 0) = x.map id := List.map_congr_left fun a ha => by
      have hl := hx.2 a ha
      rw [List.getD_eq_getElem?_getD, List.getElem?_range hl]
      rfl
    rw [this, List.map_id]
  | l :: w, x, hw, hx => by
    have hl := hw l (List.mem_cons_self ..)
    have ht : Cyc.Tn n (ts.getD l []) := by
      rw [List.getD_eq_getElem?_getD, List.getElem?_eq_getElem hl]
      exact each _ (List.getElem_mem hl)
    have hw' : ∀ a ∈ w, a < ts.length := fun a ha => hw a (List.mem_cons_of_mem _ ha)
    have s1 : Cyc.Tn n (stepT ts x l) := Cyc.beh_tn hx ht
    have s2 : Cyc.Tn n (stepT ts (List.range n) l) := Cyc.beh_tn (Cyc.range_tn n) ht
    obtain ⟨e1, t1⟩ := goes_beh each w (stepT ts x l) hw' s1
    obtain ⟨e2, _⟩ := goes_beh each w (stepT ts (List.range n) l) hw' s2
    have t0 := (goes_beh each w (List.range n) hw' (Cyc.range_tn n)).2
    refine ⟨?_, t1⟩
    show goes (stepT ts) (stepT ts x l) w = Cyc.beh x (goes (stepT ts) (stepT ts (List.range n) l) w)
    rw [e1, e2]
    show Cyc.beh (Cyc.beh x (ts.getD l [])) _ = Cyc.beh x (Cyc.beh (Cyc.beh (List.range n) (ts.getD l [])) _)
    rw [Cyc.beh_range ht.1, Cyc.assoc hx ht]
theorem told_beh {ts : List (List Nat)} {n : Nat} {ws : TW} (each : ∀ t ∈ ts, t.length = n ∧ ∀ x ∈ t, x < n) (T : Told (stepT ts) ts.length (List.range n) ws) {u v : List Nat} (hu : u ∈ ws.map (·.1)) (hv : v ∈ ws.map (·.1)) : Cyc.beh u v ∈ ws.map (·.1) := by
  obtain ⟨p, hp, rfl⟩ := List.mem_map.mp hu
  obtain ⟨q, hq, rfl⟩ := List.mem_map.mp hv
  obtain ⟨p1, p2⟩ := T.run p hp
  obtain ⟨q1, q2⟩ := T.run q hq
  have tp := (goes_beh each p.2 (List.range n) p1 (Cyc.range_tn n)).2
  rw [p2] at tp
  have e := (goes_beh each q.2 p.1 q1 tp).1
  rw [q2] at e
  have e2 : goes (stepT ts) (List.range n) (p.2 ++ q.2) = goes (stepT ts) p.1 q.2 := by
    rw [← p2]
    unfold goes
    rw [List.foldl_append]
  obtain ⟨w, h1, _⟩ := T.least _ (p.2 ++ q.2) rfl fun l hl => by
    rcases List.mem_append.mp hl with z | z
    · exact p1 l z
    · exact q1 l z
  rw [e2, e] at h1
  exact List.mem_map.mpr ⟨_, h1, rfl⟩
theorem told_pw {ts : List (List Nat)} {n : Nat} {ws : TW} (each : ∀ t ∈ ts, t.length = n ∧ ∀ x ∈ t, x < n) (T : Told (stepT ts) ts.length (List.range n) ws) {u : List Nat} (hu : u ∈ ws.map (·.1)) : ∀ k, 1 ≤ k → Cyc.pw u k ∈ ws.map (·.1)
  | 0, h => absurd h (by omega)
  | k + 1, _ => by
    by_cases hk : k = 0
    · subst hk
      rw [Cyc.pw_one]
      exact hu
    · exact told_beh each T (told_pw each T hu k (by omega)) hu
def dbls (us : List (List Nat)) : List (List Nat) := us.filter fun u => decide (Cyc.Idem u)
noncomputable def gw (us es : List (List Nat)) (i : Nat) : TW := es.map fun e => (e, Cyc.gp us e i)
theorem gw_len {us es : List (List Nat)} {i : Nat} : (gw us es i).length = es.length := by simp [gw]
theorem gw_keys {us es : List (List Nat)} {i : Nat} : (gw us es i).map (·.1) = es := by
  unfold gw
  rw [List.map_map]
  have : es.map ((fun x => x.1) ∘ fun e => (e, Cyc.gp us e i)) = es.map id := List.map_congr_left fun _ _ => rfl
  rw [this, List.map_id]
theorem kvs_keys {ws ws' : TW} {as : List Addr} (h : ws.map (·.1) = ws'.map (·.1)) : kvsOf ws as = kvsOf ws' as := by
  have z : ∀ ws : TW, kvsOf ws as = List.zipWith (fun k a => (nk k, V.ref a)) (ws.map (·.1)) as := fun ws => by
    unfold L2.kvsOf
    rw [List.zipWith_map_left]
  rw [z, z, h]
theorem kvs_vals : ∀ {ws : TW} {as : List Addr}, as.length = ws.length → (kvsOf ws as).map (·.2) = as.map V.ref
  | [], [], _ => rfl
  | p :: ws, a :: as, h => by
    show V.ref a :: (kvsOf ws as).map (·.2) = V.ref a :: as.map V.ref
    rw [kvs_vals (by simpa using h)]
  | [], _ :: _, h => by cases h
  | _ :: _, [], h => by cases h
theorem words_turn {H : Hp} {D a : Addr} {ws ws' : TW} {as : List Addr} {j : Nat} {xs : List V} (W : WordsAt H D ws as) (nd : as.Nodup) (ea : as[j]? = some a) (hk : ws'.map (·.1) = ws.map (·.1)) (hj : ∀ p, ws'[j]? = some p → xs = p.2.map nv) (ho : ∀ i, i ≠ j → ws'[i]? = ws[i]?) : WordsAt (upd H a (.lst xs)) D ws' as := by
  have ln : ws'.length = ws.length := by have := congrArg List.length hk; rwa [List.length_map, List.length_map] at this
  obtain ⟨hl, e0⟩ := List.getElem?_eq_some_iff.mp ea
  obtain ⟨p0, ep0⟩ : ∃ p, ws[j]? = some p := ⟨_, List.getElem?_eq_getElem (by rw [← W.len]; exact hl)⟩
  have ha := W.list j a p0 ea ep0
  refine ⟨by rw [W.len, ln], by rw [upd_ne (ne_of W.dict ha fun e => nomatch e), W.dict, kvs_keys hk], fun i b p e1 e2 => ?_⟩
  by_cases hi : i = j
  · subst hi
    rw [ea] at e1
    cases e1
    rw [upd_same, hj p e2]
  · have nb : b ≠ a := fun z => by
      subst z
      exact hi ((List.getElem?_inj (List.getElem?_eq_some_iff.mp e1).1 nd).mp (e1.trans ea.symm))
    rw [upd_ne nb]
    rw [ho i hi] at e2
    exact W.list i b p e1 e2
def GroupsAt (H : Hp) (l : Addr) (ls : List Addr) (us : List (List Nat)) : Prop := H l = some (.lst (ls.map .ref)) ∧ ls.length = (dbls us).length ∧ ∀ (j : Nat) a e, ls[j]? = some a → (dbls us)[j]? = some e → H a = some (.lst ((Cyc.gp us e us.length).map nv))
def spDouble : Sp := fun vs H Q _ => ∃ (a : Addr) (u : List Nat), vs = [.ref a] ∧ H a = some (.tup (u.map nv)) ∧ Cyc.Turn u ∧ u.length ≤ 1000 ∧ ∀ v H', Same H H' → (v = true ↔ Cyc.Idem u) → Q (.bl v) H'
def spBears : Sp := fun vs H Q _ => ∃ (a : Addr) (u : List Nat), vs = [.ref a] ∧ H a = some (.tup (u.map nv)) ∧ Cyc.Turn u ∧ u.length ≤ 10 ∧ ∀ v H', Same H H' → (v = true ↔ Cyc.Again u) → Q (.bl v) H'
def spPower : Sp := fun vs H Q _ => ∃ (a : Addr) (u : List Nat), vs = [.ref a] ∧ H a = some (.tup (u.map nv)) ∧ Cyc.Turn u ∧ u.length ≤ 10 ∧ ∀ r k H', Same H H' → 1 ≤ k → Cyc.Idem (Cyc.pw u k) → H' r = some (.tup ((Cyc.pw u k).map nv)) → Q (.ref r) H'
def spGroups (C T : Addr) (pos : Pos) : Sp := fun vs H Q E => ∃ (m : Addr) (ts : List (List Nat)) (n most : Nat), vs = [.ref m, nv most] ∧ Mach H m ts n ∧ most ≤ 400 ∧ TabOk AllQ pos H T ∧
  (∀ l ls ws H', Keeps H H' → TabOk AllQ pos H' T → L2.noT H l = none → (∀ a ∈ ls, L2.noT H a = none) → l ∉ ls → GroupsAt H' l ls (ws.map (·.1)) → Told (stepT ts) ts.length (List.range n) ws → ws.length ≤ most → Q (.ref l) H') ∧
  (∀ (ws : TW) H' dx, Keeps H H' → TabOk AllQ pos H' T → H' dx = some (.xd [("most", nv most)]) → (ws.map (·.1)).Nodup → (∀ p ∈ ws, (∀ l ∈ p.2, l < ts.length) ∧ goes (stepT ts) (List.range n) p.2 = p.1) → most < ws.length → E (.ref C) (some dx) H')
theorem tn_turn5 {n : Nat} {u : List Nat} (h : Cyc.Tn n u) (n5 : n ≤ 5) : Cyc.Turn u ∧ u.length ≤ 5 := ⟨h.turn, by rw [h.1]; exact n5⟩
section
variable {P : Program} {w : World} {K : PySem.W.Frag} {mg : Str → Option Value} {base : Heap} {f C : Addr} {fd : FuncData}
theorem ok_double (F : Fun K "is_own_double" "is_own_double" sIsOwnDouble f fd) (c_behind : Callee P w K mg base "behind" 1 ["one", "other"] spBehind) : FnOk P w K mg base CX0 3 f fd ["turn"] spDouble := by
  refine F.ok scIsOwnDouble (fun vs H Q E h => ?_) (fun cdv A outer s H vs Q E hr h => ?_)
  · obtain ⟨a, u, rfl, _⟩ := h
    rfl
  obtain ⟨a, u, rfl, ha, hT, hz, q⟩ := h
  have hu := hr.units
  refine ⟨_, (pss_one (ps_ret (pe_cmpR (op_eqD hu) (pe_callD c_behind (hr.mono (by decide)) rfl (pl_at (pl_cons (pv 0) (pl_cons (pv 0) pl_nil rfl) rfl))) (pv 0) (nomark _)))), ?_⟩
  refine ⟨_, rfl, _, rfl, a, a, u, u, rfl, ha, ha, hT, hz, fun r H1 g1 e1 => ⟨_, rfl, r, a, 0, _, _, rfl, rfl, repTn (SqT.of e1), repTn (SqT.of (g1 _ _ ha)), by decide, fun v hv => q v H1 g1 (hv.trans dt_natsT)⟩⟩
theorem ok_bears (F : Fun K "bears_itself" "bears_itself" sBearsItself f fd) (c_rest_of : Callee P w K mg base "rest_of" 3 ["turn"] spRest) : FnOk P w K mg base CX0 5 f fd ["turn"] spBears := by
  refine F.ok scBearsItself (fun vs H Q E h => ?_) (fun cdv A outer s H vs Q E hr h => ?_)
  · obtain ⟨a, u, rfl, _⟩ := h
    rfl
  obtain ⟨a, u, rfl, ha, hT, hz, q⟩ := h
  refine ⟨_, (pss_one (ps_ret (pe_cmpR op_le (pe_ix ix_tup (pe_callD c_rest_of (hr.mono (by decide)) rfl (pa_cons (pv 0) pa_nil)) pe_int (fun _ _ => rfl)) pe_int (nomark _)))), ?_⟩
  refine ⟨_, rfl, a, u, rfl, ha, hT, hz, fun r H1 b c g1 e1 R => ⟨r, _, _, _, rfl, rfl, SqT.of e1, rfl, _, _, rfl, rfl, q _ H1 g1 ?_⟩⟩
  rw [Cyc.again_ring R, decide_eq_true_iff]
  omega
theorem ok_power (F : Fun K "doubled_power" "doubled_power" sDoubledPower f fd) (c_is_own_double : Callee P w K mg base "is_own_double" 3 ["turn"] spDouble) (c_behind : Callee P w K mg base "behind" 1 ["one", "other"] spBehind) : FnOk P w K mg base CX0 5 f fd ["turn"] spPower := by
  refine F.ok scDoubledPower (fun vs H Q E h => ?_) (fun cdv A outer s H vs Q E hr h => ?_)
  · obtain ⟨a, u, rfl, _⟩ := h
    rfl
  obtain ⟨a, u, rfl, ha, hT, hz, q⟩ := h
  refine ⟨_, (pss_cons (ps_set (i := 1) scDoubledPower.nd rfl (Or.inl rfl) (pv 0)) (pss_cons (ps_while PassesOwn.never (pt_not (pt_val (pe_callD c_is_own_double (hr.mono (by decide)) rfl (pa_cons (pv 1) pa_nil)))) (pss_one (ps_set (i := 1) scDoubledPower.nd rfl (Or.inl rfl) (pe_callD c_behind (hr.mono (by decide)) rfl (pl_at (pl_cons (pv 1) (pl_cons (pv 0) pl_nil rfl) rfl)))))) (pss_one (ps_ret (pv 1))))), ?_⟩
  obtain ⟨b, c, R, _⟩ := Cyc.ring_of hT
  have hi := Cyc.idem_ex (n := u.length) ⟨rfl, hT⟩ R
  have hp := R.pos
  have hm : c * (b + 1) ≥ b + 1 := Nat.le_mul_of_pos_left _ hp
  generalize c * (b + 1) = N at hi hm
  let Wv : Nat → L2.St → Hp → Prop := fun x σ H' => ∃ (k : Nat) (pr : Addr), x + k = N ∧ 1 ≤ k ∧ Same H H' ∧ H' pr = some (.tup ((Cyc.pw u k).map nv)) ∧ σ = [some (.ref a), some (.ref pr)]
  refine ⟨_, rfl, Wv, ⟨N - 1, 1, a, by omega, Nat.le_refl _, Same.refl _, by rw [Cyc.pw_one]; exact ha, rfl⟩, fun x σ H1 P => ?_⟩
  obtain ⟨k, pr, hx, k1, g, epr, rfl⟩ := P
  have pl : (Cyc.pw u k).length = u.length := Cyc.pw_len u k
  refine ⟨_, rfl, pr, Cyc.pw u k, rfl, epr, fun y hy => by rw [pl]; exact Cyc.pw_lt hT k y hy, by omega, fun v H2 g2 hv => ⟨_, rfl, ?_⟩⟩
  cases v with
  | false =>
    have ne : ¬ k = N := fun z => by
      subst z
      exact Bool.noConfusion (hv.mpr hi)
    refine iteT ⟨fun σ' H' => ∃ m', m' < x ∧ Wv m' σ' H', fun σ' H' h => h, ?_⟩
    refine ⟨_, rfl, _, rfl, pr, a, Cyc.pw u k, u, rfl, g2 _ _ epr, (g.trans g2) _ _ ha, Cyc.pw_lt hT k, by omega, fun r H3 g3 e3 => ?_⟩
    exact ⟨x - 1, by omega, k + 1, r, by omega, by omega, (g.trans g2).trans g3, e3, rfl⟩
  | true => exact iteF ⟨_, rfl, q pr k H2 (g.trans g2) k1 (hv.mp rfl) (g2 _ _ epr)⟩
theorem ok_groups {fdv cv : Value} {T : Addr} (F : DefAt K "groups" sGroups f fd fdv cv) (c_all_turns : CalleeDX P w K mg base "all_turns" 10 ["machine", "most"] (spAllTurns C T (⟨44, 41, 44, 91⟩ : Pos)) []) (c_is_own_double : Callee P w K mg base "is_own_double" 3 ["turn"] spDouble) (c_bears_itself : Callee P w K mg base "bears_itself" 5 ["turn"] spBears) (c_doubled_power : Callee P w K mg base "doubled_power" 5 ["turn"] spPower) (m_enumerate : mg "enumerate" = none) (m_list : mg "list" = none) : FnOk P w K mg base (CX1 P w) 12 f fd ["machine", "most"] (spGroups C T (⟨44, 41, 44, 91⟩ : Pos)) := by
  refine F.fnOkX scGroups (fun vs H Q E h => ?_) (fun A outer s H vs Q E h hr => ?_)
  · obtain ⟨m, ts, n, most, rfl, _⟩ := h
    rfl
  obtain ⟨m, ts, n, most, rfl, M, hmost, hT, q, qE⟩ := h
  have hu := hr.units
  have hu1 := hu_of hr
  refine ⟨_, ?_, (pss_cons (ps_setC (CompSc.to (N := ["machine", "most", "turns", "found", "turn", "number"]) (osc := defScope sGroups) (vs := ["turn", "word"]) ⟨rfl, by decide +kernel, by decide +kernel, by decide +kernel, by decide +kernel, by decide +kernel, by decide +kernel⟩) rfl scGroups.nd (j := 2) rfl rfl (pi_list (pe_callDX c_all_turns (hr.mono (by decide)) passes_def rfl (pl_at (pl_cons (pv 0) (pl_cons (pv 1) pl_nil rfl) rfl)))) (pg_own2 (CompSc.to (N := ["machine", "most", "turns", "found", "turn", "number"]) (osc := defScope sGroups) (vs := ["turn", "word"]) ⟨rfl, by decide +kernel, by decide +kernel, by decide +kernel, by decide +kernel, by decide +kernel, by decide +kernel⟩) rfl rfl rfl) (fun _ _ _ _ => pts_nil) (fun _ _ _ _ => (pv 0))) (pss_cons (ps_set (i := 3) scGroups.nd rfl (Or.inl rfl) pe_dnewT) (pss_cons (ps_for PassesOwn.leaving rfl (pi_list (pv 2)) (pg_name (i := 4) scGroups.nd rfl (Or.inl rfl)) (pss_one (ps_if (pt_val (pe_callD c_is_own_double (hr.mono (by decide)) rfl (pa_cons (pv 4) pa_nil))) (pss_one (ps_dput hu1 (pv 3) (pv 4) (pe_lst pa_nil) rfl)) pss_nil))) (pss_cons (ps_for PassesOwn.leaving rfl (pi_enum rfl m_enumerate (pa_cons (pv 2) pa_nil)) (pg_tup rfl (pgs_cons (pg_name (i := 5) scGroups.nd rfl (Or.inl rfl)) (pgs_cons (pg_name (i := 4) scGroups.nd rfl (Or.inl rfl)) pgs_nil))) (pss_one (ps_if (pt_val (pe_callD c_bears_itself (hr.mono (by decide)) rfl (pa_cons (pv 4) pa_nil))) (pss_one (ps_expr (pe_bm PySem.F.plainAttrs_list PySem.F.slot_list_append PySem.F.type_list_append mt_append (pe_dget hu1 (pv 3) (pe_callD c_doubled_power (hr.mono (by decide)) rfl (pa_cons (pv 4) pa_nil)) (fun _ _ => rfl)) (pa_cons (pv 5) pa_nil)))) pss_nil))) (pss_one (ps_ret (pe_callTy (call_list_vals rfl) rfl m_list boot_list (pa_cons (pe_bm0 PySem.F.plainAttrs_dict PySem.F.slot_dict_values PySem.F.type_dict_values mt_values (pv 3)) pa_nil))))))))⟩
  refine ⟨_, rfl, _, rfl, m, ts, n, most, rfl, M, hmost, hT, fun l0 as0 ws H1 k1 T1 Pi TT le => ?_, qE⟩
  obtain ⟨hl0, las0, each⟩ := id Pi
  have n5 := M.n5
  have inU : ∀ u ∈ ws.map (·.1), Cyc.Tn n u := fun u hu => by
    obtain ⟨r, hr1, rfl⟩ := List.mem_map.mp hu
    obtain ⟨r1, r2⟩ := TT.run r hr1
    have z := goes_in (range_mapsU n) M.steps r.2 r1
    rw [r2] at z
    exact tn_of z
  refine ⟨l0, rfl, ⟨_, SqL.of hl0⟩, comp_list (xs := as0.map .ref) (fun i ys H' => H' = H1 ∧ ∃ bs : List Addr, ys = bs.map V.ref ∧ bs.length = i ∧ ∀ (j : Nat) b u, bs[j]? = some b → (ws.map (·.1))[j]? = some u → H1 b = some (.tup (u.map nv))) (by rw [List.length_map, las0, sizeLine_eq]; omega) ⟨rfl, [], rfl, rfl, fun j b u e => by simp at e⟩ (fun i ys H' _ p => ?_) (fun i v ys H' hv p => ?_) (fun ys H' p so hso => ?_)⟩
  · obtain ⟨rfl, bs, rfl, e, _⟩ := p
    exact ⟨SqL.of hl0, by rw [List.length_map]; omega⟩
  · obtain ⟨rfl, bs, rfl, lb, ok⟩ := p
    rw [List.getElem?_map] at hv
    obtain ⟨a1, ea, rfl⟩ := Option.map_eq_some_iff.mp hv
    obtain ⟨hi, _⟩ := List.getElem?_eq_some_iff.mp ea
    obtain ⟨r, er⟩ : ∃ r, ws[i]? = some r := ⟨_, List.getElem?_eq_getElem (by omega)⟩
    obtain ⟨b, c, _, f1, f2, f3⟩ := each i a1 r ea er
    refine ⟨a1, _, rfl, SqT.of f1, rfl, _, _, rfl, _, _, rfl, rfl, keep_two, yes_of ⟨_, rfl, rfl, bs ++ [b], by simp, by simp [lb], fun j a u e3 e4 => ?_⟩⟩
    by_cases hj : j < i
    · rw [List.getElem?_append_left (by omega)] at e3
      exact ok j a u e3 e4
    · have hji : j = i := by
        have := (List.getElem?_eq_some_iff.mp e3).1
        rw [List.length_append, lb] at this
        have : j < i + 1 := this
        omega
      subst hji
      rw [List.getElem?_append_right (by omega), lb, Nat.sub_self] at e3
      cases e3
      rw [List.getElem?_map, er] at e4
      cases e4
      exact f2
  obtain ⟨rfl, bs, rfl, lb, ok⟩ := p
  rw [List.length_map, las0] at lb
  have ks := same_new hso (.lst (bs.map V.ref))
  have eso : upd H' so (.lst (bs.map V.ref)) so = some (.lst (bs.map V.ref)) := upd_same
  have ok3 : ∀ (j : Nat) b u, bs[j]? = some b → (ws.map (·.1))[j]? = some u → upd H' so (.lst (bs.map V.ref)) b = some (.tup (u.map nv)) := fun j b u e1 e2 => ks _ _ (ok j b u e1 e2)
  have k3 := k1.trans ks.keeps
  have T3 := T1.same ks
  generalize upd H' so (.lst (bs.map V.ref)) = H3 at eso ok3 k3 T3 ⊢
  generalize hus : ws.map (·.1) = us at inU ok3
  have lus : us.length = ws.length := by rw [← hus, List.length_map]
  refine fun d hd => ?_
  have gd := same_new hd (.dT [])
  have ed0 : upd H3 d (.dT []) d = some (.dT []) := upd_same
  have tk : ∀ i u, us[i]? = some u → dbls (us.take (i + 1)) = dbls (us.take i) ++ (if Cyc.Idem u then [u] else []) := fun i u eu => by
    unfold dbls
    rw [List.take_add_one, eu, List.filter_append]
    congr 1
    by_cases z : Cyc.Idem u
    · simp [z]
    · simp [z]
  have ndu : us.Nodup := by rw [← hus]; exact TT.keys
  have nde : (dbls us).Nodup := List.Nodup.sublist List.filter_sublist ndu
  -- the first walk: a list of numbers for each
  let I1 : Nat → L2.St → Hp → Prop := fun i σ H' => ∃ (as : List Addr) (o4 o5 : Option V), Same H3 H' ∧ WordsAt H' d (gw us (dbls (us.take i)) 0) as ∧ as.Nodup ∧ (∀ a ∈ as, H3 a = none) ∧ σ = [some (.ref m), some (nv most), some (.ref so), some (.ref d), o4, o5]
  refine ⟨_, rfl, so, rfl, ⟨_, SqL.of (gd _ _ eso)⟩, for_list (xs := bs.map .ref) I1 ⟨[], none, none, gd, ⟨rfl, ed0, fun j a p e => by simp at e⟩, List.nodup_nil, (fun a h => nomatch h), rfl⟩ (fun i σ H' _ p => ?_) (fun i v σ H' hv p => ?_) (fun σ H4 p => ?_)⟩
  · obtain ⟨as, o4, o5, g, _⟩ := p
    exact SqL.of (g _ _ eso)
  · obtain ⟨as, o4, o5, g, W, nda, new, rfl⟩ := p
    rw [List.getElem?_map] at hv
    obtain ⟨b, eb, rfl⟩ := Option.map_eq_some_iff.mp hv
    obtain ⟨hi, _⟩ := List.getElem?_eq_some_iff.mp eb
    obtain ⟨u, eu⟩ : ∃ u, us[i]? = some u := ⟨_, List.getElem?_eq_getElem (by omega)⟩
    have hb := g _ _ (ok3 i b u eb eu)
    have tu := inU u (List.mem_of_getElem? eu)
    obtain ⟨t1, t2⟩ := tn_turn5 tu n5
    refine ⟨_, rfl, b, u, rfl, hb, t1, by omega, fun v H5 g5 hv5 => ⟨_, rfl, ?_⟩⟩
    have W5 := W.same g5
    cases v with
    | false =>
      refine iteF ⟨as, _, _, g.trans g5, ?_, nda, new, rfl⟩
      rw [tk i u eu, if_neg (fun z => Bool.noConfusion (hv5.mpr z)), List.append_nil]
      exact W5
    | true =>
      refine iteT ⟨by show 0 ≤ sizeLine; decide, fun l hl => ?_⟩
      have kl := same_new hl (.lst [])
      have W6 := W5.same kl
      have no : u ∉ (gw us (dbls (us.take i)) 0).map (·.1) := by
        rw [gw_keys]
        intro z
        obtain ⟨j, ej⟩ := List.getElem?_of_mem (List.mem_filter.mp z).1
        rw [List.getElem?_take] at ej
        split at ej
        · next hj => exact absurd (nodup_at ndu ej eu) (by omega)
        · cases ej
      have ln : (dbls (us.take i)).length ≤ 400 := Nat.le_trans (List.length_filter_le _ _) (by rw [List.length_take]; omega)
      refine ⟨_, rfl, _, rfl, d, _, rfl, DPut.t (k := nk u) W6.dict (by rw [nk_kV]; exact kl _ _ (g5 _ _ hb)) (by rw [kvs_len W6.len, gw_len, sizeLine_eq]; omega), ?_⟩
      rw [putK_new _ (val_no no)]
      have W7 := W6.put (p := (u, [])) (l := l) upd_same
      have n3 : H3 l = none := (g.trans g5).free hl
      refine ⟨as ++ [l], _, _, same_upd ((g.trans g5).trans kl) hd, ?_, ?_, fun a ha => ?_, rfl⟩
      · rw [tk i u eu, if_pos (hv5.mp rfl)]
        unfold gw at W7 ⊢
        rw [List.map_append]
        exact W7
      · refine List.nodup_append.mpr ⟨nda, (List.pairwise_singleton _ _), fun a ha c hc => ?_⟩
        rw [List.mem_singleton.mp hc]
        rintro rfl
        obtain ⟨j, ej⟩ := List.getElem?_of_mem ha
        obtain ⟨p, ep⟩ : ∃ p, (gw us (dbls (us.take i)) 0)[j]? = some p := ⟨_, List.getElem?_eq_getElem (by rw [← W.len]; exact (List.getElem?_eq_some_iff.mp ej).1)⟩
        have z := W5.list j a p ej ep
        rw [hl] at z
        cases z
      · rcases List.mem_append.mp ha with z | z
        · exact new a z
        · rw [List.mem_singleton.mp z]
          exact n3
  obtain ⟨as, o4, o5, g4, W4, nda, new, rfl⟩ := p
  rw [List.length_map, lb, ← lus, List.take_length] at W4
  -- the second walk: the numbers
  let I2 : Nat → L2.St → Hp → Prop := fun i σ H' => ∃ (o4 o5 : Option V), Same H3 H' ∧ WordsAt H' d (gw us (dbls us) i) as ∧ σ = [some (.ref m), some (nv most), some (.ref so), some (.ref d), o4, o5]
  refine ⟨_, rfl, so, _, rfl, SqL.of (g4 _ _ eso), for_enum (xs := bs.map .ref) I2 ⟨_, _, g4, W4, rfl⟩ (fun i σ H' _ p => ?_) (fun i Tp v σ H' hv nT p => ?_) (fun σ H5 p => ?_)⟩
  · obtain ⟨o4, o5, g, _⟩ := p
    exact SqL.of (g _ _ eso)
  · obtain ⟨o4, o5, g, W, rfl⟩ := p
    rw [List.getElem?_map] at hv
    obtain ⟨b, eb, rfl⟩ := Option.map_eq_some_iff.mp hv
    obtain ⟨hi, _⟩ := List.getElem?_eq_some_iff.mp eb
    obtain ⟨u, eu⟩ : ∃ u, us[i]? = some u := ⟨_, List.getElem?_eq_getElem (by omega)⟩
    have kT := same_new nT (.tup [.int (i : Nat), .ref b])
    have gT := g.trans kT
    have WT := W.same kT
    refine ⟨Tp, _, rfl, SqT.of upd_same, rfl, _, _, rfl, _, _, rfl, rfl, ?_⟩
    generalize upd H' Tp (.tup [.int (i : Nat), .ref b]) = H6 at gT WT ⊢
    have hb := gT _ _ (ok3 i b u eb eu)
    have tu := inU u (List.mem_of_getElem? eu)
    obtain ⟨t1, t2⟩ := tn_turn5 tu n5
    refine ⟨_, rfl, b, u, rfl, hb, t1, by omega, fun v H7 g7 hv7 => ⟨_, rfl, ?_⟩⟩
    have W7 := WT.same g7
    cases v with
    | false =>
      refine iteF ⟨_, _, gT.trans g7, ?_, rfl⟩
      have e : gw us (dbls us) (i + 1) = gw us (dbls us) i := by
        unfold gw
        refine List.map_congr_left fun e _ => ?_
        rw [Cyc.gp_succ eu, if_neg (fun z => Bool.noConfusion (hv7.mpr z.1)), List.append_nil]
      rw [e]
      exact W7
    | true =>
      refine iteT ?_
      refine ⟨_, rfl, _, rfl, b, u, rfl, g7 _ _ hb, t1, by omega, fun r k H8 g8 k1 ik er => ?_⟩
      have W8 := W7.same g8
      have mem : Cyc.pw u k ∈ dbls us := List.mem_filter.mpr ⟨by rw [← hus]; exact told_pw M.each TT (by rw [hus]; exact List.mem_of_getElem? eu) k k1, decide_eq_true ik⟩
      obtain ⟨j, ej⟩ := List.getElem?_of_mem mem
      obtain ⟨hj, _⟩ := List.getElem?_eq_some_iff.mp ej
      have lna : as.length = (dbls us).length := by rw [W8.len, gw_len]
      obtain ⟨a, ea⟩ : ∃ a, as[j]? = some a := ⟨_, List.getElem?_eq_getElem (by omega)⟩
      have ep : (gw us (dbls us) i)[j]? = some (Cyc.pw u k, Cyc.gp us (Cyc.pw u k) i) := by
        unfold gw
        rw [List.getElem?_map, ej]
        rfl
      have hval : valV (kvsOf (gw us (dbls us) i) as) (nk (Cyc.pw u k)) = some (.ref a) := val_at (p := (Cyc.pw u k, Cyc.gp us (Cyc.pw u k) i)) (by rw [gw_keys]; exact nde) ep ea
      have hdg := DGet.t (k := nk (Cyc.pw u k)) W8.dict (b := r) (by rw [nk_kV]; exact er)
      rw [hval] at hdg
      have hla := W8.list j a _ ea ep
      have gl := Cyc.gp_le (us := us) (e := Cyc.pw u k) i
      refine ⟨d, _, rfl, hdg, .inl ⟨rfl, _, SqL.of hla⟩, _, rfl, a, _, _, rfl, rfl, hla, by rw [List.length_map, sizeLine_eq]; show (Cyc.gp us (Cyc.pw u k) i).length < _; omega, ?_⟩
      have na : H3 a = none := new a (List.mem_of_getElem? ea)
      refine ⟨_, _, same_upd ((gT.trans g7).trans g8) na, ?_, rfl⟩
      refine words_turn W8 nda ea (by rw [gw_keys, gw_keys]) (fun p e => ?_) fun i' hi' => ?_
      · unfold gw at e
        rw [List.getElem?_map, ej] at e
        cases e
        show _ = (Cyc.gp us (Cyc.pw u k) (i + 1)).map nv
        rw [Cyc.gp_succ eu, if_pos ⟨hv7.mp rfl, k, k1, rfl⟩, List.map_append]
        rfl
      · unfold gw
        rw [List.getElem?_map, List.getElem?_map]
        cases e2 : (dbls us)[i']? with
        | none => rfl
        | some e' =>
          show some (e', Cyc.gp us e' (i + 1)) = some (e', Cyc.gp us e' i)
          rw [Cyc.gp_succ eu, if_neg (fun z => hi' (nodup_at nde (x := Cyc.pw u k) (by rw [e2, Cyc.in_uniq tu (of_decide_eq_true (List.mem_filter.mp (List.mem_of_getElem? e2)).2) ik z ⟨hv7.mp rfl, k, k1, rfl⟩]) ej)), List.append_nil]
  obtain ⟨o4, o5, g5, W5, rfl⟩ := p
  rw [List.length_map, lb, ← lus] at W5
  refine ⟨_, rfl, .inr (.inr (.inl ⟨rfl, .inr ⟨_, W5.dict⟩⟩)), rfl, d, _, rfl, W5.dict, fun v hv => ?_⟩
  have kv := same_new hv (VViewO v d)
  refine ⟨v, d, _, rfl, upd_same, kv _ _ W5.dict, fun l hl => ?_⟩
  rw [kvs_vals W5.len]
  have kl := kv.trans (same_new hl (.lst (as.map V.ref)))
  have g6 := g5.trans kl
  have keep := k3.trans g6.keeps
  have fresh : ∀ {b : Addr}, H3 b = none → L2.noT H b = none := fun {b} z => by
    cases y : L2.noT H b with
    | none => rfl
    | some o =>
      have z2 := k3 _ _ y
      rw [z] at z2
      cases z2
  refine q l as ws _ keep (T3.same g6) (fresh ((g5.trans kv).free hl)) (fun a ha => fresh (new a ha)) (fun z => ?_) ⟨upd_same, ?_, fun j a e e1 e2 => ?_⟩ TT le
  · obtain ⟨j, ej⟩ := List.getElem?_of_mem z
    obtain ⟨p, ep⟩ : ∃ p, (gw us (dbls us) us.length)[j]? = some p := ⟨_, List.getElem?_eq_getElem (by rw [← W5.len]; exact (List.getElem?_eq_some_iff.mp ej).1)⟩
    have z := kv _ _ (W5.list j l p ej ep)
    rw [hl] at z
    cases z
  · rw [hus, W5.len, gw_len]
  · rw [hus] at e2 ⊢
    exact kl _ _ (W5.list j a (e, Cyc.gp us e us.length) e1 (by unfold gw; rw [List.getElem?_map, e2]; rfl))
end
def dtN (xs : List Nat) : List Dt := (xs.map fun (n : Nat) => (n : Int)).map Dt.int
theorem told_few {f : List Nat → Nat → List Nat} {L : Nat} {x0 : List Nat} {ws vs : TW} (T : Told f L x0 vs) (kn : (ws.map (·.1)).Nodup) (run : ∀ p ∈ ws, (∀ l ∈ p.2, l < L) ∧ goes f x0 p.2 = p.1) : ws.length ≤ vs.length := by
  rw [← List.length_map (f := (·.1)) (as := ws), ← List.length_map (f := (·.1)) (as := vs)]
  refine few_of kn fun x hx => ?_
  obtain ⟨p, hp, rfl⟩ := List.mem_map.mp hx
  obtain ⟨r1, r2⟩ := run p hp
  obtain ⟨u, h1, _⟩ := T.least _ p.2 rfl r1
  rw [r2] at h1
  exact List.mem_map.mpr ⟨_, h1, rfl⟩
theorem _root_.L2.SqL.keeps {K : PySem.W.Frag} {H H' : Hp} {a : Addr} {xs : List V} (h : SqL K H a xs) (g : Keeps H H') : SqL K H' a xs := by
  rcases h with (h | ⟨o, h⟩) | h
  · exact .inl (.inl (g _ _ (noT_at h fun _ e => nomatch e)))
  · exact .inl (.inr ⟨o, g _ _ (noT_at h fun _ e => nomatch e)⟩)
  · exact .inr h
theorem dbls_len {us : List (List Nat)} : (dbls us).length ≤ us.length := List.length_filter_le _ _
def kvS (us : List (List Nat)) : List (List Key × V) := us.map fun u => (nk u, V.bl true)
theorem kvS_no : ∀ {us : List (List Nat)} {x : List Nat}, x ∉ us → valV (kvS us) (nk x) = none
  | [], _, _ => rfl
  | p :: us, x, h => by
    have h1 : ¬ (nk p : List Key) = nk x := fun z => h (by rw [← nk_inj z]; exact List.mem_cons_self ..)
    exact (valV_neg (p := (nk p, V.bl true)) (r := kvS us) h1).trans (kvS_no fun z => h (List.mem_cons_of_mem _ z))
theorem kvS_in : ∀ {us : List (List Nat)} {x : List Nat}, x ∈ us → valV (kvS us) (nk x) = some (.bl true)
  | [], _, h => nomatch h
  | p :: us, x, h => by
    by_cases e : p = x
    · rw [← e]
      exact valV_pos (p := (nk p, V.bl true)) (r := kvS us) rfl
    · have h1 : ¬ (nk p : List Key) = nk x := fun z => e (nk_inj z)
      exact (valV_neg (p := (nk p, V.bl true)) (r := kvS us) h1).trans (kvS_in ((List.mem_cons.mp h).resolve_left fun z => e z.symm))
structure Grp (n : Nat) (gs : List (List Nat)) (e : List Nat) : Prop where
  n1 : 1 ≤ n
  n5 : n ≤ 5
  nd : gs.Nodup
  tn : ∀ t ∈ gs, Cyc.Tn n t
  te : Cyc.Tn n e
  id : Cyc.Idem e
  me : e ∈ gs
  ins : ∀ t ∈ gs, Cyc.In t e
  pws : ∀ t ∈ gs, ∀ k, 1 ≤ k → Cyc.pw t k ∈ gs
  beh : ∀ t ∈ gs, ∀ v ∈ gs, Cyc.beh t v ∈ gs
  few : gs.length ≤ 400
theorem again_five {n : Nat} {u : List Nat} (h : Cyc.Tn n u) (n1 : 1 ≤ n) (n5 : n ≤ 5) : Cyc.Again u ↔ ∃ k, k < 30 ∧ Cyc.pw u (k + 2) = u := by
  constructor
  · intro ag
    obtain ⟨b, c, R, _⟩ := Cyc.ring_of h.turn
    have hb := (Cyc.again_ring R).mp ag
    have c6 := (Cyc.ring_five h.turn (by rw [h.1]; exact n1) (by rw [h.1]; exact n5) R).2
    have hp := R.pos
    have := (Cyc.ring_same (F := fun p => Cyc.beh p u) (fun _ => rfl) R (c + 1) 1 (by omega)).mpr ⟨hb, by rw [Nat.add_sub_cancel]; exact Nat.dvd_refl _⟩
    exact ⟨c - 1, by omega, by rw [show c - 1 + 2 = c + 1 by omega, ← this, Cyc.pw_one]⟩
  · rintro ⟨k, _, e⟩
    exact ⟨k + 1, by omega, e⟩
theorem amid_five {n : Nat} {u e : List Nat} (h : Cyc.Tn n u) (n1 : 1 ≤ n) (n5 : n ≤ 5) (ie : Cyc.Idem e) (i : Cyc.In u e) : ∃ k, k < 30 ∧ Cyc.pw u (k + 2) = e := by
  obtain ⟨b, c, R, _⟩ := Cyc.ring_of h.turn
  have hb := (Cyc.again_ring R).mp i.1
  have c6 := (Cyc.ring_five h.turn (by rw [h.1]; exact n1) (by rw [h.1]; exact n5) R).2
  have hp := R.pos
  have i2 : Cyc.Idem (Cyc.pw u (c * 2)) := by
    have z := Cyc.idem_ex h R
    have e2 := Cyc.idem_mul h z 1
    by_cases hb1 : b = 1
    · subst hb1
      exact z
    · have hb0 : b = 0 := by omega
      subst hb0
      rw [Nat.zero_add, Nat.mul_one] at z e2
      rw [e2]
      exact z
  obtain ⟨_, k, hk, rfl⟩ := i
  exact ⟨c * 2 - 2, by omega, by rw [show c * 2 - 2 + 2 = c * 2 by omega]; exact Cyc.idem_uniq h (by omega) hk i2 ie⟩
def spRefused (T : Addr) (pos : Pos) : Sp := fun vs H Q _ => ∃ (m : Addr) (ts : List (List Nat)) (n : Nat) (ws : TW), vs = [.ref m] ∧ Mach H m ts n ∧ TabOk AllQ pos H T ∧ (ws.map (·.1)).Nodup ∧ (∀ p ∈ ws, (∀ l ∈ p.2, l < ts.length) ∧ goes (stepT ts) (List.range n) p.2 = p.1) ∧ 400 < ws.length ∧ ∀ H', Q (.bl true) H'
def spComes : Sp := fun vs H Q _ => ∃ (a : Addr) (u : List Nat) (n : Nat), vs = [.ref a] ∧ H a = some (.tup (u.map nv)) ∧ Cyc.Tn n u ∧ 1 ≤ n ∧ n ≤ 5 ∧ ∀ v H', Same H H' → (v = true ↔ Cyc.Again u) → Q (.bl v) H'
def spUndone : Sp := fun vs H Q _ => ∃ (a b d : Addr) (u e : List Nat) (n : Nat) (gs : List (List Nat)), vs = [.ref a, .ref b, .ref d] ∧ H a = some (.tup (u.map nv)) ∧ H b = some (.tup (e.map nv)) ∧ H d = some (.dT (kvS gs)) ∧ u ∈ gs ∧ Grp n gs e ∧ ∀ H', Same H H' → Q (.bl true) H'
def spIsGroup (K : PySem.W.Frag) : Sp := fun vs H Q _ => ∃ (l c : Addr) (gb : List Addr) (cs : List Int) (e : List Nat) (n : Nat) (gs : List (List Nat)), vs = [.ref l, .ref c] ∧ H l = some (.lst (gb.map .ref)) ∧ H c = some (.lst (cs.map V.int)) ∧ TupsAt H gb gs ∧ Grp n gs e ∧ ∀ H', Same H H' → Q (.bl true) H'
def spLaw (K : PySem.W.Frag) (T : Addr) (pos : Pos) : Sp := fun vs H Q _ => ∃ (a : Addr) (ns : List Int), vs = [.ref a] ∧ SqL K H a (ns.map V.int) ∧ ns.length ≤ 63 ∧ H T = some (.tbl #[]) ∧ ∀ H', Q (.bl true) H'
section
variable {P : Program} {w : World} {K : PySem.W.Frag} {mg : Str → Option Value} {base : Heap} {f C : Addr} {fd : FuncData}
theorem ok_refused {T D : Addr} (F : Fun K "_law_refused" "_law_refused" sLawRefused f fd) (cd_groups : CalleeDX P w K mg base "groups" 12 ["machine", "most"] (spGroups C T (⟨44, 41, 44, 91⟩ : Pos)) [nv 400]) (m_TooMany : mg "TooMany" = some (.ref C)) (kC : MkeIn K C D) : FnOk P w K mg base CX0 14 f fd ["_law_machine_here"] (spRefused T (⟨44, 41, 44, 91⟩ : Pos)) := by
  refine F.ok scLawRefused (fun vs H Q E h => ?_) (fun cdv A outer s H vs Q E hr h => ?_)
  · obtain ⟨m, ts, n, ws, rfl, _⟩ := h
    rfl
  obtain ⟨m, ts, n, ws, rfl, M, hT, kn, run, lt, q⟩ := h
  refine ⟨_, (pss_cons (ps_try0 rfl rfl rfl rfl m_TooMany (psx_expr (pex_callDX cd_groups (hr.mono (by decide)) rfl (pa_cons (pv 0) pa_nil))) (fun _ => (pss_one (ps_ret pe_bl)))) (pss_one (ps_ret pe_bl))), ?_⟩
  refine ⟨fun v d H1 => v = .ref C, ⟨_, rfl, m, ts, n, 400, rfl, M, Nat.le_refl _, hT, fun l ls vs H' _ _ _ _ _ _ TT le => absurd (told_few TT kn run) (by omega), fun vs H' dx _ _ hdx _ _ _ => rfl⟩, fun C' d H1 e => ?_⟩
  cases e
  exact ⟨mke_catch kC, q _⟩
theorem ok_comes (F : Fun K "_law_comes_again" "_law_comes_again" sLawComesAgain f fd) (c__law_behind : Callee P w K mg base "_law_behind" 1 ["_law_one", "_law_other"] spBehind) (m_range : mg "range" = none) : FnOk P w K mg base CX0 3 f fd ["_law_turn_here"] spComes := by
  refine F.ok scLawComesAgain (fun vs H Q E h => ?_) (fun cdv A outer s H vs Q E hr h => ?_)
  · obtain ⟨a, u, n, rfl, _⟩ := h
    rfl
  obtain ⟨a, u, n, rfl, ha, tu, n1, n5, q⟩ := h
  have hu := hr.units
  have ul : u.length ≤ 5 := by rw [tu.1]; exact n5
  have hT := tu.turn
  refine ⟨_, (pss_cons (ps_set (i := 1) scLawComesAgain.nd rfl (Or.inl rfl) (pe_callD c__law_behind (hr.mono (by decide)) rfl (pl_at (pl_cons (pv 0) (pl_cons (pv 0) pl_nil rfl) rfl)))) (pss_cons (ps_for PassesOwn.never rfl (pi_range1 rfl m_range (pa_cons pe_int pa_nil)) (pg_name (i := 2) scLawComesAgain.nd rfl (Or.inl rfl)) (pss_cons (ps_if (pt_cmpR (op_eqD hu) (pv 1) (pv 0) (nomark _)) (pss_one (ps_ret pe_bl)) pss_nil) (pss_one (ps_set (i := 1) scLawComesAgain.nd rfl (Or.inl rfl) (pe_callD c__law_behind (hr.mono (by decide)) rfl (pl_at (pl_cons (pv 1) (pl_cons (pv 0) pl_nil rfl) rfl))))))) (pss_one (ps_ret pe_bl)))), ?_⟩
  refine ⟨_, rfl, _, rfl, a, a, u, u, rfl, ha, ha, hT, by omega, fun p0 H1 g1 e1 => ?_⟩
  have e1 : H1 p0 = some (.tup ((Cyc.pw u 2).map nv)) := by
    have z : Cyc.pw u 2 = Cyc.beh u u := by show Cyc.beh (Cyc.pw u 1) u = _; rw [Cyc.pw_one]
    rw [z]
    exact e1
  refine ⟨30, rfl, by decide, by decide, for_range (n := 30) (fun i σ H' => Same H H' ∧ (∀ j, j < i → Cyc.pw u (j + 2) ≠ u) ∧ ∃ (p : Addr) (o2 : Option V), H' p = some (.tup ((Cyc.pw u (i + 2)).map nv)) ∧ σ = [some (.ref a), some (.ref p), o2]) ⟨g1, fun j hj => absurd hj (Nat.not_lt_zero _), p0, none, e1, rfl⟩ (fun i σ H2 hi p => ?_) (fun σ H2 p => ?_)⟩
  · obtain ⟨g, no, p, o2, ep, rfl⟩ := p
    refine ⟨_, rfl, _, rfl, p, a, 0, _, _, rfl, rfl, repTn (SqT.of ep), repTn (SqT.of (g _ _ ha)), by decide, fun v hv => ⟨_, rfl, ?_⟩⟩
    have hv : v = true ↔ Cyc.pw u (i + 2) = u := hv.trans dt_natsT
    cases v with
    | true => exact iteT (q true H2 g ⟨fun _ => (again_five tu n1 n5).mpr ⟨i, hi, hv.mp rfl⟩, fun _ => rfl⟩)
    | false =>
      refine iteF ⟨_, rfl, _, rfl, p, a, Cyc.pw u (i + 2), u, rfl, ep, g _ _ ha, Cyc.pw_lt hT _, by rw [Cyc.pw_len]; omega, fun r H3 g3 e3 => ?_⟩
      refine ⟨g.trans g3, fun j hj => ?_, r, _, e3, rfl⟩
      by_cases z : j < i
      · exact no j z
      · have : j = i := by omega
        subst this
        exact fun y => Bool.noConfusion (hv.mpr y)
  · obtain ⟨g, no, p, o2, ep, rfl⟩ := p
    exact q false H2 g ⟨fun z => Bool.noConfusion z, fun z => by obtain ⟨k, h1, h2⟩ := (again_five tu n1 n5).mp z; exact absurd h2 (no k h1)⟩
theorem ok_undone (F : Fun K "_law_undone" "_law_undone" sLawUndone f fd) (c__law_behind : Callee P w K mg base "_law_behind" 1 ["_law_one", "_law_other"] spBehind) (m_range : mg "range" = none) : FnOk P w K mg base CX0 3 f fd ["_law_turn_here", "_law_amid", "_law_known"] spUndone := by
  refine F.ok scLawUndone (fun vs H Q E h => ?_) (fun cdv A outer s H vs Q E hr h => ?_)
  · obtain ⟨a, b, d, u, e, n, gs, rfl, _⟩ := h
    rfl
  obtain ⟨a, b, d, u, e, n, gs, rfl, ha, hb, hd, mu, G, q⟩ := h
  have hu := hr.units
  have hu1 := hu_of hr
  have tu := G.tn u mu
  have ul : u.length ≤ 5 := by rw [tu.1]; exact G.n5
  have hT := tu.turn
  refine ⟨_, (pss_cons (ps_set (i := 3) scLawUndone.nd rfl (Or.inl rfl) (pv 0)) (pss_cons (ps_for PassesOwn.never rfl (pi_range1 rfl m_range (pa_cons pe_int pa_nil)) (pg_name (i := 4) scLawUndone.nd rfl (Or.inl rfl)) (pss_cons (ps_if (pt_cmpR (op_eqD hu) (pe_callD c__law_behind (hr.mono (by decide)) rfl (pl_at (pl_cons (pv 3) (pl_cons (pv 0) pl_nil rfl) rfl))) (pv 1) (nomark _)) (pss_one (ps_ret (pe_and (pe_cmp (pc_din hu1 (pv 3) (pv 2))) (pe_one (pe_cmpR (op_eqD hu) (pe_callD c__law_behind (hr.mono (by decide)) rfl (pl_at (pl_cons (pv 0) (pl_cons (pv 3) pl_nil rfl) rfl))) (pv 1) (nomark _)))))) pss_nil) (pss_one (ps_set (i := 3) scLawUndone.nd rfl (Or.inl rfl) (pe_callD c__law_behind (hr.mono (by decide)) rfl (pl_at (pl_cons (pv 3) (pl_cons (pv 0) pl_nil rfl) rfl))))))) (pss_one (ps_ret pe_bl)))), ?_⟩
  refine ⟨_, rfl, 30, rfl, by decide, by decide, for_range (n := 30) (fun i σ H' => Same H H' ∧ (∀ j, j < i → Cyc.pw u (j + 2) ≠ e) ∧ ∃ (p : Addr) (o4 : Option V), H' p = some (.tup ((Cyc.pw u (i + 1)).map nv)) ∧ σ = [some (.ref a), some (.ref b), some (.ref d), some (.ref p), o4]) ⟨Same.refl _, fun j hj => absurd hj (Nat.not_lt_zero _), a, none, by rw [Cyc.pw_one]; exact ha, rfl⟩ (fun i σ H2 hi p => ?_) (fun σ H2 p => ?_)⟩
  · obtain ⟨g, no, p, o4, ep, rfl⟩ := p
    refine ⟨_, rfl, _, rfl, p, a, Cyc.pw u (i + 1), u, rfl, ep, g _ _ ha, Cyc.pw_lt hT _, by rw [Cyc.pw_len]; omega, fun r H3 g3 e3 => ⟨_, rfl, r, b, 0, _, _, rfl, rfl, repTn (SqT.of e3), repTn (SqT.of (g3 _ _ (g _ _ hb))), by decide, fun v hv => ⟨_, rfl, ?_⟩⟩⟩
    have hv : v = true ↔ Cyc.pw u (i + 2) = e := hv.trans dt_natsT
    have g03 := g.trans g3
    cases v with
    | true =>
      have ei := hv.mp rfl
      refine iteT ?_
      have hdg := DGet.t (k := nk (Cyc.pw u (i + 1))) (g03 _ _ hd) (b := p) (by rw [nk_kV]; exact g3 _ _ ep)
      rw [kvS_in (G.pws u mu (i + 1) (by omega))] at hdg
      refine ⟨_, rfl, _, rfl, d, _, rfl, hdg, true, rfl, iteT ?_⟩
      refine ⟨_, rfl, _, rfl, a, p, u, Cyc.pw u (i + 1), rfl, g03 _ _ ha, g3 _ _ ep, fun x hx => by rw [Cyc.pw_len]; exact hT x hx, by omega, fun r2 H4 g4 e4 => ⟨_, rfl, r2, b, 0, _, _, rfl, rfl, repTn (SqT.of e4), repTn (SqT.of (g4 _ _ (g03 _ _ hb))), by decide, fun v2 hv2 => ?_⟩⟩
      have e5 : Cyc.beh u (Cyc.pw u (i + 1)) = e := by
        have z := Cyc.pw_add tu 1 (i + 1)
        rw [Cyc.pw_one, show 1 + (i + 1) = i + 2 by omega, ei] at z
        exact z
      rw [show v2 = true from (hv2.trans dt_natsT).mpr e5]
      exact q H4 (g03.trans g4)
    | false =>
      refine iteF ⟨_, rfl, _, rfl, p, a, Cyc.pw u (i + 1), u, rfl, g3 _ _ ep, g03 _ _ ha, Cyc.pw_lt hT _, by rw [Cyc.pw_len]; omega, fun r2 H4 g4 e4 => ?_⟩
      refine ⟨g03.trans g4, fun j hj => ?_, r2, _, e4, rfl⟩
      by_cases z : j < i
      · exact no j z
      · have : j = i := by omega
        subst this
        exact fun y => Bool.noConfusion (hv.mpr y)
  · obtain ⟨g, no, p, o4, ep, rfl⟩ := p
    obtain ⟨k, h1, h2⟩ := amid_five tu G.n1 G.n5 G.id (G.ins u mu)
    exact absurd h2 (no k h1)
theorem ok_is_group (F : Fun K "_law_is_group" "_law_is_group" sLawIsGroup f fd) (c__law_behind : Callee P w K mg base "_law_behind" 1 ["_law_one", "_law_other"] spBehind) (c__law_undone : Callee P w K mg base "_law_undone" 3 ["_law_turn_here", "_law_amid", "_law_known"] spUndone) (m_len : mg "len" = none) : FnOk P w K mg base CX0 5 f fd ["_law_some", "_law_cells"] (spIsGroup K) := by
  refine F.ok scLawIsGroup (fun vs H Q E h => ?_) (fun cdv A outer s H vs Q E hr h => ?_)
  · obtain ⟨l, c, gb, cs, e, n, gs, rfl, _⟩ := h
    rfl
  obtain ⟨l, c, gb, cs, e, n, gs, rfl, hl, hc, Tg, G, q⟩ := h
  have hu := hr.units
  have hu1 := hu_of hr
  have lg := Tg.len
  have few := G.few
  have n5 := G.n5
  refine ⟨_, (pss_cons (ps_set (i := 2) scLawIsGroup.nd rfl (Or.inl rfl) pe_dnewT) (pss_cons (ps_for PassesOwn.never rfl (pi_list (pv 0)) (pg_name (i := 3) scLawIsGroup.nd rfl (Or.inl rfl)) (pss_one (ps_dput hu1 (pv 2) (pv 3) pe_bl rfl))) (pss_cons (ps_setC1 (CompSc.to (N := ["_law_some", "_law_cells", "_law_known", "_law_turn_here", "_law_lone", "_law_cell", "_law_one", "_law_other"]) (osc := defScope sLawIsGroup) (vs := ["_law_turn_here"]) ⟨rfl, by decide +kernel, by decide +kernel, by decide +kernel, by decide +kernel, by decide +kernel, by decide +kernel⟩) rfl rfl scLawIsGroup.nd (j := 4) rfl rfl (pi_list (pv 0)) (fun _ _ _ _ => pts_one (pt_cmpR (OpR.k (K := K) (fun K => rEqD K false) (op_eqD hu) rfl) (pe_callD c__law_behind (hr.mono (by decide)) rfl (pl_at (pl_cons (pv 0) (pl_cons (pv 0) pl_nil rfl) rfl))) (pv 0) (nomark _))) (fun _ _ _ _ => (pv 0))) (pss_cons (ps_if (PW.pt (pw_or (pt_cmpR op_ne (pe_callB call_len_seq rfl m_len boot_len (pa_cons (pv 4) pa_nil)) pe_int (nomark _)) (pw_or1 (pt_cmpR op_ne (pe_callB call_lenT rfl m_len boot_len (pa_cons (pv 2) pa_nil)) (pe_callB call_len_seq rfl m_len boot_len (pa_cons (pv 0) pa_nil)) (nomark _))))) (pss_one (ps_ret pe_bl)) pss_nil) (pss_cons (ps_for PassesOwn.never rfl (pi_list (pv 0)) (pg_name (i := 3) scLawIsGroup.nd rfl (Or.inl rfl)) (pss_cons (ps_if (PW.pt (pw_or (pt_cmpR (op_neD hu) (pe_callD c__law_behind (hr.mono (by decide)) rfl (pl_at (pl_cons (pv 3) (pl_cons (pe_ix ix_list (pv 4) pe_int (fun _ _ => rfl)) pl_nil rfl) rfl))) (pv 3) (nomark _)) (pw_or1 (pt_cmpR (op_neD hu) (pe_callD c__law_behind (hr.mono (by decide)) rfl (pl_at (pl_cons (pe_ix ix_list (pv 4) pe_int (fun _ _ => rfl)) (pl_cons (pv 3) pl_nil rfl) rfl))) (pv 3) (nomark _))))) (pss_one (ps_ret pe_bl)) pss_nil) (pss_one (ps_if (pt_not (pt_val (pe_callD c__law_undone (hr.mono (by decide)) rfl (pl_at (pl_cons (pv 3) (pl_cons (pe_ix ix_list (pv 4) pe_int (fun _ _ => rfl)) (pl_cons (pv 2) pl_nil rfl) rfl) rfl))))) (pss_one (ps_ret pe_bl)) pss_nil)))) (pss_cons (ps_for PassesOwn.never rfl (pi_list (pv 1)) (pg_name (i := 5) scLawIsGroup.nd rfl (Or.inl rfl)) (pss_cons (ps_set (i := 6) scLawIsGroup.nd rfl (Or.inl rfl) (pe_ix ix_list (pv 0) (pe_op op_mod (pv 5) (pe_callB call_len_seq rfl m_len boot_len (pa_cons (pv 0) pa_nil))) (fun _ _ => rfl))) (pss_cons (ps_set (i := 7) scLawIsGroup.nd rfl (Or.inl rfl) (pe_ix ix_list (pv 0) (pe_op op_mod (pe_op op_fdiv (pv 5) (pe_callB call_len_seq rfl m_len boot_len (pa_cons (pv 0) pa_nil))) (pe_callB call_len_seq rfl m_len boot_len (pa_cons (pv 0) pa_nil))) (fun _ _ => rfl))) (pss_one (ps_if (pt_cmp (pc_dnotin hu1 (pe_callD c__law_behind (hr.mono (by decide)) rfl (pl_at (pl_cons (pv 6) (pl_cons (pv 7) pl_nil rfl) rfl))) (pv 2))) (pss_one (ps_ret pe_bl)) pss_nil))))) (pss_one (ps_ret pe_bl)))))))), ?_⟩
  refine fun d hd => ?_
  have gd := same_new hd (.dT [])
  refine ⟨_, rfl, l, rfl, ⟨_, SqL.of (gd _ _ hl)⟩, for_list (xs := gb.map .ref) (fun i σ H' => Same H H' ∧ H' d = some (.dT (kvS (gs.take i))) ∧ ∃ o3, σ = [some (.ref l), some (.ref c), some (.ref d), o3, none, none, none, none]) ⟨gd, upd_same, none, rfl⟩ (fun i σ H' _ p => SqL.of (p.1 _ _ hl)) (fun i v σ H' hv p => ?_) (fun σ H1 p => ?_)⟩
  · obtain ⟨g, ed, o3, rfl⟩ := p
    rw [List.getElem?_map] at hv
    obtain ⟨b, eb, rfl⟩ := Option.map_eq_some_iff.mp hv
    obtain ⟨hi, _⟩ := List.getElem?_eq_some_iff.mp eb
    obtain ⟨u, eu⟩ : ∃ u, gs[i]? = some u := ⟨_, List.getElem?_eq_getElem (by omega)⟩
    have hb := g _ _ (Tg.is i b u eb eu)
    have no : u ∉ gs.take i := fun z => by
      obtain ⟨j, ej⟩ := List.getElem?_of_mem z
      rw [List.getElem?_take] at ej
      split at ej
      · next hj => exact absurd (nodup_at G.nd ej eu) (by omega)
      · cases ej
    refine ⟨_, rfl, _, rfl, d, _, rfl, DPut.t (k := nk u) ed (by rw [nk_kV]; exact hb) (by unfold kvS; rw [List.length_map, List.length_take, sizeLine_eq]; omega), ?_⟩
    rw [putK_new _ (kvS_no no)]
    refine ⟨same_upd g hd, ?_, _, rfl⟩
    rw [upd_same, List.take_add_one, eu]
    unfold kvS
    rw [List.map_append]
    rfl
  obtain ⟨g1, ed, o3, rfl⟩ := p
  rw [List.length_map, lg, List.take_length] at ed
  -- the lone one
  have lone : ∀ u ∈ gs, (Cyc.Idem u ↔ u = e) := fun u mu => by
    constructor
    · intro i
      obtain ⟨_, k, hk, ek⟩ := G.ins u mu
      have z := Cyc.idem_uniq (G.tn u mu) (Nat.le_refl 1) hk (by rw [Cyc.pw_one]; exact i) (by rw [ek]; exact G.id)
      rw [Cyc.pw_one, ek] at z
      exact z
    · rintro rfl
      exact G.id
  obtain ⟨je, eje⟩ := List.getElem?_of_mem G.me
  obtain ⟨hje, _⟩ := List.getElem?_eq_some_iff.mp eje
  obtain ⟨be, ebe⟩ : ∃ be, gb[je]? = some be := ⟨_, List.getElem?_eq_getElem (by omega)⟩
  refine ⟨_, rfl, l, rfl, ⟨_, SqL.of (g1 _ _ hl)⟩, comp_list (xs := gb.map .ref) (fun i ys H' => Same H1 H' ∧ ys = (if je < i then [V.ref be] else [])) (by rw [List.length_map, sizeLine_eq]; omega) ⟨Same.refl _, rfl⟩ (fun i ys H' hi p => ?_) (fun i v ys H' hv p => ?_) (fun ys H' p lo hlo => ?_)⟩
  · obtain ⟨g, rfl⟩ := p
    refine ⟨SqL.of (g _ _ (g1 _ _ hl)), ?_⟩
    split
    · show 1 ≤ i
      omega
    · exact Nat.zero_le _
  · obtain ⟨g, rfl⟩ := p
    rw [List.getElem?_map] at hv
    obtain ⟨b, eb, rfl⟩ := Option.map_eq_some_iff.mp hv
    obtain ⟨hi, _⟩ := List.getElem?_eq_some_iff.mp eb
    obtain ⟨u, eu⟩ : ∃ u, gs[i]? = some u := ⟨_, List.getElem?_eq_getElem (by omega)⟩
    have mu := List.mem_of_getElem? eu
    have hb := (g1.trans g) _ _ (Tg.is i b u eb eu)
    have tu := G.tn u mu
    obtain ⟨t1, t2⟩ := tn_turn5 tu n5
    refine ⟨keep_one, _, rfl, _, rfl, b, b, u, u, rfl, hb, hb, t1, by omega, fun r H5 g5 e5 => ⟨_, rfl, r, b, 0, _, _, rfl, rfl, repTn (SqT.of e5), repTn (SqT.of (g5 _ _ hb)), by decide, fun v hv5 => ⟨_, rfl, ?_⟩⟩⟩
    have hv5 : v = true ↔ u = e := (hv5.trans dt_natsT).trans (lone u mu)
    cases v with
    | true =>
      have ue := hv5.mp rfl
      subst ue
      have ij : je = i := nodup_at G.nd eje eu
      subst ij
      rw [ebe] at eb
      cases eb
      refine iteT ⟨_, rfl, g.trans g5, ?_⟩
      rw [if_neg (Nat.lt_irrefl _), if_pos (Nat.lt_succ_self _)]
      rfl
    | false =>
      refine iteF ⟨g.trans g5, ?_⟩
      have ij : je ≠ i := fun z => by
        subst z
        rw [eje] at eu
        cases eu
        exact Bool.noConfusion (hv5.mpr rfl)
      by_cases z : je < i
      · rw [if_pos z, if_pos (by omega)]
      · rw [if_neg z, if_neg (by omega)]
  obtain ⟨g2, rfl⟩ := p
  rw [List.length_map, if_pos (by omega)]
  have kl := same_new hlo (.lst [V.ref be])
  have elo : upd H' lo (.lst [V.ref be]) lo = some (.lst [V.ref be]) := upd_same
  have g3 := (g1.trans g2).trans kl
  have ed3 := kl _ _ (g2 _ _ ed)
  generalize upd H' lo (.lst [V.ref be]) = H3 at elo g3 ed3 ⊢
  have hbe := g3 _ _ (Tg.is je be e ebe eje)
  refine ⟨_, rfl, lo, _, rfl, .inl (SqL.of elo), rfl, _, rfl, ?_⟩
  rw [show (!decide (V.int (([V.ref be] : List V).length : Int) = V.int 1)) = false by simp]
  refine iteF ⟨_, rfl, d, _, rfl, ed3, _, rfl, l, _, rfl, .inl (SqL.of (g3 _ _ hl)), rfl, _, rfl, ?_⟩
  rw [show (kvS gs).length = gs.length by simp [kvS], List.length_map, lg, show (!decide (V.int (gs.length : Int) = V.int (gs.length : Int))) = false by simp]
  refine iteF ?_
  refine ⟨_, rfl, l, rfl, ⟨_, SqL.of (g3 _ _ hl)⟩, for_list (xs := gb.map .ref) (fun i σ H' => Same H3 H' ∧ ∃ o3, σ = [some (.ref l), some (.ref c), some (.ref d), o3, some (.ref lo), none, none, none]) ⟨Same.refl _, _, rfl⟩ (fun i σ H' _ p => SqL.of (p.1 _ _ (g3 _ _ hl))) (fun i v σ H' hv p => ?_) (fun σ H4 p => ?_)⟩
  · obtain ⟨g, o3, rfl⟩ := p
    rw [List.getElem?_map] at hv
    obtain ⟨b, eb, rfl⟩ := Option.map_eq_some_iff.mp hv
    obtain ⟨hi, _⟩ := List.getElem?_eq_some_iff.mp eb
    obtain ⟨u, eu⟩ : ∃ u, gs[i]? = some u := ⟨_, List.getElem?_eq_getElem (by omega)⟩
    have mu := List.mem_of_getElem? eu
    have gg := g3.trans g
    have hb := gg _ _ (Tg.is i b u eb eu)
    have tu := G.tn u mu
    obtain ⟨t1, t2⟩ := tn_turn5 tu n5
    have te := G.te
    obtain ⟨_, ue, eu2, _⟩ := Cyc.in_unit tu G.id (G.ins u mu)
    refine ⟨_, rfl, _, rfl, lo, _, _, _, rfl, rfl, SqL.of (g _ _ elo), rfl, b, be, u, e, rfl, hb, g _ _ hbe, fun x hx => by rw [te.1]; exact tu.2 x hx, by omega, fun r H5 g5 e5 => ⟨_, rfl, r, b, 0, _, _, rfl, rfl, repTn (SqT.of e5), repTn (SqT.of (g5 _ _ hb)), by decide, fun v hv5 => ⟨_, rfl, ?_⟩⟩⟩
    rw [show v = true from (hv5.trans dt_natsT).mpr ue]
    have gr5 := g.trans g5
    refine iteF ⟨_, rfl, lo, _, _, _, rfl, rfl, SqL.of (gr5 _ _ elo), rfl, _, rfl, be, b, e, u, rfl, gr5 _ _ hbe, g5 _ _ hb, fun x hx => by rw [tu.1]; exact te.2 x hx, by rw [te.1]; omega, fun r2 H6 g6 e6 => ⟨_, rfl, r2, b, 0, _, _, rfl, rfl, repTn (SqT.of e6), repTn (SqT.of (g6 _ _ (g5 _ _ hb))), by decide, fun v2 hv6 => ⟨_, rfl, ?_⟩⟩⟩
    rw [show v2 = true from (hv6.trans dt_natsT).mpr eu2]
    have gr6 := gr5.trans g6
    refine iteF ⟨_, rfl, _, rfl, lo, _, _, _, rfl, rfl, SqL.of (gr6 _ _ elo), rfl, _, rfl, b, be, d, u, e, n, gs, rfl, g6 _ _ (g5 _ _ hb), gr6 _ _ hbe, gr6 _ _ ed3, mu, G, fun H7 g7 => ⟨_, rfl, iteF ⟨gr6.trans g7, _, rfl⟩⟩⟩
  obtain ⟨g4, o3, rfl⟩ := p
  have g04 := g3.trans g4
  have gpos : 0 < gs.length := List.length_pos_of_mem G.me
  have lpos : 0 < (((gb.map V.ref).length : Nat) : Int) := by
    rw [List.length_map]
    omega
  refine ⟨_, rfl, c, rfl, ⟨_, SqL.of (g04 _ _ hc)⟩, for_list (xs := cs.map V.int) (fun i σ H' => Same H4 H' ∧ ∃ o5 o6 o7, σ = [some (.ref l), some (.ref c), some (.ref d), o3, some (.ref lo), o5, o6, o7]) ⟨Same.refl _, _, _, _, rfl⟩ (fun i σ H' _ p => SqL.of (p.1 _ _ (g04 _ _ hc))) (fun i v σ H' hv p => ?_) (fun σ H5 p => ?_)⟩
  · obtain ⟨g, o5, o6, o7, rfl⟩ := p
    rw [List.getElem?_map] at hv
    obtain ⟨z, ez, rfl⟩ := Option.map_eq_some_iff.mp hv
    have gg := g04.trans g
    have pick : ∀ y : Int, ∃ (j : Nat) (b : Addr) (u : List Nat), y % (((gb.map V.ref).length : Nat) : Int) = (j : Int) ∧ gb[j]? = some b ∧ gs[j]? = some u := fun y => by
      have h1 := Int.emod_nonneg y (b := (((gb.map V.ref).length : Nat) : Int)) (by omega)
      have h2 := Int.emod_lt_of_pos y lpos
      rw [List.length_map] at h1 h2 ⊢
      have hj : (y % ((gb.length : Nat) : Int)).toNat < gb.length := by omega
      exact ⟨(y % ((gb.length : Nat) : Int)).toNat, _, _, by omega, List.getElem?_eq_getElem hj, List.getElem?_eq_getElem (by omega)⟩
    obtain ⟨j1, b1, u1, y1, eb1, eu1⟩ := pick z
    obtain ⟨j2, b2, u2, y2, eb2, eu2⟩ := pick (z / (((gb.map V.ref).length : Nat) : Int))
    have m1 := List.mem_of_getElem? eu1
    have m2 := List.mem_of_getElem? eu2
    have t1 := G.tn u1 m1
    have t2 := G.tn u2 m2
    refine ⟨_, rfl, _, rfl, _, rfl, l, _, rfl, .inl (SqL.of (gg _ _ hl)), _, _, rfl, rfl, lpos, ?_⟩
    try dsimp only
    rw [y1]
    refine ⟨l, _, _, _, rfl, rfl, SqL.of (gg _ _ hl), atI_nat (j := j1) (v := .ref b1) (by rw [List.getElem?_map, eb1]; rfl), ?_⟩
    refine ⟨_, rfl, _, rfl, _, rfl, l, _, rfl, .inl (SqL.of (gg _ _ hl)), _, _, rfl, rfl, ⟨lpos, by rw [List.length_map]; omega⟩, _, rfl, l, _, rfl, .inl (SqL.of (gg _ _ hl)), _, _, rfl, rfl, lpos, ?_⟩
    try dsimp only
    rw [y2]
    refine ⟨l, _, _, _, rfl, rfl, SqL.of (gg _ _ hl), atI_nat (j := j2) (v := .ref b2) (by rw [List.getElem?_map, eb2]; rfl), ?_⟩
    have h1 := gg _ _ (Tg.is j1 b1 u1 eb1 eu1)
    have h2 := gg _ _ (Tg.is j2 b2 u2 eb2 eu2)
    refine ⟨_, rfl, _, rfl, b1, b2, u1, u2, rfl, h1, h2, fun x hx => by rw [t2.1]; exact t1.2 x hx, by rw [t1.1]; omega, fun r H6 g6 e6 => ?_⟩
    have hdg := DGet.t (k := nk (Cyc.beh u1 u2)) (g6 _ _ (g _ _ (g4 _ _ ed3))) (b := r) (by rw [nk_kV]; exact e6)
    rw [kvS_in (G.beh u1 m1 u2 m2)] at hdg
    exact ⟨_, rfl, d, _, rfl, hdg, _, rfl, iteF ⟨g.trans g6, _, _, _, rfl⟩⟩
  · obtain ⟨g, o5, o6, o7, rfl⟩ := p
    exact q _ (g04.trans g)
theorem ok_law {T : Addr} (F : Fun K "law" "law" sLaw f fd) (c__law_machine : Callee P w K mg base "_law_machine" 3 ["_law_script"] (spMachine K)) (c__law_all : Callee P w K mg base "_law_all" 3 ["_law_machine_here", "_law_most"] spAll)
    (c__law_refused : Callee P w K mg base "_law_refused" 14 ["_law_machine_here"] (spRefused T (⟨44, 41, 44, 91⟩ : Pos))) (cd_all_turns : CalleeDX P w K mg base "all_turns" 10 ["machine", "most"] (spAllTurns C T (⟨44, 41, 44, 91⟩ : Pos)) [nv 400]) (cd_groups : CalleeDX P w K mg base "groups" 12 ["machine", "most"] (spGroups C T (⟨44, 41, 44, 91⟩ : Pos)) [nv 400])
    (c__law_is_group : Callee P w K mg base "_law_is_group" 5 ["_law_some", "_law_cells"] (spIsGroup K)) (c__law_comes_again : Callee P w K mg base "_law_comes_again" 3 ["_law_turn_here"] spComes) (m_len : mg "len" = none) (m_max : mg "max" = none) (m_min : mg "min" = none) (m_range : mg "range" = none) : FnOk P w K mg base CX0 16 f fd ["_law_script"] (spLaw K T (⟨44, 41, 44, 91⟩ : Pos)) := by
  refine F.ok scLaw (fun vs H Q E h => ?_) (fun cdv A outer s H vs Q E hr h => ?_)
  · obtain ⟨a, ns, rfl, _⟩ := h
    rfl
  obtain ⟨a, ns, rfl, hS, h63, hT, q⟩ := h
  have hu := hr.units
  have hu1 := hu_of hr
  refine ⟨_, (pss_cons (ps_set (i := 1) scLaw.nd rfl (Or.inl rfl) (pe_callD c__law_machine (hr.mono (by decide)) rfl (pa_cons (pv 0) pa_nil))) (pss_cons (ps_if (pt_cmpR op_gt (pe_callB call_len_seq rfl m_len boot_len (pa_cons (pe_callD c__law_all (hr.mono (by decide)) rfl (pl_at (pl_cons (pv 1) (pl_cons pe_int pl_nil rfl) rfl))) pa_nil)) pe_int (nomark _)) (pss_one (ps_ret (pe_callD c__law_refused (hr.mono (by decide)) rfl (pa_cons (pv 1) pa_nil)))) pss_nil) (pss_cons (ps_set (i := 2) scLaw.nd rfl (Or.inr rfl) (pe_comp (CompSc.to (N := ["_law_script", "_law_machine_here", "_law_some", "_law_told", "_law_numbers", "_law_k"]) (osc := defScope sLaw) (vs := ["_law_turn_here", "_law_word"]) ⟨rfl, by decide +kernel, by decide +kernel, by decide +kernel, by decide +kernel, by decide +kernel, by decide +kernel⟩) rfl (pi_list (pe_callDX cd_all_turns (hr.mono (by decide)) pass1 rfl (pa_cons (pv 1) pa_nil))) (pg_own2 (CompSc.to (N := ["_law_script", "_law_machine_here", "_law_some", "_law_told", "_law_numbers", "_law_k"]) (osc := defScope sLaw) (vs := ["_law_turn_here", "_law_word"]) ⟨rfl, by decide +kernel, by decide +kernel, by decide +kernel, by decide +kernel, by decide +kernel, by decide +kernel⟩) rfl rfl rfl) (fun _ _ _ _ => pts_nil) (fun _ _ _ _ => (pv 0)))) (pss_cons (ps_set (i := 3) scLaw.nd rfl (Or.inr rfl) pe_dnewK) (pss_cons (ps_for PassesOwn.never rfl (pi_list (pe_callDX cd_groups (hr.mono (by decide)) pass1 rfl (pa_cons (pv 1) pa_nil))) (pg_name (i := 4) scLaw.nd rfl (Or.inl rfl)) (pss_cons (ps_if (PW.pt (pw_or (pt_cmpR (op_eqD hu) (pv 4) (pe_lst pa_nil) (nomark _)) (pw_or (pt_cmpR op_lt (pe_callB (call_minL rfl) rfl m_min boot_min (pa_cons (pv 4) pa_nil)) pe_int (nomark _)) (pw_or1 (pt_cmpR op_ge (pe_callB (call_maxL rfl) rfl m_max boot_max (pa_cons (pv 4) pa_nil)) (pe_callB call_len_seq rfl m_len boot_len (pa_cons (pv 2) pa_nil)) (nomark _)))))) (pss_one (ps_ret pe_bl)) pss_nil) (pss_cons (ps_if (pt_not (pt_val (pe_callD c__law_is_group (hr.mono (by decide)) rfl (pl_at (pl_cons (pe_comp1 (CompSc.to (N := ["_law_script", "_law_machine_here", "_law_some", "_law_told", "_law_numbers", "_law_k"]) (osc := defScope sLaw) (vs := ["_law_k"]) ⟨rfl, by decide +kernel, by decide +kernel, by decide +kernel, by decide +kernel, by decide +kernel, by decide +kernel⟩) rfl rfl (pi_list (pv 4)) (fun _ _ _ _ => pts_nil) (fun _ _ _ _ => (pe_ix (IxR.k (K := K) rIxL ix_list rfl) (pv 3) (pv 0) (fun _ _ => rfl)))) (pl_cons (pe_slice sl_list (pv 0) (po_some pe_int) (po_some pe_int)) pl_nil rfl) rfl))))) (pss_one (ps_ret pe_bl)) pss_nil) (pss_one (ps_for PassesOwn.never rfl (pi_list (pv 4)) (pg_name (i := 5) scLaw.nd rfl (Or.inl rfl)) (pss_cons (ps_if (pt_cmp (pc_din hu1 (pv 5) (pv 3))) (pss_one (ps_ret pe_bl)) pss_nil) (pss_one (ps_dput hu1 (pv 3) (pv 5) pe_bl rfl)))))))) (pss_one (ps_ret (pe_cmpR (op_eqD hu) (pe_comp1 (CompSc.to (N := ["_law_script", "_law_machine_here", "_law_some", "_law_told", "_law_numbers", "_law_k"]) (osc := defScope sLaw) (vs := ["_law_k"]) ⟨rfl, by decide +kernel, by decide +kernel, by decide +kernel, by decide +kernel, by decide +kernel, by decide +kernel⟩) rfl rfl (pi_range1 rfl m_range (pa_cons (pe_callB call_len_seq rfl m_len boot_len (pa_cons (pv 2) pa_nil)) pa_nil)) (fun _ _ _ _ => pts_one (pt_cmpR op_ne (pe_callD c__law_comes_again (hr.mono (by decide)) rfl (pa_cons (pe_ix (IxR.k (K := K) rIxL ix_list rfl) (pv 3) (pv 0) (fun _ _ => rfl)) pa_nil)) (pe_cmp (pc_din hu1 (pv 0) (pv 4))) (nomark _))) (fun _ _ _ _ => (pv 0))) (pe_lst pa_nil) (nomark _))))))))), ?_⟩
  refine ⟨_, rfl, a, ns, rfl, hS, fun m H1 g1 M => ?_⟩
  generalize hts : machF ns = ts at M
  generalize hn : (1 + ns.getD 0 0 % 5).toNat = n at M
  have hT1 := g1 _ _ hT
  have hS1 := g1.seq hS
  have n5 := M.n5
  have n1 := M.n1
  refine ⟨_, rfl, m, ts, n, 400, rfl, M, Nat.le_refl _, fun l0 ps0 ws0 H2 g2 Pi0 kn run told => ?_⟩
  obtain ⟨hl0, lps0, _⟩ := id Pi0
  refine ⟨l0, _, rfl, .inl (SqL.of hl0), _, _, rfl, rfl, _, rfl, ite2 (fun c2 => ?_) (fun c2 => ?_)⟩
  · have lt : 400 < ws0.length := by
      have := of_decide_eq_true c2
      rw [List.length_map, lps0] at this
      omega
    exact ⟨_, rfl, m, ts, n, ws0, rfl, M.same g2, .inl (g2 _ _ hT1), kn, run, lt, q⟩
  have le0 : ws0.length ≤ 400 := by
    have : ¬ (400 : Int) < ((ps0.map V.ref).length : Int) := fun z => c2 (decide_eq_true z)
    rw [List.length_map, lps0] at this
    omega
  have TT0 := told le0
  refine ⟨_, rfl, m, ts, n, 400, rfl, M.same g2, Nat.le_refl _, .inl (g2 _ _ hT1), fun l ps ws H3 k3 T3 Pi TT le => ?_, fun vs H7 dx _ _ _ kn6 run6 lt => absurd (told_few TT0 kn6 run6) (by omega)⟩
  have ews : ws = ws0 := TT.uniq TT0
  subst ews
  obtain ⟨hl, lps, each⟩ := id Pi
  have inU : ∀ u ∈ ws.map (·.1), Cyc.Tn n u := fun u hu => by
    obtain ⟨r, hr1, rfl⟩ := List.mem_map.mp hu
    obtain ⟨r1, r2⟩ := TT.run r hr1
    have z := goes_in (range_mapsU n) M.steps r.2 r1
    rw [r2] at z
    exact tn_of z
  refine ⟨l, rfl, ⟨_, SqL.of hl⟩, comp_list (xs := ps.map .ref) (fun i ys H' => H' = H3 ∧ ∃ bs : List Addr, ys = bs.map V.ref ∧ bs.length = i ∧ ∀ (j : Nat) b u, bs[j]? = some b → (ws.map (·.1))[j]? = some u → H3 b = some (.tup (u.map nv))) (by rw [List.length_map, lps, sizeLine_eq]; omega) ⟨rfl, [], rfl, rfl, fun j b u e => by simp at e⟩ (fun i ys H' _ p => ?_) (fun i v ys H' hv p => ?_) (fun ys H' p so hso => ?_)⟩
  · obtain ⟨rfl, bs, rfl, e, _⟩ := p
    exact ⟨SqL.of hl, by rw [List.length_map]; omega⟩
  · obtain ⟨rfl, bs, rfl, lb, ok⟩ := p
    rw [List.getElem?_map] at hv
    obtain ⟨a1, ea, rfl⟩ := Option.map_eq_some_iff.mp hv
    obtain ⟨hi, _⟩ := List.getElem?_eq_some_iff.mp ea
    obtain ⟨r, er⟩ : ∃ r, ws[i]? = some r := ⟨_, List.getElem?_eq_getElem (by omega)⟩
    obtain ⟨b, c, _, f1, f2, f3⟩ := each i a1 r ea er
    refine ⟨a1, _, rfl, SqT.of f1, rfl, _, _, rfl, _, _, rfl, rfl, keep_two, yes_of ⟨_, rfl, rfl, bs ++ [b], by simp, by simp [lb], fun j a u e3 e4 => ?_⟩⟩
    by_cases hj : j < i
    · rw [List.getElem?_append_left (by omega)] at e3
      exact ok j a u e3 e4
    · have hji : j = i := by
        have := (List.getElem?_eq_some_iff.mp e3).1
        rw [List.length_append, lb] at this
        have : j < i + 1 := this
        omega
      subst hji
      rw [List.getElem?_append_right (by omega), lb, Nat.sub_self] at e3
      cases e3
      rw [List.getElem?_map, er] at e4
      cases e4
      exact f2
  obtain ⟨rfl, bs, rfl, lb, ok⟩ := p
  rw [List.length_map, lps] at lb
  have ks := same_new hso (.lst (bs.map V.ref))
  have eso : upd H' so (.lst (bs.map V.ref)) so = some (.lst (bs.map V.ref)) := upd_same
  have Tu : TupsAt (upd H' so (.lst (bs.map V.ref))) bs (ws.map (·.1)) := ⟨by rw [lb, List.length_map], fun j b u e1 e2 => ks _ _ (ok j b u e1 e2)⟩
  have k4 := k3.trans ks.keeps
  have T4 := T3.same ks
  generalize upd H' so (.lst (bs.map V.ref)) = H4 at eso Tu k4 T4 ⊢
  generalize hus : ws.map (·.1) = us at inU Tu
  have lus : us.length = ws.length := by rw [← hus, List.length_map]
  have ndu : us.Nodup := by rw [← hus]; exact TT.keys
  have nde : (dbls us).Nodup := List.Nodup.sublist List.filter_sublist ndu
  have cl : ∀ u ∈ us, ∀ v ∈ us, Cyc.beh u v ∈ us := fun u hu v hv => by rw [← hus] at hu hv ⊢; exact told_beh M.each TT hu hv
  have cp : ∀ u ∈ us, ∀ k, 1 ≤ k → Cyc.pw u k ∈ us := fun u hu k hk => by rw [← hus] at hu ⊢; exact told_pw M.each TT hu k hk
  refine fun d hd => ?_
  have kd := same_new hd (.dK [])
  have M5 : Mach (upd H4 d (.dK [])) m ts n := ((M.same g2).keeps k4).same kd
  have T5 := T4.same kd
  have ed5 : upd H4 d (.dK []) d = some (.dK []) := upd_same
  have eso5 := kd _ _ eso
  have Tu5 := Tu.same kd
  have hS5 : SqL K (upd H4 d (.dK [])) a (ns.map V.int) := kd.seq ((g2.seq hS1).keeps k4)
  generalize upd H4 d (.dK []) = H5 at M5 T5 ed5 eso5 Tu5 hS5 ⊢
  refine ⟨_, rfl, m, ts, n, 400, rfl, M5, Nat.le_refl _, T5, fun fo ls vs H6 k6 T6 nfo nls nin Gf TT6 le6 => ?_, fun vs H7 dx _ _ _ kn6 run6 lt => absurd (told_few TT kn6 run6) (by omega)⟩
  have evs : vs = ws := TT6.uniq TT
  subst evs
  rw [hus] at Gf
  have at6 : ∀ {b : Addr} {o : HO}, H5 b = some o → (∀ ps, o ≠ .tbl ps) → H6 b = some o := fun e nt => k6 _ _ (noT_at e nt)
  have ed6 := at6 ed5 fun _ e => nomatch e
  have eso6 := at6 eso5 fun _ e => nomatch e
  have Tu6 : TupsAt H6 bs us := ⟨Tu5.len, fun i b u e1 e2 => at6 (Tu5.is i b u e1 e2) fun _ e => nomatch e⟩
  have hS6 := hS5.keeps k6
  obtain ⟨hfo, lls, eachl⟩ := id Gf
  have dl := dbls_len (us := us)
  have lbs := Tu.len
  have dfo : fo ≠ d := fun z => by
    have y := noT_at ed5 fun _ e => nomatch e
    rw [← z, nfo] at y
    cases y
  -- of one group
  have grp : ∀ (j : Nat) (e : List Nat), (dbls us)[j]? = some e → Grp n ((Cyc.gp us e us.length).map fun k => us.getD k []) e := fun j e ee => by
    have me := List.mem_filter.mp (List.mem_of_getElem? ee)
    have ie : Cyc.Idem e := of_decide_eq_true me.2
    have te := inU e me.1
    have mg : ∀ t, t ∈ ((Cyc.gp us e us.length).map fun k => us.getD k []) ↔ t ∈ us ∧ Cyc.In t e := fun t => by
      rw [List.mem_map]
      constructor
      · rintro ⟨k, hk, rfl⟩
        obtain ⟨h1, h2⟩ := Cyc.mem_gp.mp hk
        refine ⟨?_, h2⟩
        rw [List.getD_eq_getElem?_getD, List.getElem?_eq_getElem h1]
        exact List.getElem_mem h1
      · rintro ⟨h1, h2⟩
        obtain ⟨k, ek⟩ := List.getElem?_of_mem h1
        have ed : us.getD k [] = t := by rw [List.getD_eq_getElem?_getD, ek]; rfl
        exact ⟨k, Cyc.mem_gp.mpr ⟨(List.getElem?_eq_some_iff.mp ek).1, by rw [ed]; exact h2⟩, ed⟩
    have ins : ∀ t, t ∈ us → Cyc.In t e → ∀ k, 1 ≤ k → Cyc.In (Cyc.pw t k) e := fun t h1 h2 k hk => Cyc.unit_in ie te (Cyc.unit_pw ie te (Cyc.in_unit (inU t h1) ie h2) k hk)
    refine ⟨n1, n5, ?_, fun t ht => inU t ((mg t).mp ht).1, te, ie, (mg e).mpr ⟨me.1, ⟨1, Nat.le_refl _, ?_⟩, 1, Nat.le_refl _, Cyc.pw_one e⟩, fun t ht => ((mg t).mp ht).2, fun t ht k hk => (mg _).mpr ⟨cp t ((mg t).mp ht).1 k hk, ins t ((mg t).mp ht).1 ((mg t).mp ht).2 k hk⟩, fun t ht v hv => (mg _).mpr ⟨cl t ((mg t).mp ht).1 v ((mg v).mp hv).1, Cyc.in_beh (inU t ((mg t).mp ht).1) (inU v ((mg v).mp hv).1) te ie ((mg t).mp ht).2 ((mg v).mp hv).2⟩, ?_⟩
    · unfold Cyc.gp
      refine List.Pairwise.map _ (R := fun k j => k < us.length ∧ j < us.length ∧ k ≠ j) (fun k j h z => ?_) ?_
      · obtain ⟨h1, h2, h3⟩ := h
        rw [List.getD_eq_getElem?_getD, List.getD_eq_getElem?_getD, List.getElem?_eq_getElem h1, List.getElem?_eq_getElem h2] at z
        exact h3 (nodup_at ndu (List.getElem?_eq_getElem h1) (by rw [List.getElem?_eq_getElem h2]; exact congrArg some z.symm))
      · refine List.Pairwise.sublist List.filter_sublist ?_
        refine List.pairwise_iff_getElem.mpr fun i j hi hj ij => ?_
        rw [List.getElem_range, List.getElem_range]
        rw [List.length_range] at hi hj
        exact ⟨hi, hj, by omega⟩
    · show Cyc.beh (Cyc.pw e 1) e = e
      rw [Cyc.pw_one]
      exact ie
    · have := Cyc.gp_le (us := us) (e := e) us.length
      rw [List.length_map]
      omega
  -- which numbers are told
  let Kn : Nat → Nat → List (Key × V) → Prop := fun j i kvs => kvs.length ≤ 401 * j + i ∧ ∀ k : Nat, (valV kvs (Sum.inl (k : Int))).isSome = true ↔ (∃ j' e, j' < j ∧ (dbls us)[j']? = some e ∧ k ∈ Cyc.gp us e us.length) ∨ ∃ e, (dbls us)[j]? = some e ∧ k ∈ (Cyc.gp us e us.length).take i
  let I1 : Nat → L2.St → Hp → Prop := fun j σ H' => ∃ (kvs : List (Key × V)) (o6 o7 : Option V), (∀ b o, b ≠ d → H6 b = some o → H' b = some o) ∧ H' d = some (.dK kvs) ∧ Kn j 0 kvs ∧ σ = [some (.ref a), some (.ref m), some (.ref so), some (.ref d), o6, o7]
  have rise : ∀ e : List Nat, (Cyc.gp us e us.length).Nodup := fun e => by
    unfold Cyc.gp
    exact List.Nodup.sublist List.filter_sublist List.nodup_range
  refine ⟨fo, rfl, ⟨_, SqL.of hfo⟩, for_list (xs := ls.map .ref) I1 ⟨[], _, _, fun b o _ e => e, ed6, ⟨Nat.zero_le _, fun k => ⟨(fun z => nomatch z), fun z => ?_⟩⟩, rfl⟩ (fun j σ H' _ p => ?_) (fun j v σ H' hv p => ?_) (fun σ H9 p => ?_)⟩
  · rcases z with ⟨j', e, h1, _⟩ | ⟨e, _, h2⟩
    · exact absurd h1 (Nat.not_lt_zero _)
    · simp at h2
  · obtain ⟨kvs, o6, o7, off, _⟩ := p
    exact SqL.of (off _ _ dfo hfo)
  · obtain ⟨kvs, o6, o7, off, ed, kn2, rfl⟩ := p
    rw [List.getElem?_map] at hv
    obtain ⟨b, eb, rfl⟩ := Option.map_eq_some_iff.mp hv
    obtain ⟨hj, _⟩ := List.getElem?_eq_some_iff.mp eb
    obtain ⟨e, ee⟩ : ∃ e, (dbls us)[j]? = some e := ⟨_, List.getElem?_eq_getElem (by omega)⟩
    have G := grp j e ee
    have hb6 := eachl j b e eb ee
    have db : b ≠ d := ne_of hb6 ed6 fun z => nomatch z
    have dso : so ≠ d := ne_of eso6 ed6 fun z => nomatch z
    have hb := off _ _ db hb6
    have hso := off _ _ dso eso6
    have gl := Cyc.gp_le (us := us) (e := e) us.length
    have lt : ∀ k ∈ Cyc.gp us e us.length, k < us.length := fun k hk => (Cyc.mem_gp.mp hk).1
    have mem0 : Cyc.gp us e us.length ≠ [] := fun z => by
      have := G.me
      rw [z] at this
      cases this
    have rz := rise e
    have others : ∀ k ∈ Cyc.gp us e us.length, ∀ j' e', (dbls us)[j']? = some e' → k ∈ Cyc.gp us e' us.length → j' = j := fun k hk j' e' h1 h2 => by
      have k1 := Cyc.mem_gp.mp hk
      have k2 := Cyc.mem_gp.mp h2
      have tk : Cyc.Tn n (us.getD k []) := inU _ (by rw [List.getD_eq_getElem?_getD, List.getElem?_eq_getElem k1.1]; exact List.getElem_mem k1.1)
      have z := Cyc.in_uniq tk (of_decide_eq_true (List.mem_filter.mp (List.mem_of_getElem? h1)).2) G.id k2.2 k1.2
      subst z
      exact nodup_at nde h1 ee
    generalize hxs : Cyc.gp us e us.length = xs at hb gl lt mem0 rz others
    rw [hxs] at G
    have hbi : H' b = some (.lst ((xs.map fun (n : Nat) => (n : Int)).map V.int)) := by rw [← nv_ints]; exact hb
    have nei : (xs.map fun (n : Nat) => (n : Int)) ≠ [] := fun z => mem0 (List.map_eq_nil_iff.mp z)
    refine ⟨_, rfl, (by show 0 ≤ sizeLine; decide), fun l2 hl2 => ⟨b, l2, 0, _, _, rfl, rfl, repLn (SqL.of (same_new hl2 _ _ _ hb)), repLn (is := []) (SqL.of upd_same), by decide, fun v hv => ⟨_, rfl, ?_⟩⟩⟩
    have ev : v = false := by
      cases v with
      | false => rfl
      | true => exact absurd (dt_nats.mp (hv.mp rfl)) mem0
    subst ev
    have k2 := same_new hl2 (.lst [])
    have ed2 := k2 _ _ ed
    have off2 : ∀ b o, b ≠ d → H6 b = some o → upd H' l2 (.lst []) b = some o := fun b o n e => k2 _ _ (off b o n e)
    have hb2 := k2 _ _ hb
    have hbi2 := k2 _ _ hbi
    have hso2 := k2 _ _ hso
    generalize upd H' l2 (.lst []) = H7 at ed2 off2 hb2 hbi2 hso2 ⊢
    refine iteF ⟨_, rfl, b, _, rfl, SqL.of hbi2, nei, fun M1 hM1 _ => ⟨_, _, rfl, rfl, _, rfl, ite2 (fun c1 => ?_) (fun c1 => ⟨_, rfl, b, _, rfl, SqL.of hbi2, nei, fun M2 hM2 _ => ⟨_, rfl, so, _, rfl, .inl (SqL.of hso2), _, _, rfl, rfl, _, rfl, ite2 (fun c3 => ?_) (fun c3 => ?_)⟩⟩)⟩⟩
    · obtain ⟨k, hk, rfl⟩ := List.mem_map.mp hM1
      have := of_decide_eq_true c1
      omega
    · obtain ⟨k, hk, rfl⟩ := List.mem_map.mp hM2
      have z := of_decide_eq_true c3
      have := lt k hk
      rw [List.length_map, lbs] at z
      omega
    refine ⟨_, rfl, b, rfl, ⟨_, SqL.of hb2⟩, map_list (f := fun v => match v with | .int i => V.ref (bs.getD i.toNat 0) | v => v) (by rw [List.length_map, sizeLine_eq]; omega) (SqL.of hb2) (fun v Q hv q => ?_) (fun gl hgl => ?_)⟩
    · obtain ⟨k, hk, rfl⟩ := List.mem_map.mp hv
      have hk' := lt k hk
      refine ⟨_, rfl, _, rfl, so, _, _, _, rfl, rfl, SqL.of hso2, atI_nat (j := k) (v := .ref (bs.getD k 0)) ?_, q⟩
      rw [List.getElem?_map, List.getElem?_eq_getElem (by omega), List.getD_eq_getElem?_getD, List.getElem?_eq_getElem (by omega)]
      rfl
    have egl : (xs.map nv).map (fun v => match v with | .int i => V.ref (bs.getD i.toNat 0) | v => v) = (xs.map fun k => bs.getD k 0).map V.ref := by
      rw [List.map_map, List.map_map]
      rfl
    rw [egl]
    have k3 := same_new hgl (.lst ((xs.map fun k => bs.getD k 0).map V.ref))
    have eg : upd H7 gl (.lst ((xs.map fun k => bs.getD k 0).map V.ref)) gl = some (.lst ((xs.map fun k => bs.getD k 0).map V.ref)) := upd_same
    have ed3 := k3 _ _ ed2
    have off3 : ∀ b o, b ≠ d → H6 b = some o → upd H7 gl (.lst ((xs.map fun k => bs.getD k 0).map V.ref)) b = some o := fun b o n e => k3 _ _ (off2 b o n e)
    have hb3 := k3 _ _ hb2
    generalize upd H7 gl (.lst ((xs.map fun k => bs.getD k 0).map V.ref)) = H8 at eg ed3 off3 hb3 ⊢
    have hS8 : SqL K H8 a (ns.map V.int) := by
      rcases hS6 with (h | ⟨o, h⟩) | h
      · exact .inl (.inl (off3 _ _ (ne_of h ed6 fun e => nomatch e) h))
      · exact .inl (.inr ⟨o, off3 _ _ (ne_of h ed6 fun e => nomatch e) h⟩)
      · exact .inr h
    have Tg8 : TupsAt H8 (xs.map fun k => bs.getD k 0) (xs.map fun k => us.getD k []) := ⟨by simp, fun i b' u' e1 e2 => by
      rw [List.getElem?_map] at e1 e2
      obtain ⟨k, ek, rfl⟩ := Option.map_eq_some_iff.mp e1
      rw [ek] at e2
      cases e2
      have hk := lt k (List.mem_of_getElem? ek)
      have z := Tu6.is k (bs.getD k 0) (us.getD k []) (by rw [List.getD_eq_getElem?_getD, List.getElem?_eq_getElem (by omega)]; rfl) (by rw [List.getD_eq_getElem?_getD, List.getElem?_eq_getElem hk]; rfl)
      exact off3 _ _ (ne_of z ed6 fun e => nomatch e) z⟩
    refine ⟨_, rfl, _, rfl, _, rfl, a, _, rfl, hS8, fun sl hsl => ?_⟩
    have k4 := same_new hsl (.lst (cutV (ns.map V.int) (some 6) (some 36)))
    obtain ⟨cs, ecs⟩ : ∃ cs : List Int, cutV (ns.map V.int) (some 6) (some 36) = cs.map V.int := by
      unfold cutV
      exact ⟨_, by rw [← List.map_drop, ← List.map_take]⟩
    rw [ecs] at k4 ⊢
    refine ⟨gl, sl, _, cs, e, n, _, rfl, k4 _ _ eg, upd_same, Tg8.same k4, G, fun H10 g10 => ⟨_, rfl, iteF ?_⟩⟩
    have k5 := k4.trans g10
    have hb10 := k5 _ _ hb3
    let I2 : Nat → L2.St → Hp → Prop := fun i σ H' => ∃ (kvs : List (Key × V)) (o7 : Option V), (∀ b o, b ≠ d → H6 b = some o → H' b = some o) ∧ H' d = some (.dK kvs) ∧ H' b = some (.lst (xs.map nv)) ∧ Kn j i kvs ∧ σ = [some (.ref a), some (.ref m), some (.ref so), some (.ref d), some (.ref b), o7]
    refine ⟨_, rfl, b, rfl, ⟨_, SqL.of hb10⟩, for_list (xs := xs.map nv) I2 ⟨kvs, _, fun b o n e => k5 _ _ (off3 b o n e), k5 _ _ ed3, hb10, kn2, rfl⟩ (fun i σ H' _ p => ?_) (fun i v σ H' hv p => ?_) (fun σ H11 p => ?_)⟩
    · obtain ⟨_, _, _, _, hb', _⟩ := p
      exact SqL.of hb'
    · obtain ⟨kvs, o7, off', ed', hb', kn', rfl⟩ := p
      obtain ⟨kl, ki⟩ := id kn'
      rw [List.getElem?_map] at hv
      obtain ⟨k, ek, rfl⟩ := Option.map_eq_some_iff.mp hv
      obtain ⟨hi, _⟩ := List.getElem?_eq_some_iff.mp ek
      have mk := List.mem_of_getElem? ek
      have none1 : valV kvs (Sum.inl (k : Int)) = none := by
        cases z : valV kvs (Sum.inl (k : Int)) with
        | none => rfl
        | some v =>
          have y := (ki k).mp (by rw [z]; rfl)
          rcases y with ⟨j', e', h1, h2, h3⟩ | ⟨e', h2, h3⟩
          · exact absurd (others k mk j' e' h2 h3) (by omega)
          · rw [ee] at h2
            cases h2
            rw [hxs] at h3
            obtain ⟨i', ei'⟩ := List.getElem?_of_mem h3
            rw [List.getElem?_take] at ei'
            split at ei'
            · next hi' => exact absurd (nodup_at rz ei' ek) (by omega)
            · cases ei'
      have hdg := DGet.k (k := Sum.inl (k : Int)) ed'
      rw [none1] at hdg
      refine ⟨_, rfl, _, rfl, d, _, rfl, hdg, _, rfl, iteF ?_⟩
      refine ⟨_, rfl, _, rfl, d, _, rfl, DPut.k (k := Sum.inl (k : Int)) ed' (by rw [sizeLine_eq]; omega), ?_⟩
      refine ⟨_, _, fun b' o n' e' => by rw [upd_ne n']; exact off' b' o n' e', upd_same, by rw [upd_ne db]; exact hb', ⟨?_, fun k' => ?_⟩, rfl⟩
      · rw [putK_new _ none1, List.length_append, List.length_singleton]
        omega
      · rw [valV_put]
        by_cases z : k' = k
        · subst z
          rw [if_pos rfl]
          refine ⟨fun _ => .inr ⟨e, ee, ?_⟩, fun _ => rfl⟩
          rw [hxs, List.take_add_one, ek]
          exact List.mem_append.mpr (.inr (List.mem_singleton.mpr rfl))
        · rw [if_neg (fun y => z (by injection y with y; omega)), ki k']
          constructor
          · rintro (h | ⟨e', h2, h3⟩)
            · exact .inl h
            · rw [ee] at h2
              cases h2
              refine .inr ⟨e, ee, ?_⟩
              rw [hxs] at h3 ⊢
              rw [List.take_add_one]
              exact List.mem_append.mpr (.inl h3)
          · rintro (h | ⟨e', h2, h3⟩)
            · exact .inl h
            · rw [ee] at h2
              cases h2
              refine .inr ⟨e, ee, ?_⟩
              rw [hxs] at h3 ⊢
              rw [List.take_add_one, ek] at h3
              rcases List.mem_append.mp h3 with y | y
              · exact y
              · exact absurd (List.mem_singleton.mp y) z
    · obtain ⟨kvs, o7, off', ed', hb', kn', rfl⟩ := p
      obtain ⟨kl, ki⟩ := id kn'
      rw [List.length_map] at kl ki
      refine ⟨kvs, _, _, off', ed', ⟨by omega, fun k => ?_⟩, rfl⟩
      rw [ki k]
      constructor
      · rintro (⟨j', e', h1, h2, h3⟩ | ⟨e', h2, h3⟩)
        · exact .inl ⟨j', e', by omega, h2, h3⟩
        · exact .inl ⟨j, e', Nat.lt_succ_self _, h2, List.mem_of_mem_take h3⟩
      · rintro (⟨j', e', h1, h2, h3⟩ | ⟨e', h2, h3⟩)
        · by_cases z : j' = j
          · subst z
            refine .inr ⟨e', h2, ?_⟩
            rw [ee] at h2
            cases h2
            rw [hxs] at h3 ⊢
            rw [List.take_length]
            exact h3
          · exact .inl ⟨j', e', by omega, h2, h3⟩
        · simp at h3
  obtain ⟨kvs, o6, o7, off, ed, ⟨_, ki⟩, rfl⟩ := p
  rw [List.length_map, lls] at ki
  have dso : so ≠ d := ne_of eso6 ed6 fun z => nomatch z
  have hso := off _ _ dso eso6
  have known : ∀ (k : Nat) (u : List Nat), us[k]? = some u → ((valV kvs (Sum.inl (k : Int))).isSome = true ↔ Cyc.Again u) := fun k u eu => by
    have hd : us.getD k [] = u := by rw [List.getD_eq_getElem?_getD, eu]; rfl
    have hk := (List.getElem?_eq_some_iff.mp eu).1
    rw [ki k]
    constructor
    · rintro (⟨j', e', h1, h2, h3⟩ | ⟨e', h2, h3⟩)
      · have z := (Cyc.mem_gp.mp h3).2.1
        rw [hd] at z
        exact z
      · simp at h3
    · intro ag
      have tu := inU u (List.mem_of_getElem? eu)
      obtain ⟨b, c, R, _⟩ := Cyc.ring_of tu.turn
      have ie := Cyc.idem_ex tu R
      have hp := R.pos
      have hm : c * (b + 1) ≥ b + 1 := Nat.le_mul_of_pos_left _ hp
      have me : Cyc.pw u (c * (b + 1)) ∈ dbls us := List.mem_filter.mpr ⟨cp u (List.mem_of_getElem? eu) _ (by omega), decide_eq_true ie⟩
      obtain ⟨j', ej'⟩ := List.getElem?_of_mem me
      exact .inl ⟨j', _, (List.getElem?_eq_some_iff.mp ej').1, ej', Cyc.mem_gp.mpr ⟨hk, by rw [hd]; exact ⟨ag, _, by omega, rfl⟩⟩⟩
  refine ⟨_, rfl, so, _, rfl, .inl (SqL.of hso), (us.length : Int), by rw [List.length_map, lbs], by omega, by omega, comp_range (fun i ys H' => Same H9 H' ∧ ys = []) (small (by omega)) ⟨Same.refl _, rfl⟩ (fun i ys H' _ p => by rw [p.2]; exact Nat.zero_le _) (fun i ys H' hi p => ?_) (fun ys H' p l3 hl3 => ?_)⟩
  · obtain ⟨g, rfl⟩ := p
    have hi' : i < us.length := by simpa using hi
    have zi : V.int ((0 : Int) + ((i : Nat) : Int)) = nv i := by show V.int (0 + (i : Int)) = V.int (i : Int); rw [Int.zero_add]
    rw [zi]
    obtain ⟨u, eu⟩ : ∃ u, us[i]? = some u := ⟨_, List.getElem?_eq_getElem hi'⟩
    obtain ⟨b, eb⟩ : ∃ b, bs[i]? = some b := ⟨_, List.getElem?_eq_getElem (by omega)⟩
    have hb6 := Tu6.is i b u eb eu
    have hb := g _ _ (off _ _ (ne_of hb6 ed6 fun e => nomatch e) hb6)
    refine ⟨keep_one, _, rfl, _, rfl, so, _, _, _, rfl, rfl, SqL.of (g _ _ hso), atI_nat (j := i) (v := .ref b) (by rw [List.getElem?_map, eb]; rfl), b, u, n, rfl, hb, inU u (List.mem_of_getElem? eu), n1, n5, fun v H12 g12 hv => ?_⟩
    have hdg := DGet.k (k := Sum.inl (i : Int)) (g12 _ _ (g _ _ ed))
    refine ⟨_, rfl, _, rfl, d, _, rfl, hdg, rfl, _, rfl, ?_⟩
    have ev : v = (valV kvs (Sum.inl (i : Int))).isSome := Bool.eq_iff_iff.mpr (hv.trans (known i u eu).symm)
    rw [ev, show (!decide (V.bl (valV kvs (Sum.inl (i : Int))).isSome = V.bl (valV kvs (Sum.inl (i : Int))).isSome)) = false by simp]
    exact iteF ⟨g.trans g12, rfl⟩
  · obtain ⟨g, rfl⟩ := p
    have k3 := same_new hl3 (.lst [])
    refine ⟨(by show 0 ≤ sizeLine; decide), fun l4 hl4 => ?_⟩
    have k4 := same_new hl4 (.lst [])
    refine ⟨l3, l4, 0, _, _, rfl, rfl, repLn (is := []) (SqL.of (k4 _ _ upd_same)), repLn (is := []) (SqL.of upd_same), by decide, fun v hv => ?_⟩
    rw [show v = true from hv.mpr rfl]
    exact q _
end
theorem ln1 {α : Type} {P : List α → Prop} (h : ∀ a0, P [a0]) : ∀ us : List α, us.length = 1 → P us
  | [a0], _ => h a0
theorem ln2 {α : Type} {P : List α → Prop} (h : ∀ a0 a1, P [a0, a1]) : ∀ us : List α, us.length = 2 → P us
  | [a0, a1], _ => h a0 a1
theorem ln3 {α : Type} {P : List α → Prop} (h : ∀ a0 a1 a2, P [a0, a1, a2]) : ∀ us : List α, us.length = 3 → P us
  | [a0, a1, a2], _ => h a0 a1 a2
theorem ln4 {α : Type} {P : List α → Prop} (h : ∀ a0 a1 a2 a3, P [a0, a1, a2, a3]) : ∀ us : List α, us.length = 4 → P us
  | [a0, a1, a2, a3], _ => h a0 a1 a2 a3
set_option maxHeartbeats 0 in
theorem all_mk {l : PySem.W.OpenLaw} {w : World} {K : PySem.W.Frag} {h : Heap} {mg : Str → Option Value} {fa f1 f2 f3 f4 f5 f6 f7 f8 f9 f10 f11 f12 f13 f14 f15 f16 f17 f18 f19 f20 dD2 dD6 dD10 cL6 T : Addr} (X : K.In h) (G : h.Ns mainGlobals mg) (hfa : mg "law" = some (.ref fa))
    {od1 an1 od2 an2 od3 an3 od4 an4 od5 an5 od6 an6 od7 an7 od8 an8 od9 an9 od10 an10 od11 an11 od12 an12 od13 an13 od14 an14 od15 an15 od16 an16 od17 an17 od18 an18 od19 an19 od20 an20 : Option Addr} {sl1 sl2 sl3 sl4 sl5 sl6 sl7 sl8 sl9 sl10 sl11 sl12 sl13 sl14 sl15 sl16 sl17 sl18 sl19 sl20 : Array (Option Value)} {oc1 kV1 dc1 pm1 cd1 ct1 oc2 kV2 dc2 pm2 cd2 ct2 oc3 kV3 dc3 pm3 cd3 ct3 oc4 kV4 dc4 pm4 cd4 ct4 oc5 kV5 dc5 pm5 cd5 ct5 oc6 kV6 dc6 pm6 ct6 oc7 kV7 dc7 pm7 cd7 ct7 oc8 kV8 dc8 pm8 cd8 ct8 oc9 kV9 dc9 pm9 cd9 ct9 oc10 kV10 dc10 pm10 cd10 ct10 oc11 kV11 dc11 pm11 cd11 ct11 oc12 kV12 dc12 pm12 cd12 ct12 oc13 kV13 dc13 pm13 cd13 ct13 oc14 kV14 dc14 pm14 cd14 ct14 oc15 kV15 dc15 pm15 cd15 ct15 oc16 kV16 dc16 pm16 cd16 ct16 oc17 kV17 dc17 pm17 cd17 ct17 oc18 kV18 dc18 pm18 cd18 ct18 oc19 kV19 dc19 pm19 cd19 ct19 oc20 kV20 dc20 pm20 cd20 ct20 : Value} {oD2 : Obj} {nD2 : Nat} {oD6 : Obj} {nD6 : Nat} {tD6 : Tok} {oD10 : Obj} {nD10 : Nat} {tD10 : Tok}
    (a1 : PySem.W.nsIn K mainGlobals "refuse_more" = some (some (.ref f1))) (l1 : K.lookup f1 = some ⟨oc1, od1, .func (PySem.W.fnOf "refuse_more" "refuse_more" (defArgs sRefuseMore) (defBody sRefuseMore) (defScope sRefuseMore) .none kV1 dc1 pm1 an1 cd1 ct1), sl1⟩) (c1 : PySem.W.codeIn K cd1 "refuse_more" = true) (k1 : PySem.W.keepIn K (.ref f1) = true)
    (a2 : PySem.W.nsIn K mainGlobals "reached" = some (some (.ref f2))) (l2 : K.lookup f2 = some ⟨oc2, od2, .func (PySem.W.fnOf "reached" "reached" (defArgs sReached) (defBody sReached) (defScope sReached) (.ref dD2) kV2 dc2 pm2 an2 cd2 ct2), sl2⟩) (c2 : PySem.W.codeIn K cd2 "reached" = true) (k2 : PySem.W.keepIn K (.ref f2) = true)
    (lD2 : K.lookup dD2 = some oD2) (qD2 : oD2.data = .seq ([.none] : List Value).toArray nD2)
    (a3 : PySem.W.nsIn K mainGlobals "still" = some (some (.ref f3))) (l3 : K.lookup f3 = some ⟨oc3, od3, .func (PySem.W.fnOf "still" "still" (defArgs sStill) (defBody sStill) (defScope sStill) .none kV3 dc3 pm3 an3 cd3 ct3), sl3⟩) (c3 : PySem.W.codeIn K cd3 "still" = true) (k3 : PySem.W.keepIn K (.ref f3) = true)
    (a4 : PySem.W.nsIn K mainGlobals "behind" = some (some (.ref f4))) (l4 : K.lookup f4 = some ⟨oc4, od4, .func (PySem.W.fnOf "behind" "behind" (defArgs sBehind) (defBody sBehind) (defScope sBehind) .none kV4 dc4 pm4 an4 cd4 ct4), sl4⟩) (c4 : PySem.W.codeIn K cd4 "behind" = true) (k4 : PySem.W.keepIn K (.ref f4) = true)
    (a5 : PySem.W.nsIn K mainGlobals "rest_of" = some (some (.ref f5))) (l5 : K.lookup f5 = some ⟨oc5, od5, .func (PySem.W.fnOf "rest_of" "rest_of" (defArgs sRestOf) (defBody sRestOf) (defScope sRestOf) .none kV5 dc5 pm5 an5 cd5 ct5), sl5⟩) (c5 : PySem.W.codeIn K cd5 "rest_of" = true) (k5 : PySem.W.keepIn K (.ref f5) = true)
    (a6 : PySem.W.nsIn K mainGlobals "all_turns" = some (some (.ref f6))) (l6 : K.lookup f6 = some ⟨oc6, od6, .func (PySem.W.fnOf "all_turns" "all_turns" (defArgs sAllTurns) (defBody sAllTurns) (defScope sAllTurns) (.ref dD6) kV6 dc6 pm6 an6 (.ref cL6) ct6), sl6⟩) (c6 : PySem.W.codeIn K (.ref cL6) "all_turns" = true) (k6 : PySem.W.keepIn K (.ref f6) = true)
    (lD6 : K.lookup dD6 = some oD6) (qD6 : oD6.data = .seq ([.int 400 tD6] : List Value).toArray nD6)
    (hd6 : PySem.W.codeHdIn K cL6 T = true)
    (a7 : PySem.W.nsIn K mainGlobals "is_own_double" = some (some (.ref f7))) (l7 : K.lookup f7 = some ⟨oc7, od7, .func (PySem.W.fnOf "is_own_double" "is_own_double" (defArgs sIsOwnDouble) (defBody sIsOwnDouble) (defScope sIsOwnDouble) .none kV7 dc7 pm7 an7 cd7 ct7), sl7⟩) (c7 : PySem.W.codeIn K cd7 "is_own_double" = true) (k7 : PySem.W.keepIn K (.ref f7) = true)
    (a8 : PySem.W.nsIn K mainGlobals "bears_itself" = some (some (.ref f8))) (l8 : K.lookup f8 = some ⟨oc8, od8, .func (PySem.W.fnOf "bears_itself" "bears_itself" (defArgs sBearsItself) (defBody sBearsItself) (defScope sBearsItself) .none kV8 dc8 pm8 an8 cd8 ct8), sl8⟩) (c8 : PySem.W.codeIn K cd8 "bears_itself" = true) (k8 : PySem.W.keepIn K (.ref f8) = true)
    (a9 : PySem.W.nsIn K mainGlobals "doubled_power" = some (some (.ref f9))) (l9 : K.lookup f9 = some ⟨oc9, od9, .func (PySem.W.fnOf "doubled_power" "doubled_power" (defArgs sDoubledPower) (defBody sDoubledPower) (defScope sDoubledPower) .none kV9 dc9 pm9 an9 cd9 ct9), sl9⟩) (c9 : PySem.W.codeIn K cd9 "doubled_power" = true) (k9 : PySem.W.keepIn K (.ref f9) = true)
    (a10 : PySem.W.nsIn K mainGlobals "groups" = some (some (.ref f10))) (l10 : K.lookup f10 = some ⟨oc10, od10, .func (PySem.W.fnOf "groups" "groups" (defArgs sGroups) (defBody sGroups) (defScope sGroups) (.ref dD10) kV10 dc10 pm10 an10 cd10 ct10), sl10⟩) (c10 : PySem.W.codeIn K cd10 "groups" = true) (k10 : PySem.W.keepIn K (.ref f10) = true)
    (lD10 : K.lookup dD10 = some oD10) (qD10 : oD10.data = .seq ([.int 400 tD10] : List Value).toArray nD10)
    (a11 : PySem.W.nsIn K mainGlobals "_law_cell_at" = some (some (.ref f11))) (l11 : K.lookup f11 = some ⟨oc11, od11, .func (PySem.W.fnOf "_law_cell_at" "_law_cell_at" (defArgs sLawCellAt) (defBody sLawCellAt) (defScope sLawCellAt) .none kV11 dc11 pm11 an11 cd11 ct11), sl11⟩) (c11 : PySem.W.codeIn K cd11 "_law_cell_at" = true) (k11 : PySem.W.keepIn K (.ref f11) = true)
    (a12 : PySem.W.nsIn K mainGlobals "_law_turn" = some (some (.ref f12))) (l12 : K.lookup f12 = some ⟨oc12, od12, .func (PySem.W.fnOf "_law_turn" "_law_turn" (defArgs sLawTurn) (defBody sLawTurn) (defScope sLawTurn) .none kV12 dc12 pm12 an12 cd12 ct12), sl12⟩) (c12 : PySem.W.codeIn K cd12 "_law_turn" = true) (k12 : PySem.W.keepIn K (.ref f12) = true)
    (a13 : PySem.W.nsIn K mainGlobals "_law_machine" = some (some (.ref f13))) (l13 : K.lookup f13 = some ⟨oc13, od13, .func (PySem.W.fnOf "_law_machine" "_law_machine" (defArgs sLawMachine) (defBody sLawMachine) (defScope sLawMachine) .none kV13 dc13 pm13 an13 cd13 ct13), sl13⟩) (c13 : PySem.W.codeIn K cd13 "_law_machine" = true) (k13 : PySem.W.keepIn K (.ref f13) = true)
    (a14 : PySem.W.nsIn K mainGlobals "_law_behind" = some (some (.ref f14))) (l14 : K.lookup f14 = some ⟨oc14, od14, .func (PySem.W.fnOf "_law_behind" "_law_behind" (defArgs sLawBehind) (defBody sLawBehind) (defScope sLawBehind) .none kV14 dc14 pm14 an14 cd14 ct14), sl14⟩) (c14 : PySem.W.codeIn K cd14 "_law_behind" = true) (k14 : PySem.W.keepIn K (.ref f14) = true)
    (a15 : PySem.W.nsIn K mainGlobals "_law_all" = some (some (.ref f15))) (l15 : K.lookup f15 = some ⟨oc15, od15, .func (PySem.W.fnOf "_law_all" "_law_all" (defArgs sLawAll) (defBody sLawAll) (defScope sLawAll) .none kV15 dc15 pm15 an15 cd15 ct15), sl15⟩) (c15 : PySem.W.codeIn K cd15 "_law_all" = true) (k15 : PySem.W.keepIn K (.ref f15) = true)
    (a16 : PySem.W.nsIn K mainGlobals "_law_refused" = some (some (.ref f16))) (l16 : K.lookup f16 = some ⟨oc16, od16, .func (PySem.W.fnOf "_law_refused" "_law_refused" (defArgs sLawRefused) (defBody sLawRefused) (defScope sLawRefused) .none kV16 dc16 pm16 an16 cd16 ct16), sl16⟩) (c16 : PySem.W.codeIn K cd16 "_law_refused" = true) (k16 : PySem.W.keepIn K (.ref f16) = true)
    (a17 : PySem.W.nsIn K mainGlobals "_law_comes_again" = some (some (.ref f17))) (l17 : K.lookup f17 = some ⟨oc17, od17, .func (PySem.W.fnOf "_law_comes_again" "_law_comes_again" (defArgs sLawComesAgain) (defBody sLawComesAgain) (defScope sLawComesAgain) .none kV17 dc17 pm17 an17 cd17 ct17), sl17⟩) (c17 : PySem.W.codeIn K cd17 "_law_comes_again" = true) (k17 : PySem.W.keepIn K (.ref f17) = true)
    (a18 : PySem.W.nsIn K mainGlobals "_law_undone" = some (some (.ref f18))) (l18 : K.lookup f18 = some ⟨oc18, od18, .func (PySem.W.fnOf "_law_undone" "_law_undone" (defArgs sLawUndone) (defBody sLawUndone) (defScope sLawUndone) .none kV18 dc18 pm18 an18 cd18 ct18), sl18⟩) (c18 : PySem.W.codeIn K cd18 "_law_undone" = true) (k18 : PySem.W.keepIn K (.ref f18) = true)
    (a19 : PySem.W.nsIn K mainGlobals "_law_is_group" = some (some (.ref f19))) (l19 : K.lookup f19 = some ⟨oc19, od19, .func (PySem.W.fnOf "_law_is_group" "_law_is_group" (defArgs sLawIsGroup) (defBody sLawIsGroup) (defScope sLawIsGroup) .none kV19 dc19 pm19 an19 cd19 ct19), sl19⟩) (c19 : PySem.W.codeIn K cd19 "_law_is_group" = true) (k19 : PySem.W.keepIn K (.ref f19) = true)
    (a20 : PySem.W.nsIn K mainGlobals "law" = some (some (.ref f20))) (l20 : K.lookup f20 = some ⟨oc20, od20, .func (PySem.W.fnOf "law" "law" (defArgs sLaw) (defBody sLaw) (defScope sLaw) .none kV20 dc20 pm20 an20 cd20 ct20), sl20⟩) (c20 : PySem.W.codeIn K cd20 "law" = true) (k20 : PySem.W.keepIn K (.ref f20) = true)
    {C_TooMany C_HallError : Addr} (n_TooMany : PySem.W.nsIn K mainGlobals "TooMany" = some (some (.ref C_TooMany))) (n_HallError : PySem.W.nsIn K mainGlobals "HallError" = some (some (.ref C_HallError)))
    {fI : Addr} {odI anI : Option Addr} {slI : Array (Option Value)} {ocI kVI dcI pmI cdI ctI : Value} (lI : K.lookup fI = some ⟨ocI, odI, .func (PySem.W.fnOf "__init__" "TooMany.__init__" (defArgs sTooManyInit) (defBody sTooManyInit) (defScope sTooManyInit) .none kVI dcI pmI anI cdI ctI), slI⟩) (cI : PySem.W.codeIn K cdI "TooMany.__init__" = true) (kI : PySem.W.keepIn K (.ref fI) = true)
    (eI : MkE K C_TooMany C_HallError fI) (bI : BaseI K C_HallError) (sI : SetE K C_TooMany "most")
    (z_len : PySem.W.nsIn K mainGlobals "len" = some none) (z_range : PySem.W.nsIn K mainGlobals "range" = some none) (z_tuple : PySem.W.nsIn K mainGlobals "tuple" = some none) (z_list : PySem.W.nsIn K mainGlobals "list" = some none) (z_enumerate : PySem.W.nsIn K mainGlobals "enumerate" = some none) (z_max : PySem.W.nsIn K mainGlobals "max" = some none) (z_min : PySem.W.nsIn K mainGlobals "min" = some none) :
    ∃ fd : FuncData, (∀ (s : Shared) (v : Value), BindsTo s fd ⟨[v], []⟩ [("_law_script", v)]) ∧ ∀ base : Heap, K.In base → base.Ns mainGlobals mg → BMain mg base → FnOk l.prog w K mg base CX0 16 fa fd ["_law_script"] (spLaw K T (⟨44, 41, 44, 91⟩ : Pos)) := by
  have e := hfa.symm.trans (PySem.W.mg_of X G a20)
  cases e
  have F1 := fun_mk (st := sRefuseMore) l1 c1 k1
  have F2 : DefAt K "reached" sReached f2 (PySem.W.fnOf "reached" "reached" (defArgs sReached) (defBody sReached) (defScope sReached) (.ref dD2) kV2 dc2 pm2 an2 cd2 ct2) (.ref dD2) cd2 := ⟨c2, ⟨_, _, _, _, _, rfl⟩, _, _, _, l2⟩
  have F3 := fun_mk (st := sStill) l3 c3 k3
  have F4 := fun_mk (st := sBehind) l4 c4 k4
  have F5 := fun_mk (st := sRestOf) l5 c5 k5
  have F6 : DefAt K "all_turns" sAllTurns f6 (PySem.W.fnOf "all_turns" "all_turns" (defArgs sAllTurns) (defBody sAllTurns) (defScope sAllTurns) (.ref dD6) kV6 dc6 pm6 an6 (.ref cL6) ct6) (.ref dD6) (.ref cL6) := ⟨c6, ⟨_, _, _, _, _, rfl⟩, _, _, _, l6⟩
  have F7 := fun_mk (st := sIsOwnDouble) l7 c7 k7
  have F8 := fun_mk (st := sBearsItself) l8 c8 k8
  have F9 := fun_mk (st := sDoubledPower) l9 c9 k9
  have F10 : DefAt K "groups" sGroups f10 (PySem.W.fnOf "groups" "groups" (defArgs sGroups) (defBody sGroups) (defScope sGroups) (.ref dD10) kV10 dc10 pm10 an10 cd10 ct10) (.ref dD10) cd10 := ⟨c10, ⟨_, _, _, _, _, rfl⟩, _, _, _, l10⟩
  have F11 := fun_mk (st := sLawCellAt) l11 c11 k11
  have F12 := fun_mk (st := sLawTurn) l12 c12 k12
  have F13 := fun_mk (st := sLawMachine) l13 c13 k13
  have F14 := fun_mk (st := sLawBehind) l14 c14 k14
  have F15 := fun_mk (st := sLawAll) l15 c15 k15
  have F16 := fun_mk (st := sLawRefused) l16 c16 k16
  have F17 := fun_mk (st := sLawComesAgain) l17 c17 k17
  have F18 := fun_mk (st := sLawUndone) l18 c18 k18
  have F19 := fun_mk (st := sLawIsGroup) l19 c19 k19
  have F20 := fun_mk (st := sLaw) l20 c20 k20
  have m_len := PySem.W.mg_none_of X G z_len
  have m_range := PySem.W.mg_none_of X G z_range
  have m_tuple := PySem.W.mg_none_of X G z_tuple
  have m_list := PySem.W.mg_none_of X G z_list
  have m_enumerate := PySem.W.mg_none_of X G z_enumerate
  have m_max := PySem.W.mg_none_of X G z_max
  have m_min := PySem.W.mg_none_of X G z_min
  have m_TooMany := PySem.W.mg_of X G n_TooMany
  have m_HallError := PySem.W.mg_of X G n_HallError
  refine ⟨PySem.W.fnOf "law" "law" (defArgs sLaw) (defBody sLaw) (defScope sLaw) .none kV20 dc20 pm20 an20 cd20 ct20, fun s v => .of_eq rfl, fun base KB _ hbm => ?_⟩
  have hC_all_turns := PySem.W.codeHd_of_K KB hd6
  have c__law_cell_at : Callee l.prog w K mg base "_law_cell_at" _ _ _ := ⟨_, _, ok_cell2 (P := l.prog) (w := w) (base := base) F11 m_len, PySem.W.mg_of X G a11, k11, F11.binds (ps := ["_law_script", "_law_k"]) fun _ _ _ _ _ _ => ln2 (fun _ _ => rfl)⟩
  have c__law_turn : Callee l.prog w K mg base "_law_turn" _ _ _ := ⟨_, _, ok_turn (P := l.prog) (w := w) (base := base) F12 m_range m_tuple m_list, PySem.W.mg_of X G a12, k12, F12.binds (ps := ["_law_cell", "_law_rooms"]) fun _ _ _ _ _ _ => ln2 (fun _ _ => rfl)⟩
  have c__law_machine : Callee l.prog w K mg base "_law_machine" _ _ _ := ⟨_, _, ok_machine (P := l.prog) (w := w) (base := base) F13 c__law_cell_at c__law_turn m_range m_tuple, PySem.W.mg_of X G a13, k13, F13.binds (ps := ["_law_script"]) fun _ _ _ _ _ _ => ln1 (fun _ => rfl)⟩
  have c_still : Callee l.prog w K mg base "still" _ _ _ := ⟨_, _, ok_still (P := l.prog) (w := w) (base := base) F3 m_tuple m_range, PySem.W.mg_of X G a3, k3, F3.binds (ps := ["rooms"]) fun _ _ _ _ _ _ => ln1 (fun _ => rfl)⟩
  have c_behind : Callee l.prog w K mg base "behind" _ _ _ := ⟨_, _, ok_behind (P := l.prog) (w := w) (base := base) F4 m_tuple, PySem.W.mg_of X G a4, k4, F4.binds (ps := ["one", "other"]) fun _ _ _ _ _ _ => ln2 (fun _ _ => rfl)⟩
  have c_rest_of : Callee l.prog w K mg base "rest_of" _ _ _ := ⟨_, _, ok_rest_of (P := l.prog) (w := w) (base := base) F5 c_still c_behind m_len, PySem.W.mg_of X G a5, k5, F5.binds (ps := ["turn"]) fun _ _ _ _ _ _ => ln1 (fun _ => rfl)⟩
  have FI := fun_mk (st := sTooManyInit) lI cI kI
  have c_TooMany : MakesE l.prog w K mg base "TooMany" _ _ _ C_TooMany := ⟨_, _, _, eI, ok_too_many (P := l.prog) (w := w) (mg := mg) (base := base) FI eI bI sI m_HallError, FI.binds (ps := ["self", "most"]) fun _ _ _ _ _ _ => ln2 (fun _ _ => rfl), m_TooMany⟩
  have c_refuse_more : CalleeX l.prog w K mg base "refuse_more" _ _ _ := ⟨_, _, ok_refuse_more (P := l.prog) (w := w) (base := base) F1 c_TooMany m_len, PySem.W.mg_of X G a1, k1, F1.binds (ps := ["things", "most"]) fun _ _ _ _ _ _ => ln2 (fun _ _ => rfl)⟩
  have o_reached := ok_reached (P := l.prog) (w := w) (base := base) F2 c_refuse_more m_range
  have c_reached : CalleeDX l.prog w K mg base "reached" _ _ _ [] := ⟨_, _, [], o_reached, PySem.W.mg_of X G a2, k2, (fun s us KX hl => by have hl3 : us.length = 4 := (by simpa using hl); clear hl; revert us; exact ln4 (fun _ _ _ _ => BindsTo.of_defaults rfl (KX _ _ lD2) qD2 rfl rfl)), .nil⟩
  have cd_reached : CalleeDX l.prog w K mg base "reached" _ _ _ [.non] := ⟨_, _, [.none], o_reached, PySem.W.mg_of X G a2, k2, (fun s us KX hl => by have hl3 : us.length = 3 := (by simpa using hl); clear hl; revert us; exact ln3 (fun _ _ _ => BindsTo.of_defaults rfl (KX _ _ lD2) qD2 rfl rfl)), .cons rfl .nil⟩
  have o_all_turns := ok_all_turns (P := l.prog) (w := w) (base := base) F6 hC_all_turns hbm c_still c_behind c_reached m_len m_list
  have c_all_turns : CalleeDX l.prog w K mg base "all_turns" _ _ _ [] := ⟨_, _, [], o_all_turns, PySem.W.mg_of X G a6, k6, (fun s us KX hl => by have hl3 : us.length = 2 := (by simpa using hl); clear hl; revert us; exact ln2 (fun _ _ => BindsTo.of_defaults rfl (KX _ _ lD6) qD6 rfl rfl)), .nil⟩
  have cd_all_turns : CalleeDX l.prog w K mg base "all_turns" _ _ _ [.int 400] := ⟨_, _, [.int 400 tD6], o_all_turns, PySem.W.mg_of X G a6, k6, (fun s us KX hl => by have hl3 : us.length = 1 := (by simpa using hl); clear hl; revert us; exact ln1 (fun _ => BindsTo.of_defaults rfl (KX _ _ lD6) qD6 rfl rfl)), .cons ⟨_, rfl⟩ .nil⟩
  have c_is_own_double : Callee l.prog w K mg base "is_own_double" _ _ _ := ⟨_, _, ok_double (P := l.prog) (w := w) (base := base) F7 c_behind, PySem.W.mg_of X G a7, k7, F7.binds (ps := ["turn"]) fun _ _ _ _ _ _ => ln1 (fun _ => rfl)⟩
  have c_bears_itself : Callee l.prog w K mg base "bears_itself" _ _ _ := ⟨_, _, ok_bears (P := l.prog) (w := w) (base := base) F8 c_rest_of, PySem.W.mg_of X G a8, k8, F8.binds (ps := ["turn"]) fun _ _ _ _ _ _ => ln1 (fun _ => rfl)⟩
  have c_doubled_power : Callee l.prog w K mg base "doubled_power" _ _ _ := ⟨_, _, ok_power (P := l.prog) (w := w) (base := base) F9 c_is_own_double c_behind, PySem.W.mg_of X G a9, k9, F9.binds (ps := ["turn"]) fun _ _ _ _ _ _ => ln1 (fun _ => rfl)⟩
  have o_groups := ok_groups (P := l.prog) (w := w) (base := base) F10 c_all_turns c_is_own_double c_bears_itself c_doubled_power m_enumerate m_list
  have c_groups : CalleeDX l.prog w K mg base "groups" _ _ _ [] := ⟨_, _, [], o_groups, PySem.W.mg_of X G a10, k10, (fun s us KX hl => by have hl3 : us.length = 2 := (by simpa using hl); clear hl; revert us; exact ln2 (fun _ _ => BindsTo.of_defaults rfl (KX _ _ lD10) qD10 rfl rfl)), .nil⟩
  have cd_groups : CalleeDX l.prog w K mg base "groups" _ _ _ [.int 400] := ⟨_, _, [.int 400 tD10], o_groups, PySem.W.mg_of X G a10, k10, (fun s us KX hl => by have hl3 : us.length = 1 := (by simpa using hl); clear hl; revert us; exact ln1 (fun _ => BindsTo.of_defaults rfl (KX _ _ lD10) qD10 rfl rfl)), .cons ⟨_, rfl⟩ .nil⟩
  have c__law_behind : Callee l.prog w K mg base "_law_behind" _ _ _ := ⟨_, _, ok_lbehind (P := l.prog) (w := w) (base := base) F14 m_tuple, PySem.W.mg_of X G a14, k14, F14.binds (ps := ["_law_one", "_law_other"]) fun _ _ _ _ _ _ => ln2 (fun _ _ => rfl)⟩
  have c__law_all : Callee l.prog w K mg base "_law_all" _ _ _ := ⟨_, _, ok_all (P := l.prog) (w := w) (base := base) F15 c__law_behind m_tuple m_range m_len, PySem.W.mg_of X G a15, k15, F15.binds (ps := ["_law_machine_here", "_law_most"]) fun _ _ _ _ _ _ => ln2 (fun _ _ => rfl)⟩
  have c__law_refused : Callee l.prog w K mg base "_law_refused" _ _ _ := ⟨_, _, ok_refused (P := l.prog) (w := w) (base := base) F16 cd_groups m_TooMany eI.cls, PySem.W.mg_of X G a16, k16, F16.binds (ps := ["_law_machine_here"]) fun _ _ _ _ _ _ => ln1 (fun _ => rfl)⟩
  have c__law_comes_again : Callee l.prog w K mg base "_law_comes_again" _ _ _ := ⟨_, _, ok_comes (P := l.prog) (w := w) (base := base) F17 c__law_behind m_range, PySem.W.mg_of X G a17, k17, F17.binds (ps := ["_law_turn_here"]) fun _ _ _ _ _ _ => ln1 (fun _ => rfl)⟩
  have c__law_undone : Callee l.prog w K mg base "_law_undone" _ _ _ := ⟨_, _, ok_undone (P := l.prog) (w := w) (base := base) F18 c__law_behind m_range, PySem.W.mg_of X G a18, k18, F18.binds (ps := ["_law_turn_here", "_law_amid", "_law_known"]) fun _ _ _ _ _ _ => ln3 (fun _ _ _ => rfl)⟩
  have c__law_is_group : Callee l.prog w K mg base "_law_is_group" _ _ _ := ⟨_, _, ok_is_group (P := l.prog) (w := w) (base := base) F19 c__law_behind c__law_undone m_len, PySem.W.mg_of X G a19, k19, F19.binds (ps := ["_law_some", "_law_cells"]) fun _ _ _ _ _ _ => ln2 (fun _ _ => rfl)⟩
  exact ok_law (P := l.prog) (w := w) (base := base) F20 c__law_machine c__law_all c__law_refused cd_all_turns cd_groups c__law_is_group c__law_comes_again m_len m_max m_min m_range
theorem walk {l : PySem.W.OpenLaw} {q : Program} {loose : List Str} {XP : (Str → Option Value) → Heap → Prop} {YP : World → Heap → Prop} {d : DefRec} {K : Params → PySem.W.Frag} {T : Addr} (hn : l.most = some 63) (hdf : d.params.defaults = [])
    (hY : ∀ (w : World) (h : Heap), YP w h → (K w.params).In h) (hT : ∀ w : World, (K w.params).lookup T = none ∧ ∃ c, PySem.W.codeHdIn (K w.params) c T = true) (hP : ∀ (w : World) (h : Heap), YP w h → h.get? T = some (PySem.W.tabObj #[]))
    (F : ∀ (w : World) (mg : Str → Option Value) (fa : Addr) (h : Heap), (K w.params).In h → h.Ns mainGlobals mg → mg d.name = some (.ref fa) →
      ∃ fd : FuncData, (∀ (s : Shared) (u : Value), BindsTo s fd ⟨[u], []⟩ [("_law_script", u)]) ∧ ∀ base : Heap, (K w.params).In base → base.Ns mainGlobals mg → BMain mg base → FnOk l.prog w (K w.params) mg base CX0 16 fa fd ["_law_script"] (spLaw (K w.params) T (⟨44, 41, 44, 91⟩ : Pos))) :
    PySem.W.WalkO q loose XP YP l.row.toRowW d [] (fun f vs => PySem.call f vs) :=
  L2.walk_ofT2 (n := 63) (k := 16) (x := "_law_script") (tabs := [T]) (sp := fun w => spLaw (K w.params) T (⟨44, 41, 44, 91⟩ : Pos)) hn (by decide) hdf ⟨rfl, by decide, by decide⟩ hY (fun w t ht => by cases List.mem_singleton.mp ht; exact hT w) (fun w h Y t ht => by cases List.mem_singleton.mp ht; exact hP w h Y) F fun w H a ns hl ht hS => ⟨a, ns, rfl, hS, hl, ht _ (List.mem_singleton.mpr rfl), fun _ => rfl⟩
end My
open PySem PySem.W PyProof.Rows
set_option maxRecDepth 100000 in
set_option maxHeartbeats 0 in
theorem PySem.Challenge.cw_cascade_k24_whole_groups_are_groups_holds : PySem.Challenge.rw_cascade_k24_whole_groups_are_groups.Holds := by
  w_on; o_law; k_head; (case hw => w_witness2)
  k_fill
  refine' My.walk (l := PySem.Challenge.rw_cascade_k24_whole_groups_are_groups) (T := 83) rfl rfl (fun w h Y => PySem.W.km_in_of Y) ?hT (fun w h Y => PySem.W.km_tabs_of Y _ (by simp)) ?F
  case hT =>
    intro w
    exact ⟨by kernel_rfl, 87, by kernel_rfl⟩
  case F =>
    intro w mg fa h KX G hmg
    refine' My.all_mk KX G hmg ?a1 ?l1 ?c1 ?k1 ?a2 ?l2 ?c2 ?k2 ?lD2 ?qD2 ?a3 ?l3 ?c3 ?k3 ?a4 ?l4 ?c4 ?k4 ?a5 ?l5 ?c5 ?k5 ?a6 ?l6 ?c6 ?k6 ?lD6 ?qD6 ?hd6 ?a7 ?l7 ?c7 ?k7 ?a8 ?l8 ?c8 ?k8 ?a9 ?l9 ?c9 ?k9 ?a10 ?l10 ?c10 ?k10 ?lD10 ?qD10 ?a11 ?l11 ?c11 ?k11 ?a12 ?l12 ?c12 ?k12 ?a13 ?l13 ?c13 ?k13 ?a14 ?l14 ?c14 ?k14 ?a15 ?l15 ?c15 ?k15 ?a16 ?l16 ?c16 ?k16 ?a17 ?l17 ?c17 ?k17 ?a18 ?l18 ?c18 ?k18 ?a19 ?l19 ?c19 ?k19 ?a20 ?l20 ?c20 ?k20 ?n_TooMany ?n_HallError ?lI ?cI ?kI ?eI ?bI ?sI  ?z0 ?z1 ?z2 ?z3 ?z4 ?z5 ?z6
    (case a1 => k_is); (case l1 => k_is); (case c1 => k_is); (case k1 => k_is)
    (case a2 => k_is); (case l2 => k_is); (case c2 => k_is); (case k2 => k_is)
    (case lD2 => k_is); (case qD2 => rfl)
    (case a3 => k_is); (case l3 => k_is); (case c3 => k_is); (case k3 => k_is)
    (case a4 => k_is); (case l4 => k_is); (case c4 => k_is); (case k4 => k_is)
    (case a5 => k_is); (case l5 => k_is); (case c5 => k_is); (case k5 => k_is)
    (case a6 => k_is); (case l6 => k_is); (case c6 => k_is); (case k6 => k_is)
    (case lD6 => k_is); (case qD6 => rfl)
    (case hd6 => kernel_rfl)
    (case a7 => k_is); (case l7 => k_is); (case c7 => k_is); (case k7 => k_is)
    (case a8 => k_is); (case l8 => k_is); (case c8 => k_is); (case k8 => k_is)
    (case a9 => k_is); (case l9 => k_is); (case c9 => k_is); (case k9 => k_is)
    (case a10 => k_is); (case l10 => k_is); (case c10 => k_is); (case k10 => k_is)
    (case lD10 => k_is); (case qD10 => rfl)
    (case a11 => k_is); (case l11 => k_is); (case c11 => k_is); (case k11 => k_is)
    (case a12 => k_is); (case l12 => k_is); (case c12 => k_is); (case k12 => k_is)
    (case a13 => k_is); (case l13 => k_is); (case c13 => k_is); (case k13 => k_is)
    (case a14 => k_is); (case l14 => k_is); (case c14 => k_is); (case k14 => k_is)
    (case a15 => k_is); (case l15 => k_is); (case c15 => k_is); (case k15 => k_is)
    (case a16 => k_is); (case l16 => k_is); (case c16 => k_is); (case k16 => k_is)
    (case a17 => k_is); (case l17 => k_is); (case c17 => k_is); (case k17 => k_is)
    (case a18 => k_is); (case l18 => k_is); (case c18 => k_is); (case k18 => k_is)
    (case a19 => k_is); (case l19 => k_is); (case c19 => k_is); (case k19 => k_is)
    (case a20 => k_is); (case l20 => k_is); (case c20 => k_is); (case k20 => k_is)
    (case n_TooMany => k_is)
    (case n_HallError => k_is)
    (case eI => exact ⟨⟨(by show PySem.W.excIn _ _ L2.veMro "ValueError.__new__" = true; k_exc), _, _, _, _, _, _, _, _, _, _, _, _, _, _, by k_is⟩, by k_is, by k_is, by k_is⟩)
    (case lI => k_is); (case cI => k_is); (case kI => k_is)
    (case bI => exact ⟨by k_is, by k_is, by k_is⟩)
    (case sI => exact ⟨by k_is, by k_is⟩)
    (case z0 => k_is)
    (case z1 => k_is)
    (case z2 => k_is)
    (case z3 => k_is)
    (case z4 => k_is)
    (case z5 => k_is)
    (case z6 => k_is)
