import PyProof.Rows.All
import Wide.All
import OpenK.AllK
import Wide.FinOn
import Lean
import PyProof.EqAt
import PyProof.EqKinds
import PyProof.TupleCall
import PyProof.NeKinds
import PySem.Challenge.RW_cascade_k81_texts_of_no_machine
set_option Elab.async false
set_option linter.all false
set_option maxRecDepth 100000
namespace L2
open PySem PySem.Spec PyProof.Rows
abbrev Key := Sum Int Str
def keyIs : Key → Value → Bool
  | .inl k, v => Value.isInt k v
  | .inr x, v => Value.isStrOf x v
def keyH (w : World) : Key → Int
  | .inl k => hashInt k
  | .inr x => hashStr w x
theorem keyIs_shape : ∀ {k : Key} {v : Value}, keyIs k v = true → (∃ i t, k = Sum.inl i ∧ v = Value.int i t) ∨ (∃ x t, k = Sum.inr x ∧ v = Value.str x t)
  | .inl i, v, h => by
    obtain ⟨t, e⟩ := Value.isInt_shape (k := i) (v := v) h
    exact .inl ⟨i, t, rfl, e⟩
  | .inr x, v, h => by
    obtain ⟨t, e⟩ := Value.isStrOf_shape (x := x) (v := v) h
    exact .inr ⟨x, t, rfl, e⟩
theorem keyIs_int (i : Int) (t : Tok) : keyIs (.inl i) (.int i t) = true := by simp [keyIs, Value.isInt]
theorem keyIs_str (x : Str) (t : Tok) : keyIs (.inr x) (.str x t) = true := by simp [keyIs, Value.isStrOf]
theorem key_ll (a b : Int) : decide ((Sum.inl a : Key) = Sum.inl b) = (a == b) := by
  by_cases e : a = b
  · subst e; simp
  · have h : ¬ (Sum.inl a : Key) = Sum.inl b := fun q => e (Sum.inl.inj q)
    rw [decide_eq_false h]
    exact (beq_eq_false_iff_ne.mpr e).symm
theorem key_rr (a b : Str) : decide ((Sum.inr a : Key) = Sum.inr b) = decide (a = b) := by
  by_cases e : a = b
  · subst e; simp
  · have h : ¬ (Sum.inr a : Key) = Sum.inr b := fun q => e (Sum.inr.inj q)
    rw [decide_eq_false h, decide_eq_false e]
theorem key_lr (a : Int) (b : Str) : decide ((Sum.inl a : Key) = Sum.inr b) = false := decide_eq_false (fun q => nomatch q)
theorem key_rl (a : Str) (b : Int) : decide ((Sum.inr a : Key) = Sum.inl b) = false := decide_eq_false (fun q => nomatch q)
def mixKind (prog : Program) (w : World) : PySem.KeyKind prog w Key where
  is := keyIs
  hash := keyH w
  inj := fun v a b ha hb => by
    rcases keyIs_shape ha with ⟨i, t, rfl, rfl⟩ | ⟨x, t, rfl, rfl⟩
    · rcases keyIs_shape hb with ⟨j, u, rfl, e⟩ | ⟨y, u, rfl, e⟩
      · injection e with e1 _; rw [e1]
      · exact nomatch e
    · rcases keyIs_shape hb with ⟨j, u, rfl, e⟩ | ⟨y, u, rfl, e⟩
      · exact nomatch e
      · injection e with e1 _; rw [e1]
  byValue := fun k v h => by
    rcases keyIs_shape h with ⟨i, t, rfl, rfl⟩ | ⟨x, t, rfl, rfl⟩ <;> rfl
  pyHash := fun hv h => by
    rcases keyIs_shape hv with ⟨i, t, rfl, rfl⟩ | ⟨x, t, rfl, rfl⟩
    · exact wpAny_pyHash_int h
    · exact wpAny_pyHash_str h
  eqBool := fun hu hv h => by
    rcases keyIs_shape hu with ⟨i, t, rfl, rfl⟩ | ⟨x, t, rfl, rfl⟩
    · rcases keyIs_shape hv with ⟨j, u, rfl, rfl⟩ | ⟨y, u, rfl, rfl⟩
      · rw [key_ll] at h; exact wpAny_eqBool_int h
      · rw [key_lr] at h; exact SeqAt.EqAt.int_str i t y u _ _ _ _ h
    · rcases keyIs_shape hv with ⟨j, u, rfl, rfl⟩ | ⟨y, u, rfl, rfl⟩
      · rw [key_rl] at h; exact SeqAt.EqAt.str_int x t j u _ _ _ _ h
      · rw [key_rr] at h; exact wpAny_eqBool_str h
  «strs» := fun k x t v h => by
    rcases keyIs_shape h with ⟨i, u, rfl, e⟩ | ⟨y, u, rfl, e⟩
    · exact nomatch e
    · injection e with e1 _
      subst e1
      cases v <;> rfl
theorem mixKind_int (prog : Program) (w : World) (i : Int) (t : Tok) : (mixKind prog w).is (.inl i) (.int i t) = true := keyIs_int i t
theorem mixKind_str (prog : Program) (w : World) (x : Str) (t : Tok) : (mixKind prog w).is (.inr x) (.str x t) = true := keyIs_str x t
end L2
namespace L2
open PySem PySem.Spec PyProof.Rows
inductive V where
  | non | bl (b : Bool) | int (i : Int) | str (x : Str) | byt (b : Array UInt8) | flt (b : UInt64) | ref (a : Addr) | ty (n : String)
  deriving DecidableEq
def RelV : V → Value → Prop
  | .non, u => u = Value.none
  | .bl b, u => u = Value.bool b
  | .int i, u => ∃ t, u = Value.int i t
  | .str x, u => ∃ t, u = Value.str x t
  | .byt b, u => ∃ t, u = Value.bytes b t
  | .flt b, u => ∃ t, u = Value.float b t
  | .ref a, u => u = Value.ref a
  | .ty n, u => u = Value.type n
abbrev Vals : List V → List Value → Prop := Paired RelV
theorem Vals.length {xs : List V} {us : List Value} (r : Vals xs us) : xs.length = us.length := Paired.length r
theorem Vals.get : ∀ {xs : List V} {us : List Value} {i : Nat} {x : V}, Vals xs us → xs[i]? = some x → ∃ u, us[i]? = some u ∧ RelV x u
  | _, _, _, _, .nil, e => by simp at e
  | _, _, 0, _, .cons r _, e => by simp at e; subst e; exact ⟨_, rfl, r⟩
  | _, _, i + 1, x, .cons _ t, e => by
    obtain ⟨u, h1, h2⟩ := Vals.get (i := i) (x := x) t (by simpa using e)
    exact ⟨u, by simpa using h1, h2⟩
theorem Vals.set {x : V} {u : Value} (r : RelV x u) : ∀ {xs : List V} {us : List Value} (i : Nat), Vals xs us → Vals (xs.set i x) (us.set i u)
  | _, _, _, .nil => .nil
  | _, _, 0, .cons _ t => .cons r t
  | _, _, i + 1, .cons q t => .cons q (Vals.set r i t)
theorem Vals.append : ∀ {xs ys : List V} {us ws : List Value}, Vals xs us → Vals ys ws → Vals (xs ++ ys) (us ++ ws)
  | _, _, _, _, .nil, s => s
  | _, _, _, _, .cons r t, s => .cons r (Vals.append t s)
theorem Vals.take : ∀ {xs : List V} {us : List Value} (n : Nat), Vals xs us → Vals (xs.take n) (us.take n)
  | _, _, 0, _ => .nil
  | _, _, _ + 1, .nil => .nil
  | _, _, n + 1, .cons r t => .cons r (Vals.take n t)
theorem Vals.drop : ∀ {xs : List V} {us : List Value} (n : Nat), Vals xs us → Vals (xs.drop n) (us.drop n)
  | _, _, 0, r => r
  | _, _, _ + 1, .nil => .nil
  | _, _, n + 1, .cons _ t => Vals.drop n t
theorem Vals.none_of : ∀ {xs : List V} {us : List Value} {i : Nat}, Vals xs us → xs[i]? = none → us[i]? = none := fun {xs us i} r e => by
  have h1 := r.length
  have h2 : xs.length ≤ i := List.getElem?_eq_none_iff.mp e
  exact List.getElem?_eq_none_iff.mpr (by omega)
def RelO : Option V → Option Value → Prop
  | some v, some u => RelV v u
  | none, none => True
  | _, _ => False
def KV {κ : Type} : List (κ × V) → List (κ × Value) → Prop := Paired fun (p : κ × V) (q : κ × Value) => p.1 = q.1 ∧ RelV p.2 q.2
def kV : Key → V
  | .inl i => .int i
  | .inr x => .str x
inductive HO where
  | lst (xs : List V)
  | tup (xs : List V)
  | dK (kvs : List (Key × V)) | dT (kvs : List (List Key × V))
  | set (S : Int → Bool) (n : Nat)
  | ins (C dx : Addr) (fs : List (Str × V))
  | own (x : Addr)
  | xd (fs : List (Str × V))
  | met (f x : Addr)
  | rng (lo hi : Int)
  | frz (o : Obj) (u : HO)
  | tbl (ps : Array Value)
  | ext (φ : Heap → Prop)
abbrev Hp := Addr → Option HO
def upd (H : Hp) (a : Addr) (o : HO) : Hp := fun b => if b = a then some o else H b
theorem upd_same {H : Hp} {a : Addr} {o : HO} : upd H a o a = some o := by unfold upd; rw [if_pos rfl]
theorem upd_ne {H : Hp} {a b : Addr} {o : HO} (h : b ≠ a) : upd H a o b = H b := by unfold upd; rw [if_neg h]
theorem upd_upd {H : Hp} {a : Addr} {o u : HO} : upd (upd H a o) a u = upd H a u := by
  funext b; unfold upd; split <;> rfl
theorem ne_of {H : Hp} {a b : Addr} {o u : HO} (h : H a = some o) (h' : H b = some u) (d : o ≠ u) : a ≠ b := by
  intro e; subst e; rw [h] at h'; exact d (Option.some.inj h')
theorem ne_of_none {H : Hp} {a b : Addr} {o : HO} (h : H a = some o) (h' : H b = none) : a ≠ b := by
  intro e; subst e; rw [h] at h'; cases h'
def TupD (h : Heap) (a : Addr) (items : Array Value) : Prop := ∃ o, h.get? a = some o ∧ o.cls = .type "tuple" ∧ ∃ n, o.data = .seq items n ∧ o.dict = none
theorem TupD.is {h : Heap} {a : Addr} {items : Array Value} (p : TupD h a items) : IsTup h a items := let ⟨o, e, c, n, d, _⟩ := p; ⟨o, e, c, n, d⟩
theorem TupD.new (h : Heap) (items : Array Value) : TupD (h.push { cls := .type "tuple", data := .seq items }) h.objs.size items := ⟨_, Heap.get?_push_size _ rfl, rfl, _, rfl, rfl⟩
section
variable (P : Program) (w : World)
def ObjOk (H : Hp) (h : Heap) (a : Addr) : HO → Prop
  | .lst xs => xs.length ≤ sizeLine ∧ ∃ (its : List Value) (n : Nat), Vals xs its ∧ h.get? a = some { cls := .type "list", data := .seq its.toArray n }
  | .tup xs => xs.length ≤ sizeLine ∧ ∃ its : List Value, Vals xs its ∧ TupD h a its.toArray
  | .dK kvs => kvs.length ≤ sizeLine ∧ (a == sysModules) = false ∧ ∃ vs, KV kvs vs ∧ h.DictOf (mixKind P w) a vs
  | .dT kvs => kvs.length ≤ sizeLine ∧ (a == sysModules) = false ∧ ∃ xs : List (List Key × Addr × Value),
      Paired (fun (p : List Key × V) (q : List Key × Addr × Value) => p.1 = q.1 ∧ H q.2.1 = some (.tup (p.1.map kV)) ∧ RelV p.2 q.2.2) kvs xs ∧
      ∃ o es ep, h.get? a = some o ∧ o.ExactDict ∧ o.data = .dict es ep ∧ es.toList = xs.map (entryOfKey (tupleKind (mixKind P w))) ∧ (xs.map (·.1)).Nodup
  | .set S n => h.SetOf (intKind P w) a S n
  | .ins C dx fs => H dx = some (.own a) ∧ fs.length ≤ 1000 ∧ dx ≠ a ∧ h.get? a = some (PySem.W.instObj C dx) ∧
      ∃ mA, h.Ns1 dx mA ∧ (∀ f, RelO (fs.lookup f) (mA f)) ∧ PySem.Within mA (fs.map (·.1))
  | .own _ => ∃ o, h.get? a = some o
  | .xd fs => ∃ mA, h.Ns1 a mA ∧ ∀ f, RelO (fs.lookup f) (mA f)
  | .rng lo hi => ∃ t u v, h.get? a = some { cls := .type "range", data := .fields #[.int lo t, .int hi u, .int 1 v] }
  | .frz o u => h.get? a = some o ∧ ObjOk H h a u
  | .tbl ps => h.get? a = some { cls := .none, data := .fields ps }
  | .met f x => h.get? a = some (PySem.W.methodObj (.ref f) (.ref x))
  | .ext φ => φ h ∧ (∃ o, h.get? a = some o) ∧ ∀ h1 h2 : Heap, φ h1 → (∀ o, h1.get? a = some o → h2.get? a = some o) → φ h2
def HOk (H : Hp) (h : Heap) : Prop := ∀ a o, H a = some o → ObjOk P w H h a o
end
section
variable {P : Program} {w : World} {H H' : Hp} {h h' : Heap} {a : Addr} {o : HO}
theorem ObjOk.lt (x : ObjOk P w H h a o) : a < h.objs.size := by
  cases o with
  | lst xs => obtain ⟨_, _, _, _, e⟩ := x; exact Heap.lt_size e
  | tup xs => obtain ⟨_, _, _, p⟩ := x; exact p.is.lt
  | dK kvs => obtain ⟨_, _, _, _, o, _, _, e, _⟩ := x; exact Heap.lt_size e
  | dT kvs => obtain ⟨_, _, _, _, o, _, _, e, _⟩ := x; exact Heap.lt_size e
  | set S n => obtain ⟨o, _, _, _, e, _⟩ := x; exact Heap.lt_size e
  | ins C dx fs => obtain ⟨_, _, _, e, _⟩ := x; exact Heap.lt_size e
  | own y => obtain ⟨_, e⟩ := x; exact Heap.lt_size e
  | xd fs => obtain ⟨_, ⟨_, _, _, e, _⟩, _⟩ := x; exact Heap.lt_size e
  | rng lo hi => obtain ⟨_, _, _, e⟩ := x; exact Heap.lt_size e
  | frz ob u => obtain ⟨e, _⟩ := x; exact Heap.lt_size e
  | tbl ps => exact Heap.lt_size (show h.get? a = some _ from x)
  | met f y => exact Heap.lt_size (show h.get? a = some _ from x)
  | ext φ => obtain ⟨_, ⟨_, e⟩, _⟩ := x; exact Heap.lt_size e
theorem Paired.mapP {α β : Type} {F G : α → β → Prop} : ∀ {l₁ : List α} {l₂ : List β}, Paired F l₁ l₂ → (∀ a b, F a b → G a b) → Paired G l₁ l₂
  | _, _, .nil, _ => .nil
  | _, _, .cons r t, f => .cons (f _ _ r) (Paired.mapP t f)
theorem ObjOk.stay (x : ObjOk P w H h a o) (k : ∀ b u, (b = a ∨ H b = some (.own a)) → h.get? b = some u → h'.get? b = some u)
    (ho : ∀ b, H b = some (.own a) → H' b = some (.own a)) (ht : ∀ b xs, H b = some (.tup xs) → H' b = some (.tup xs)) : ObjOk P w H' h' a o := by
  induction o with
  | lst xs => obtain ⟨z, its, n, r, e⟩ := x; exact ⟨z, its, n, r, k _ _ (.inl rfl) e⟩
  | tup xs => obtain ⟨z, its, r, ob, e, c⟩ := x; exact ⟨z, its, r, ob, k _ _ (.inl rfl) e, c⟩
  | dK kvs => obtain ⟨z, y, vs, r, ob, es, ep, e, c⟩ := x; exact ⟨z, y, vs, r, ob, es, ep, k _ _ (.inl rfl) e, c⟩
  | dT kvs =>
    obtain ⟨z, y, xs, r, ob, es, ep, e, c⟩ := x
    exact ⟨z, y, xs, Paired.mapP r fun p q z => ⟨z.1, ht _ _ z.2.1, z.2.2⟩, ob, es, ep, k _ _ (.inl rfl) e, c⟩
  | set S n => obtain ⟨ob, es, ep, t, e, c⟩ := x; exact ⟨ob, es, ep, t, k _ _ (.inl rfl) e, c⟩
  | ins C dx fs =>
    obtain ⟨d, z, ne, e, mA, ⟨od, es, ep, e2, c⟩, r⟩ := x
    exact ⟨ho _ d, z, ne, k _ _ (.inl rfl) e, mA, ⟨od, es, ep, k _ _ (.inr d) e2, c⟩, r⟩
  | own y => obtain ⟨ob, e⟩ := x; exact ⟨ob, k _ _ (.inl rfl) e⟩
  | xd fs => obtain ⟨mA, ⟨od, es, ep, e, c⟩, r⟩ := x; exact ⟨mA, ⟨od, es, ep, k _ _ (.inl rfl) e, c⟩, r⟩
  | rng lo hi => obtain ⟨t, u, v, e⟩ := x; exact ⟨t, u, v, k _ _ (.inl rfl) e⟩
  | frz ob u ih => obtain ⟨e, q⟩ := x; exact ⟨k _ _ (.inl rfl) e, ih q⟩
  | tbl ps =>
    have e : h.get? a = some { cls := .none, data := .fields ps } := x
    show h'.get? a = some { cls := .none, data := .fields ps }
    exact k a _ (.inl rfl) e
  | met f y =>
    have e : h.get? a = some (PySem.W.methodObj (.ref f) (.ref y)) := x
    show h'.get? a = some (PySem.W.methodObj (.ref f) (.ref y))
    exact k a _ (.inl rfl) e
  | ext φ => obtain ⟨p, ⟨o, e⟩, st⟩ := x; exact ⟨st _ _ p fun o q => k _ _ (.inl rfl) q, ⟨o, k _ _ (.inl rfl) e⟩, st⟩
theorem HOk.lt (x : HOk P w H h) (e : H a = some o) : a < h.objs.size := (x a o e).lt
theorem HOk.fresh (x : HOk P w H h) (e : h.objs.size ≤ a) : H a = none := by
  cases q : H a with
  | none => rfl
  | some u => exact absurd (Nat.lt_of_lt_of_le (x.lt q) e) (Nat.lt_irrefl _)
theorem HOk.kept (x : HOk P w H h) (k : ∀ b u, h.get? b = some u → h'.get? b = some u) : HOk P w H h' := fun a o e =>
  (x a o e).stay (fun b u _ q => k b u q) (fun _ q => q) fun _ _ q => q
theorem HOk.laid (x : HOk P w H h) (k : ∀ b u, h.get? b = some u → h'.get? b = some u) (hp : h.objs.size ≤ a) (new : ObjOk P w (upd H a o) h' a o) : HOk P w (upd H a o) h' := fun b u e => by
  have hn := x.fresh hp
  by_cases hb : b = a
  · subst hb; rw [upd_same] at e; cases e; exact new
  · rw [upd_ne hb] at e
    exact (x b u e).stay (fun c v _ q => k c v q) (fun c q => by rw [upd_ne (ne_of_none q hn)]; exact q) fun c xs q => by rw [upd_ne (ne_of_none q hn)]; exact q
end
def Rd (H : Hp) (a : Addr) (u : HO) : Prop := H a = some u ∨ ∃ o, H a = some (.frz o u)
theorem Rd.of {H : Hp} {a : Addr} {u : HO} (h : H a = some u) : Rd H a u := .inl h
theorem Rd.ok {P : Program} {w : World} {H : Hp} {h : Heap} {a : Addr} {u : HO} (r : Rd H a u) (x : HOk P w H h) : ObjOk P w H h a u := by
  rcases r with r | ⟨o, r⟩
  · exact x a u r
  · obtain ⟨_, q⟩ := x a _ r
    exact q
def Mut : Option HO → Prop
  | some (.lst _) => True
  | some (.dK _) => True
  | some (.dT _) => True
  | some (.set _ _) => True
  | some (.ins _ _ _) => True
  | some (.ext _) => True
  | _ => False
section
variable {P : Program} {w : World} {H : Hp} {h h' : Heap} {x e : Addr} {o' : HO}
theorem HOk.write (ok : HOk P w H h) (mu : Mut (H x)) (he : e = x ∨ H e = some (.own x)) (k : ∀ b u, b ≠ e → h.get? b = some u → h'.get? b = some u) (heo : ∃ u, h'.get? e = some u)
    (new : ObjOk P w (upd H x o') h' x o') : HOk P w (upd H x o') h' := fun b u q => by
  have nown : ∀ c y, H c = some (.own y) → c ≠ x := fun c y r z => by subst z; rw [r] at mu; exact mu
  have ntup : ∀ c xs, H c = some (.tup xs) → c ≠ x := fun c xs r z => by subst z; rw [r] at mu; exact mu
  by_cases hb : b = x
  · subst hb; rw [upd_same] at q; cases q; exact new
  · rw [upd_ne hb] at q
    by_cases hbe : b = e
    · have q' : H b = some (.own x) := by
        rcases he with z | z
        · exact absurd (hbe.trans z) hb
        · rw [hbe]; exact z
      rw [q] at q'; cases q'
      obtain ⟨v, hv⟩ := heo
      exact ⟨v, by rw [hbe]; exact hv⟩
    · refine (ok b u q).stay (fun c v hc r => k c v ?_ r) (fun c r => by rw [upd_ne (nown c b r)]; exact r) fun c xs r => by rw [upd_ne (ntup c xs r)]; exact r
      rcases hc with rfl | hc
      · exact hbe
      · rintro rfl
        rcases he with z | z
        · exact nown c b hc z
        · rw [hc] at z; cases z; exact hb rfl
end
structure Un (fs ex : List Addr) (H H' : Hp) (h h' : Heap) : Prop where
  keep : ∀ b o, h.get? b = some o → H b = none → b ∉ fs → b ∉ ex → h'.get? b = some o
  slot : ∀ b o, h.get? b = some o → H b = none → b ∈ fs → b ∉ ex → ∃ sl, h'.get? b = some { o with slots := sl }
  free : ∀ b o, h.get? b = some o → H b = none → b ∉ ex → H' b = none
  there : ∀ b o, h.get? b = some o → b ∉ ex → ∃ o', h'.get? b = some o'
  tups : ∀ b xs, H b = some (.tup xs) → H' b = some (.tup xs)
  frzs : ∀ b o u, H b = some (.frz o u) → H' b = some (.frz o u)
  tbls : ∀ b ps, H b = some (.tbl ps) → ∃ more, H' b = some (.tbl (ps ++ more))
section
variable {fs fs' ex ex' : List Addr} {H H1 H2 : Hp} {h h1 h2 h' : Heap} {a x e : Addr} {o : HO}
theorem Un.any (u : Un fs ex H H1 h h1) {b : Addr} {ob : Obj} (q : h.get? b = some ob) (n : H b = none) (hx : b ∉ ex) : ∃ sl, h1.get? b = some { ob with slots := sl } := by
  by_cases hb : b ∈ fs
  · exact u.slot b ob q n hb hx
  · exact ⟨ob.slots, u.keep b ob q n hb hx⟩
theorem Un.trans (a : Un fs ex H H1 h h1) (b : Un fs ex H1 H2 h1 h2) : Un fs ex H H2 h h2 where
  keep := fun c ob q n hc hx => b.keep c ob (a.keep c ob q n hc hx) (a.free c ob q n hx) hc hx
  slot := fun c ob q n hc hx => by
    obtain ⟨sl, e1⟩ := a.slot c ob q n hc hx
    obtain ⟨sl', e2⟩ := b.slot c _ e1 (a.free c ob q n hx) hc hx
    exact ⟨sl', e2⟩
  free := fun c ob q n hx => by
    obtain ⟨o', e1⟩ := a.there c ob q hx
    exact b.free c o' e1 (a.free c ob q n hx) hx
  there := fun c ob q hx => by
    obtain ⟨o', e1⟩ := a.there c ob q hx
    exact b.there c o' e1 hx
  tups := fun c xs q => b.tups c xs (a.tups c xs q)
  frzs := fun c ob xs q => b.frzs c ob xs (a.frzs c ob xs q)
  tbls := fun c ps q => by
    obtain ⟨m1, e1⟩ := a.tbls c ps q
    obtain ⟨m2, e2⟩ := b.tbls c _ e1
    exact ⟨m1 ++ m2, by rw [e2, Array.append_assoc]⟩
theorem Un.kept (k : ∀ b u, h.get? b = some u → h'.get? b = some u) : Un fs ex H H h h' :=
  ⟨fun b ob q _ _ _ => k b ob q, fun b ob q _ _ _ => ⟨ob.slots, k b ob q⟩, fun _ _ _ n _ => n, fun b ob q _ => ⟨ob, k b ob q⟩, fun _ _ q => q, fun _ _ _ q => q, fun _ ps q => ⟨#[], by rw [q]; simp⟩⟩
theorem Un.refl : Un fs ex H H h h := Un.kept fun _ _ q => q
theorem Un.laid (k : ∀ b u, h.get? b = some u → h'.get? b = some u) (hp : h.objs.size ≤ a) (hn : H a = none) : Un fs ex H (upd H a o) h h' where
  keep := fun b u q _ _ _ => k b u q
  slot := fun b u q _ _ _ => ⟨u.slots, k b u q⟩
  free := fun b u q n _ => by rw [upd_ne (Nat.ne_of_lt (Nat.lt_of_lt_of_le (Heap.lt_size q) hp))]; exact n
  there := fun b u q _ => ⟨u, k b u q⟩
  tups := fun b xs q => by rw [upd_ne (ne_of_none q hn)]; exact q
  frzs := fun b u xs q => by rw [upd_ne (ne_of_none q hn)]; exact q
  tbls := fun b ps q => ⟨#[], by rw [upd_ne (ne_of_none q hn), q]; simp⟩
theorem Un.write (mu : Mut (H x)) (he : e = x ∨ H e = some (.own x)) (k : ∀ b u, b ≠ e → h.get? b = some u → h'.get? b = some u) (heo : ∃ u, h'.get? e = some u) : Un fs ex H (upd H x o) h h' := by
  have hx : ∀ b, H b = none → b ≠ x := fun b n z => by subst z; rw [n] at mu; exact mu
  have hb : ∀ b, H b = none → b ≠ e := fun b n z => by
    subst z
    rcases he with r | r
    · exact hx b n r
    · rw [n] at r; cases r
  have hm : ∀ b u, H b = some u → ¬ Mut (some u) → b ≠ x := fun b u q nm z => by subst z; rw [q] at mu; exact nm mu
  refine ⟨fun b u q n _ _ => k b u (hb b n) q, fun b u q n _ _ => ⟨u.slots, k b u (hb b n) q⟩, fun b u q n _ => by rw [upd_ne (hx b n)]; exact n, fun b u q _ => ?_,
    fun b xs q => by rw [upd_ne (hm b _ q fun z => z)]; exact q, fun b u xs q => by rw [upd_ne (hm b _ q fun z => z)]; exact q, fun b ps q => ⟨#[], by rw [upd_ne (hm b _ q fun z => z), q]; simp⟩⟩
  by_cases hbe : b = e
  · subst hbe; exact heo
  · exact ⟨u, k b u hbe q⟩
theorem Un.mono (u : Un fs ex H H1 h h1) (hs : ∀ b ∈ fs, b ∈ fs') (hx : ∀ b ∈ ex, b ∈ ex') : Un fs' ex' H H1 h h1 :=
  ⟨fun b ob q n hb he => u.keep b ob q n (fun z => hb (hs b z)) fun z => he (hx b z), fun _ _ q n _ he => u.any q n fun z => he (hx _ z), fun b ob q n he => u.free b ob q n fun z => he (hx b z), fun b ob q he => u.there b ob q fun z => he (hx b z), u.tups, u.frzs, u.tbls⟩
end
def trk (h : Heap) (H : Hp) : List Addr := (List.range h.objs.size).filter fun a => (H a).isSome
def hidT (h : Heap) (H : Hp) : Heap := PySem.W.hideAll h (trk h H)
theorem hidT_size (h : Heap) (H : Hp) : (hidT h H).objs.size = h.objs.size := PySem.W.hideAll_size _ _
theorem hidT_get {h : Heap} {H : Hp} {b : Addr} {o : Obj} (e : h.get? b = some o) (n : H b = none) : (hidT h H).get? b = some o :=
  PySem.W.hideAll_get _ e fun hm => by
    have q : (H b).isSome = true := (List.mem_filter.mp hm).2
    rw [n] at q; simp at q
theorem of_hidT {h : Heap} {H : Hp} {b : Addr} {o : Obj} (e : (hidT h H).get? b = some o) : h.get? b = some o ∧ H b = none := by
  have e' : h.get? b = some o := PySem.W.of_hideAll (trk h H) e
  refine ⟨e', ?_⟩
  cases q : H b with
  | none => rfl
  | some x =>
    have hm : b ∈ trk h H := List.mem_filter.mpr ⟨List.mem_range.mpr (Heap.lt_size e'), by simp [q]⟩
    have z : (hidT h H).get? b = none := PySem.W.hideAll_none (trk h H) hm
    rw [z] at e; cases e
def allNews (g h : Heap) (L : Addr) : List (Addr × Obj) := (List.range h.objs.size).filterMap fun a => if a = L ∨ (g.get? a).isSome = true then none else (h.get? a).map fun o => (a, o)
def rest (g h : Heap) (L d : Addr) : List (Addr × Obj) := (allNews g h L).filter fun p => decide (p.1 ≠ d)
end L2
namespace L2
open PySem PySem.Spec PyProof.Rows
structure Mod (K : PySem.W.Frag) (mg : Str → Option Value) (base : Heap) : Prop where
  kin : K.In base
  glob : base.Ns mainGlobals mg
  blt : ∃ mb, base.Ns builtinsNs mb ∧ ∀ x : Str, x ≠ "__name__" → mb x = bootBuiltins x
  nolimit : base.NoLimit
/-- the context: a def's body (or a comprehension's block) running. base: fixed through the whole law; s₀, H₀: the entry; outer: the frames whose slots others may change (a def's callers); stack: all frames that run;
   ex: iterators that were made ahead of the entry and are walked here (a comprehension's); fn: the names whose cells were made at the entry (a def: all; a comprehension's block: its own); calm: not within an except suite; pn: pins that every state bears; xe: what is wanted of an exception that leaves the code -/
structure Cx where
  prog : Program
  w : World
  K : PySem.W.Frag
  mg : Str → Option Value
  base : Heap
  A : Around
  N : List Str
  s₀ : Shared
  H₀ : Hp
  env : Env
  outer : List Env
  stack : List Env
  ex : List Addr
  fn : Str → Bool
  calm : Bool
  pn : List (Addr × Obj)
  xe : Value → Shared → Prop
def frs (l : List Env) : List Addr := l.filterMap (·.frame)
abbrev Cx.fs (X : Cx) : List Addr := frs X.outer
def Vis (sc : Scope) (x : Str) : Prop := sc.names.lookup x = some .local ∨ sc.names.lookup x = some .cell ∨ sc.names.lookup x = some .free
def Loc (sc : Scope) (x : Str) : Prop := sc.names.lookup x = some .local ∨ sc.names.lookup x = some .cell
def Look (env : Env) (h : Heap) (m : Str → Option Value) (x : Str) (u : Value) : Prop :=
  (env.kindOf x = some .local ∧ m x = some u) ∨ ((env.kindOf x = some .cell ∨ env.kindOf x = some .free) ∧ ∃ c, env.cells.lookup x = some c ∧ h.IsCell c (some u))
structure Cx.Ok (X : Cx) : Prop where
  mod : Mod X.K X.mg X.base
  kind : X.env.scope.kind = .function
  glob : X.env.globals = mainGlobals
  blt : X.env.builtins = builtinsNs
  above : X.s₀.heap.objs.size ≤ X.env.locals
  inj : ∀ x y c, X.env.cells.lookup x = some c → X.env.cells.lookup y = some c → x = y
  has : ∀ x, (X.env.kindOf x = some .cell ∨ X.env.kindOf x = some .free) → ∃ c, X.env.cells.lookup x = some c
  cab : ∀ x c, X.fn x = true → X.env.cells.lookup x = some c → X.s₀.heap.objs.size ≤ c
  hd : X.calm = true → X.A.handled = none
  frames : X.A.frames = some X.stack
  stk : X.stack = X.outer ∨ (X.stack = X.env :: X.outer ∧ X.env.frame = some X.env.locals)
  exf : ∀ b ∈ X.ex, b ≠ X.env.locals ∧ ∀ x c, X.env.cells.lookup x = some c → c ≠ b
  bs : ∀ b o, X.base.get? b = some o → X.s₀.heap.get? b = some o ∧ X.H₀ b = none
  bsz : X.base.objs.size ≤ X.s₀.heap.objs.size
  noex : ∀ b o, X.base.get? b = some o → b ∉ X.ex
  exfs : ∀ b ∈ X.ex, b ∉ X.fs
  funs : X.s₀.heap.FunFrames X.base X.outer
  frf : ∀ b ∈ X.fs, X.H₀ b = none
structure Inv (X : Cx) (pins : List (Addr × Obj)) (σ : List (Option V)) (H : Hp) (s : Shared) : Prop where
  ok : X.Ok
  os : s.os = X.s₀.os
  bare : AllBare s.gens
  base : Un X.fs X.ex X.H₀ H X.s₀.heap s.heap
  loc : ∃ m, s.heap.Ns X.env.locals m ∧ ∀ (i : Nat) (x : Str) (v : V), X.N[i]? = some x → σ[i]? = some (some v) → Vis X.env.scope x → ∃ u, RelV v u ∧ Look X.env s.heap m x u
  cell : ∀ x c, X.env.cells.lookup x = some c → ∃ v, s.heap.IsCell c v
  free : H X.env.locals = none
  freeC : ∀ x c, X.env.cells.lookup x = some c → H c = none
  pin : ∀ p ∈ X.pn ++ pins, s.heap.get? p.1 = some p.2 ∧ H p.1 = none ∧ p.1 ≠ X.env.locals ∧ p.1 ∉ X.fs ∧ ∀ v, p.2.data ≠ .cell v
  hok : HOk X.prog X.w H s.heap
  len : σ.length = X.N.length
section
variable {X : Cx} {pins : List (Addr × Obj)} {σ : List (Option V)} {H H' : Hp} {s : Shared} {h' : Heap}
theorem Cx.Ok.nofr (ok : X.Ok) {b : Addr} {o : Obj} (e : X.base.get? b = some o) : b ∉ X.fs := fun hb => by
  have := (ok.funs.mem hb).1
  rw [e] at this; cases this
theorem Inv.bs (I : Inv X pins σ H s) : ∀ b o, X.base.get? b = some o → s.heap.get? b = some o ∧ H b = none := fun b o e =>
  ⟨I.base.keep b o (I.ok.bs b o e).1 (I.ok.bs b o e).2 (I.ok.nofr e) (I.ok.noex b o e), I.base.free b o (I.ok.bs b o e).1 (I.ok.bs b o e).2 (I.ok.noex b o e)⟩
theorem Inv.bk (I : Inv X pins σ H s) : ∀ b o, X.base.get? b = some o → s.heap.get? b = some o := fun b o e => (I.bs b o e).1
theorem Inv.mod (I : Inv X pins σ H s) : Mod X.K X.mg X.base := I.ok.mod
theorem Inv.kIn (I : Inv X pins σ H s) : X.K.In s.heap := I.ok.mod.kin.keeps I.bk
theorem Inv.nolimit (I : Inv X pins σ H s) : s.heap.NoLimit := I.ok.mod.nolimit.keeps I.bk
theorem Inv.fr (I : Inv X pins σ H s) : ∃ m, Fr X.base X.env.locals s.heap m :=
  let ⟨m, hn, _⟩ := I.loc
  ⟨m, hn, I.bk, Nat.le_trans I.ok.bsz I.ok.above⟩
theorem Inv.lt (I : Inv X pins σ H s) : X.env.locals < s.heap.objs.size := let ⟨_, hn, _⟩ := I.loc; hn.lt
theorem Inv.sz (I : Inv X pins σ H s) : X.s₀.heap.objs.size ≤ s.heap.objs.size := Nat.le_trans I.ok.above (Nat.le_of_lt I.lt)
theorem Inv.nofs (I : Inv X pins σ H s) {a : Addr} (h : s.heap.objs.size ≤ a) : a ∉ X.fs := fun hb => by
  obtain ⟨_, o, ho, _⟩ := I.ok.funs.mem hb
  exact absurd (Nat.lt_of_lt_of_le (Heap.lt_size ho) (Nat.le_trans I.sz h)) (Nat.lt_irrefl _)
theorem Inv.cne (I : Inv X pins σ H s) : ∀ x c, X.env.cells.lookup x = some c → c ≠ X.env.locals := fun x c e z => by
  obtain ⟨v, o, ho, hd⟩ := I.cell x c e
  obtain ⟨m, ⟨o', es, ep, ho', hd', _⟩, _⟩ := I.loc
  rw [z, ho'] at ho; cases ho; rw [hd'] at hd; cases hd
theorem Inv.funs (I : Inv X pins σ H s) : s.heap.FunFrames X.base X.outer := by
  have all : ∀ (l : List Env), (∀ b ∈ frs l, b ∈ X.fs) → X.s₀.heap.FunFrames X.base l → s.heap.FunFrames X.base l := by
    intro l
    induction l with
    | nil => intro _ _; trivial
    | cons env r ih =>
      intro hs hl
      obtain ⟨hk, ⟨L, o, hf, hn, ho, hd⟩, hr⟩ := hl
      have hL : L ∈ X.fs := hs L (by unfold frs; rw [List.filterMap_cons, hf]; exact List.mem_cons_self)
      obtain ⟨sl, e⟩ := I.base.slot L o ho (I.ok.frf L hL) hL fun z => I.ok.exfs L z hL
      exact ⟨hk, ⟨L, _, hf, hn, e, hd⟩, ih (fun b hb => hs b (by unfold frs; rw [List.filterMap_cons, hf]; exact List.mem_cons_of_mem _ hb)) hr⟩
  exact all X.outer (fun _ hb => hb) I.ok.funs
theorem Inv.stack (I : Inv X pins σ H s) : s.heap.FunFrames X.base X.stack := by
  rcases I.ok.stk with e | ⟨e, hf⟩
  · rw [e]; exact I.funs
  · rw [e]
    obtain ⟨m, hn, _⟩ := I.loc
    refine .cons (by rw [I.ok.kind]; decide) hf hn ?_ I.funs
    exact Heap.get?_none_of_le (Nat.le_trans I.ok.bsz I.ok.above)
theorem Inv.stkSub (I : Inv X pins σ H s) : ∀ b ∈ frs X.stack, b ∈ X.env.locals :: X.fs := fun b hb => by
  rcases I.ok.stk with e | ⟨e, hf⟩
  · rw [e] at hb; exact List.mem_cons_of_mem _ hb
  · rw [e] at hb
    unfold frs at hb
    rw [List.filterMap_cons, hf] at hb
    exact hb
theorem Inv.stkFree (I : Inv X pins σ H s) : ∀ b ∈ frs X.stack, H b = none := fun b hb => by
  rcases List.mem_cons.mp (I.stkSub b hb) with e | hb
  · rw [e]; exact I.free
  · obtain ⟨_, o, ho, _⟩ := I.ok.funs.mem hb
    exact I.base.free b o ho (I.ok.frf b hb) fun z => I.ok.exfs b z hb
theorem Inv.step {g' : Array GenState} {t' : Nat} {d' : Drawn} {ch : List Addr} (I : Inv X pins σ H s)
    (hch : ∀ b ∈ ch, (b ∈ X.ex ∨ X.s₀.heap.objs.size ≤ b) ∧ b ≠ X.env.locals ∧ (∀ x c, X.env.cells.lookup x = some c → c ≠ b) ∧ ∀ p ∈ X.pn ++ pins, p.1 ≠ b)
    (keep : ∀ b o, b ≠ X.env.locals → b ∉ X.fs → b ∉ ch → s.heap.get? b = some o → H b = none → h'.get? b = some o)
    (slot : ∀ b o, b ≠ X.env.locals → b ∈ X.fs → b ∉ ch → s.heap.get? b = some o → H b = none → ∃ sl, h'.get? b = some { o with slots := sl }) (free : ∀ b o, b ∉ ch → s.heap.get? b = some o → H b = none → H' b = none)
    (there : ∀ b o, b ∉ ch → s.heap.get? b = some o → ∃ o', h'.get? b = some o')
    (tups : ∀ b xs, H b = some (.tup xs) → H' b = some (.tup xs)) (frzs : ∀ b o u, H b = some (.frz o u) → H' b = some (.frz o u)) (tbls : ∀ b ps, H b = some (.tbl ps) → ∃ more, H' b = some (.tbl (ps ++ more)))
    (ns : ∀ m, s.heap.Ns X.env.locals m → h'.Ns X.env.locals m) (hok : HOk X.prog X.w H' h') (hg : AllBare g') :
    Inv X pins σ H' { s with heap := h', gens := g', drawn := d', toks := t' } := by
  have neL : ∀ b o, X.s₀.heap.get? b = some o → b ≠ X.env.locals := fun b o e => Nat.ne_of_lt (Nat.lt_of_lt_of_le (Heap.lt_size e) I.ok.above)
  have neC : ∀ b o, X.s₀.heap.get? b = some o → b ∉ X.ex → b ∉ ch := fun b o e hx hb => by
    rcases (hch b hb).1 with z | z
    · exact hx z
    · exact absurd (Nat.lt_of_lt_of_le (Heap.lt_size e) z) (Nat.lt_irrefl _)
  have cellK : ∀ x c, X.env.cells.lookup x = some c → ∀ v, s.heap.IsCell c v → h'.IsCell c v := fun x c e v ⟨o, ho, hd⟩ => by
    have nch : c ∉ ch := fun z => (hch c z).2.2.1 x c e rfl
    by_cases hc : c ∈ X.fs
    · obtain ⟨sl, q⟩ := slot c o (I.cne x c e) hc nch ho (I.freeC x c e)
      exact ⟨_, q, hd⟩
    · exact ⟨o, keep c o (I.cne x c e) hc nch ho (I.freeC x c e), hd⟩
  refine ⟨I.ok, I.os, hg, ⟨fun b o e n hb hx => ?_, fun b o e n hb hx => ?_, fun b o e n hx => ?_, fun b o e hx => ?_, fun b xs e => tups b xs (I.base.tups b xs e), fun b o xs e => frzs b o xs (I.base.frzs b o xs e), fun b ps e => ?_⟩, ?_, fun x c e => ?_, ?_, fun x c e => ?_, fun p hp => ?_, hok, I.len⟩
  · exact keep b o (neL b o e) hb (neC b o e hx) (I.base.keep b o e n hb hx) (I.base.free b o e n hx)
  · obtain ⟨sl, e1⟩ := I.base.slot b o e n hb hx
    obtain ⟨sl', e2⟩ := slot b _ (neL b o e) hb (neC b o e hx) e1 (I.base.free b o e n hx)
    exact ⟨sl', e2⟩
  · obtain ⟨o', e1⟩ := I.base.there b o e hx
    exact free b o' (neC b o e hx) e1 (I.base.free b o e n hx)
  · obtain ⟨o', e1⟩ := I.base.there b o e hx
    exact there b o' (neC b o e hx) e1
  · obtain ⟨m1, e1⟩ := I.base.tbls b ps e
    obtain ⟨m2, e2⟩ := tbls b _ e1
    exact ⟨m1 ++ m2, by rw [e2, Array.append_assoc]⟩
  · obtain ⟨m, hn, hl⟩ := I.loc
    refine ⟨m, ns m hn, fun i x v e1 e2 e3 => ?_⟩
    obtain ⟨u, r, l⟩ := hl i x v e1 e2 e3
    refine ⟨u, r, ?_⟩
    rcases l with l | ⟨k, c, e, z⟩
    · exact .inl l
    · exact .inr ⟨k, c, e, cellK x c e _ z⟩
  · obtain ⟨v, z⟩ := I.cell x c e
    exact ⟨v, cellK x c e v z⟩
  · obtain ⟨m, ⟨o, _, _, ho, _⟩, _⟩ := I.loc
    exact free _ o (fun z => (hch _ z).2.1 rfl) ho I.free
  · obtain ⟨v, o, ho, hd⟩ := I.cell x c e
    exact free c o (fun z => (hch c z).2.2.1 x c e rfl) ho (I.freeC x c e)
  · obtain ⟨e, n, ne, nf, d⟩ := I.pin p hp
    have nch : p.1 ∉ ch := fun z => (hch p.1 z).2.2.2 p hp rfl
    exact ⟨keep p.1 p.2 ne nf nch e n, free p.1 p.2 nch e n, ne, nf, d⟩
theorem Inv.un {t' : Nat} (I : Inv X pins σ H s) (u : Un X.fs [] H H' s.heap h') (hok : HOk X.prog X.w H' h') : Inv X pins σ H' { s with heap := h', toks := t' } := by
  obtain ⟨m, ⟨o, es, ep, ho, r⟩, _⟩ := id I.loc
  obtain ⟨sl, hL⟩ := u.any ho I.free (by simp)
  exact I.step (g' := s.gens) (d' := s.drawn) (ch := []) (fun _ z => nomatch z) (fun b o _ hb _ e n => u.keep b o e n hb (by simp)) (fun b o _ hb _ e n => u.slot b o e n hb (by simp)) (fun b o _ e n => u.free b o e n (by simp)) (fun b o _ e => u.there b o e (by simp)) u.tups u.frzs u.tbls (fun m' hm => by
    obtain ⟨o', es', ep', ho', r'⟩ := hm
    rw [ho] at ho'; cases ho'
    exact ⟨_, es', ep', hL, r'⟩) hok I.bare
theorem Inv.call {g' : Array GenState} {t' : Nat} {d' : Drawn} {ch : List Addr} (I : Inv X pins σ H s) (u : Un (frs X.stack) ch H H' s.heap h') (hok : HOk X.prog X.w H' h') (hg : AllBare g')
    (hch : ∀ b ∈ ch, (b ∈ X.ex ∨ X.s₀.heap.objs.size ≤ b) ∧ b ≠ X.env.locals ∧ (∀ x c, X.env.cells.lookup x = some c → c ≠ b) ∧ ∀ p ∈ X.pn ++ pins, p.1 ≠ b) :
    Inv X pins σ H' { s with heap := h', gens := g', drawn := d', toks := t' } := by
  obtain ⟨m, ⟨o, es, ep, ho, r⟩, _⟩ := id I.loc
  obtain ⟨sl, hL⟩ := u.any ho I.free fun z => (hch _ z).2.1 rfl
  exact I.step (ch := ch) hch (fun b o hL hb hc e n => u.keep b o e n (fun z => (List.mem_cons.mp (I.stkSub b z)).elim hL hb) hc) (fun b o _ _ hc e n => u.any e n hc) (fun b o hc e n => u.free b o e n hc) (fun b o hc e => u.there b o e hc) u.tups u.frzs u.tbls (fun m' hm => by
    obtain ⟨o', es', ep', ho', r'⟩ := hm
    rw [ho] at ho'; cases ho'
    exact ⟨_, es', ep', hL, r'⟩) hok hg
theorem Inv.turned {t' : Nat} {it : Addr} (I : Inv X pins σ H s) (k : ∀ b o, b ≠ it → s.heap.get? b = some o → h'.get? b = some o) (hn : H it = none) (hL : it ≠ X.env.locals)
    (h1 : it ∈ X.ex ∨ X.s₀.heap.objs.size ≤ it) (h2 : ∀ x c, X.env.cells.lookup x = some c → c ≠ it) (h3 : ∀ p ∈ X.pn ++ pins, p.1 ≠ it) : Inv X pins σ H { s with heap := h', toks := t' } := by
  have nit : ∀ b u, H b = some u → b ≠ it := fun b u e z => by rw [z, hn] at e; cases e
  refine I.step (g' := s.gens) (d' := s.drawn) (ch := [it]) (fun b hb => ?_) (fun b o _ _ hc e _ => k b o (fun z => hc (by simp [z])) e) (fun b o _ _ hc e _ => ⟨o.slots, k b o (fun z => hc (by simp [z])) e⟩) (fun _ _ _ _ n => n)
    (fun b o hc e => ⟨o, k b o (fun z => hc (by simp [z])) e⟩) (fun _ _ e => e) (fun _ _ _ e => e) (fun b ps e => ⟨#[], by rw [e]; simp⟩) (fun m hm => ?_) (fun b u e => ?_) I.bare
  · have e : b = it := by simpa using hb
    subst e
    exact ⟨h1, hL, h2, h3⟩
  · obtain ⟨o, es, ep, ho, r⟩ := hm
    exact ⟨o, es, ep, k _ o (Ne.symm hL) ho, r⟩
  · refine (I.hok b u e).stay (fun c v hc q => k c v ?_ q) (fun _ q => q) fun _ _ q => q
    rcases hc with z | z
    · rw [z]; exact nit b u e
    · exact nit c _ z
theorem Inv.tok (I : Inv X pins σ H s) (t : Nat) : Inv X pins σ H { s with toks := t } := I.un (h' := s.heap) (t' := t) Un.refl I.hok
theorem Inv.kept {t' : Nat} (I : Inv X pins σ H s) (k : ∀ b u, s.heap.get? b = some u → h'.get? b = some u) : Inv X pins σ H { s with heap := h', toks := t' } := I.un (Un.kept k) (I.hok.kept k)
theorem Inv.laid {a : Addr} {o : HO} {t' : Nat} (I : Inv X pins σ H s) (k : ∀ b u, s.heap.get? b = some u → h'.get? b = some u) (hp : s.heap.objs.size ≤ a) (new : ObjOk X.prog X.w (upd H a o) h' a o) :
    Inv X pins σ (upd H a o) { s with heap := h', toks := t' } := I.un (Un.laid k hp (I.hok.fresh hp)) (I.hok.laid k hp new)
theorem Inv.write {x e : Addr} {o : HO} {t' : Nat} (I : Inv X pins σ H s) (mu : Mut (H x)) (he : e = x ∨ H e = some (.own x)) (k : ∀ b u, b ≠ e → s.heap.get? b = some u → h'.get? b = some u) (heo : ∃ u, h'.get? e = some u)
    (new : ObjOk X.prog X.w (upd H x o) h' x o) : Inv X pins σ (upd H x o) { s with heap := h', toks := t' } := I.un (Un.write mu he k heo) (I.hok.write mu he k heo new)
theorem Inv.weak {σ' : List (Option V)} (I : Inv X pins σ H s) (hl : σ'.length = σ.length) (w : ∀ (i : Nat) v, σ'[i]? = some (some v) → σ[i]? = some (some v)) : Inv X pins σ' H s :=
  ⟨I.ok, I.os, I.bare, I.base, let ⟨m, hn, hl'⟩ := I.loc; ⟨m, hn, fun i x v e1 e2 e3 => hl' i x v e1 (w i v e2) e3⟩, I.cell, I.free, I.freeC, I.pin, I.hok, hl.trans I.len⟩
theorem Inv.pins_of {pins' : List (Addr × Obj)} (I : Inv X pins σ H s) (h : ∀ p ∈ pins', s.heap.get? p.1 = some p.2 ∧ H p.1 = none ∧ p.1 ≠ X.env.locals ∧ p.1 ∉ X.fs ∧ ∀ v, p.2.data ≠ .cell v) : Inv X pins' σ H s :=
  ⟨I.ok, I.os, I.bare, I.base, I.loc, I.cell, I.free, I.freeC, fun p hp => (List.mem_append.mp hp).elim (fun z => I.pin p (List.mem_append_left _ z)) (h p), I.hok, I.len⟩
theorem nodup_ix {N : List Str} (hN : N.Nodup) {i j : Nat} {x : Str} (a : N[i]? = some x) (b : N[j]? = some x) : i = j := by
  obtain ⟨h1, e1⟩ := List.getElem?_eq_some_iff.mp a
  obtain ⟨h2, e2⟩ := List.getElem?_eq_some_iff.mp b
  exact (List.getElem_inj hN).mp (e1.trans e2.symm)
theorem store_ok2 {M : Model} {A : Around} {E : Value → Shared → Prop} {i : Nat} {x : Str} {v : V} {u : Value} {Q : Unit → Shared → Prop} (I : Inv X pins σ H s) (hN : X.N.Nodup) (hi : X.N[i]? = some x) (hx : Loc X.env.scope x) (r : RelV v u)
    (h : ∀ s', Inv X pins (σ.set i (some v)) H s' → (∃ a, Heap.SameBut a s.heap s'.heap ∧ (a = X.env.locals ∨ X.env.cells.lookup x = some a)) → Q () s') (hf : X.fn x = true ∨ X.env.scope.names.lookup x = some .local := by first | exact .inl rfl | exact .inr rfl | assumption) : wpAny M A (storeName X.env x u) Q E s := by
  obtain ⟨m, hn, hl⟩ := id I.loc
  have hcls : (X.env.scope.kind == .class || (X.env.scope.kind == .module && X.env.locals != X.env.globals)) = false := by rw [I.ok.kind]; rfl
  have hiσ : i < σ.length := by rw [I.len]; exact (List.getElem?_eq_some_iff.mp hi).1
  have cne := I.cne
  have tracked : ∀ {a : Addr} {h' : Heap}, (∃ o, s.heap.get? a = some o ∧ H a = none) → Heap.SameBut a s.heap h' → HOk X.prog X.w H h' := fun {a h'} ha hs b ob e => by
    obtain ⟨_, _, hfree⟩ := ha
    refine (I.hok b ob e).stay (fun c w' hc q => (hs.2 c ?_).trans q) (fun _ q => q) fun _ _ q => q
    rintro rfl
    rcases hc with rfl | hc
    · rw [hfree] at e; cases e
    · rw [hfree] at hc; cases hc
  rcases hx with hk | hk
  · refine wpAny_storeName_local hk hn (fun h' hn' hs => ?_) hcls
    obtain ⟨oL, _, _, hoL, _⟩ := id hn
    refine h _ ⟨I.ok, I.os, I.bare, ⟨fun b o e n hb hx => ?_, fun b o e n hb hx => ?_, I.base.free, fun b o e hx => ?_, I.base.tups, I.base.frzs, I.base.tbls⟩, ⟨_, hn', fun j y v' e1 e2 e3 => ?_⟩, fun y c e => ?_, I.free, I.freeC, fun p hp => ?_, tracked ⟨oL, hoL, I.free⟩ hs, by simpa using I.len⟩ ⟨_, hs, .inl rfl⟩
    · exact (hs.2 b (Nat.ne_of_lt (Nat.lt_of_lt_of_le (Heap.lt_size e) I.ok.above))).trans (I.base.keep b o e n hb hx)
    · obtain ⟨sl, e1⟩ := I.base.slot b o e n hb hx
      exact ⟨sl, (hs.2 b (Nat.ne_of_lt (Nat.lt_of_lt_of_le (Heap.lt_size e) I.ok.above))).trans e1⟩
    · obtain ⟨o', e1⟩ := I.base.there b o e hx
      exact ⟨o', (hs.2 b (Nat.ne_of_lt (Nat.lt_of_lt_of_le (Heap.lt_size e) I.ok.above))).trans e1⟩
    · by_cases hj : j = i
      · subst hj
        rw [hi] at e1; cases e1
        rw [List.getElem?_set_self hiσ] at e2
        cases e2
        exact ⟨u, r, .inl ⟨hk, by simp⟩⟩
      · rw [List.getElem?_set_ne (Ne.symm hj)] at e2
        obtain ⟨u', r', q⟩ := hl j y v' e1 e2 e3
        refine ⟨u', r', ?_⟩
        rcases q with ⟨k, e⟩ | ⟨k, c, e, z⟩
        · refine .inl ⟨k, ?_⟩
          have : y ≠ x := fun e => hj (nodup_ix hN e1 (e ▸ hi))
          simp [this, e]
        · exact .inr ⟨k, c, e, z.sameBut hs (cne y c e)⟩
    · obtain ⟨w', z⟩ := I.cell y c e
      exact ⟨w', z.sameBut hs (cne y c e)⟩
    · obtain ⟨e, n, ne, nf, d⟩ := I.pin p hp
      exact ⟨(hs.2 p.1 ne).trans e, n, ne, nf, d⟩
  · have hfn : X.fn x = true := by
      rcases hf with z | z
      · exact z
      · rw [z] at hk; cases hk
    obtain ⟨c, hc⟩ := I.ok.has x (.inl hk)
    obtain ⟨w', z⟩ := I.cell x c hc
    refine wpAny_storeName_cell I.ok.kind hk hc z (fun h' hc' hs => ?_)
    obtain ⟨oc, hoc, hocd⟩ := id z
    refine h { s with heap := h' } ⟨I.ok, I.os, I.bare, ⟨fun b o e n hb hx => ?_, fun b o e n hb hx => ?_, I.base.free, fun b o e hx => ?_, I.base.tups, I.base.frzs, I.base.tbls⟩, ⟨m, hn.sameBut hs (Ne.symm (cne x c hc)), fun j y v' e1 e2 e3 => ?_⟩, fun y c' e => ?_, I.free, I.freeC, fun p hp => ?_, tracked ⟨oc, hoc, I.freeC x c hc⟩ hs, by simpa using I.len⟩ ⟨c, hs, .inr hc⟩
    · exact (hs.2 b (Nat.ne_of_lt (Nat.lt_of_lt_of_le (Heap.lt_size e) (I.ok.cab x c hfn hc)))).trans (I.base.keep b o e n hb hx)
    · obtain ⟨sl, e1⟩ := I.base.slot b o e n hb hx
      exact ⟨sl, (hs.2 b (Nat.ne_of_lt (Nat.lt_of_lt_of_le (Heap.lt_size e) (I.ok.cab x c hfn hc)))).trans e1⟩
    · obtain ⟨o', e1⟩ := I.base.there b o e hx
      exact ⟨o', (hs.2 b (Nat.ne_of_lt (Nat.lt_of_lt_of_le (Heap.lt_size e) (I.ok.cab x c hfn hc)))).trans e1⟩
    · by_cases hj : j = i
      · subst hj
        rw [hi] at e1; cases e1
        rw [List.getElem?_set_self hiσ] at e2
        cases e2
        exact ⟨u, r, .inr ⟨.inl hk, c, hc, hc'⟩⟩
      · rw [List.getElem?_set_ne (Ne.symm hj)] at e2
        obtain ⟨u', r', q⟩ := hl j y v' e1 e2 e3
        refine ⟨u', r', ?_⟩
        rcases q with q | ⟨k, c', e, z'⟩
        · exact .inl q
        · refine .inr ⟨k, c', e, z'.sameBut hs ?_⟩
          rintro rfl
          exact hj (nodup_ix hN e1 (I.ok.inj _ _ _ e hc ▸ hi))
    · by_cases hcc : c' = c
      · subst hcc; exact ⟨_, hc'⟩
      · obtain ⟨w2, z2⟩ := I.cell y c' e
        exact ⟨w2, z2.sameBut hs hcc⟩
    · obtain ⟨e, n, ne, nf, d⟩ := I.pin p hp
      refine ⟨(hs.2 p.1 ?_).trans e, n, ne, nf, d⟩
      intro q
      rw [q, hoc] at e
      have q' : oc = p.2 := Option.some.inj e
      exact d w' (by rw [← q']; exact hocd)
theorem store_ok {M : Model} {A : Around} {E : Value → Shared → Prop} {i : Nat} {x : Str} {v : V} {u : Value} {Q : Unit → Shared → Prop} (I : Inv X pins σ H s) (hN : X.N.Nodup) (hi : X.N[i]? = some x) (hx : Loc X.env.scope x) (r : RelV v u)
    (h : ∀ s', Inv X pins (σ.set i (some v)) H s' → Q () s') (hf : X.fn x = true ∨ X.env.scope.names.lookup x = some .local := by first | exact .inl rfl | exact .inr rfl | assumption) : wpAny M A (storeName X.env x u) Q E s :=
  store_ok2 I hN hi hx r (fun s' I' _ => h s' I') hf
theorem Inv.call' {s' : Shared} {ch : List Addr} (I : Inv X pins σ H s) (ho : s'.os = s.os) (u : Un (frs X.stack) ch H H' s.heap s'.heap) (hok : HOk X.prog X.w H' s'.heap) (hg : AllBare s'.gens)
    (hch : ∀ b ∈ ch, (b ∈ X.ex ∨ X.s₀.heap.objs.size ≤ b) ∧ b ≠ X.env.locals ∧ (∀ x c, X.env.cells.lookup x = some c → c ≠ b) ∧ ∀ p ∈ X.pn ++ pins, p.1 ≠ b) : Inv X pins σ H' s' := by
  obtain ⟨h', g', d', t', o'⟩ := s'
  have e : o' = s.os := ho
  subst e
  exact I.call (g' := g') (t' := t') (d' := d') u hok hg hch
end
abbrev XK := Value → Option Addr → Hp → Prop
abbrev St := List (Option V)
abbrev VK := V → Hp → Prop
abbrev TE := St → Hp → VK → Prop
abbrev TT := St → Hp → (Bool → Hp → Prop) → Prop
abbrev TA := St → Hp → (List V → Hp → Prop) → Prop
structure Ends where
  nx : St → Hp → Prop
  rt : VK
  bk : St → Hp → Prop := fun _ _ => False
  ct : St → Hp → Prop := fun _ _ => False
abbrev TS := Ends → St → Hp → Prop
def EP (X : Cx) (pins : List (Addr × Obj)) (σ : St) (Q : VK) (u : Value) (s' : Shared) : Prop := ∃ v H', Inv X pins σ H' s' ∧ RelV v u ∧ Q v H'
def TP (X : Cx) (pins : List (Addr × Obj)) (σ : St) (Q : Bool → Hp → Prop) (b : Bool) (s' : Shared) : Prop := ∃ H', Inv X pins σ H' s' ∧ Q b H'
def AP (X : Cx) (pins : List (Addr × Obj)) (σ : St) (Q : List V → Hp → Prop) (us : List Value) (s' : Shared) : Prop := ∃ vs H', Inv X pins σ H' s' ∧ Vals vs us ∧ Q vs H'
def SP (X : Cx) (pins : List (Addr × Obj)) (D : Ends) (f : Flow) (s' : Shared) : Prop :=
  match f with
  | .next => ∃ σ' H', Inv X pins σ' H' s' ∧ D.nx σ' H'
  | .brk => ∃ σ' H', Inv X pins σ' H' s' ∧ D.bk σ' H'
  | .cont => ∃ σ' H', Inv X pins σ' H' s' ∧ D.ct σ' H'
  | .ret u => ∃ v σ' H', Inv X pins σ' H' s' ∧ RelV v u ∧ D.rt v H'
def PE (X : Cx) (e : Expr) (t : TE) : Prop :=
  ∀ (pins : List (Addr × Obj)) (s : Shared) (σ : St) (H : Hp) (Q : VK), Inv X pins σ H s → t σ H Q → wpAny (model X.prog X.w) X.A (eval e X.env) (EP X pins σ Q) X.xe s
def PT (X : Cx) (e : Expr) (t : TT) : Prop :=
  ∀ (pins : List (Addr × Obj)) (s : Shared) (σ : St) (H : Hp) (Q : Bool → Hp → Prop), Inv X pins σ H s → t σ H Q → wpAny (model X.prog X.w) X.A (isTrue e X.env (eval e X.env)) (TP X pins σ Q) X.xe s
def PW (X : Cx) (e : Expr) (t : TT) : Prop :=
  ∀ (whole : Sem Value) (pins : List (Addr × Obj)) (s : Shared) (σ : St) (H : Hp) (Q : Bool → Hp → Prop), Inv X pins σ H s → t σ H Q → wpAny (model X.prog X.w) X.A (isTrue e X.env whole) (TP X pins σ Q) X.xe s
theorem PW.pt {X : Cx} {e : Expr} {t : TT} (h : PW X e t) : PT X e t := h _
def PA (X : Cx) (es : List Expr) (t : TA) : Prop :=
  ∀ (pos : Pos) (pins : List (Addr × Obj)) (s : Shared) (σ : St) (H : Hp) (Q : List V → Hp → Prop), Inv X pins σ H s → t σ H Q → wpAny (model X.prog X.w) X.A (spliced (backTo pos (starEach es X.env))) (AP X pins σ Q) X.xe s
def PS (X : Cx) (st : Stmt) (t : TS) : Prop :=
  ∀ (pins : List (Addr × Obj)) (s : Shared) (σ : St) (H : Hp) (D : Ends), Inv X pins σ H s → t D σ H → wpAny (model X.prog X.w) X.A (exec st X.env) (SP X pins D) X.xe s
def PSs (X : Cx) (st : List Stmt) (t : TS) : Prop :=
  ∀ (pins : List (Addr × Obj)) (s : Shared) (σ : St) (H : Hp) (D : Ends), Inv X pins σ H s → t D σ H → wpAny (model X.prog X.w) X.A (execs st X.env) (SP X pins D) X.xe s
theorem thn {α : Type} {t : Sem α} {Q Q' : α → Shared → Prop} {M : Model} {A : Around} {E : Value → Shared → Prop} {s : Shared} (h : wpAny M A t Q E s) (hQ : ∀ a s, Q a s → Q' a s) : wpAny M A t Q' E s := wpAny_mono h hQ fun _ _ x => x
end L2
namespace L2
open PySem PySem.Spec PyProof.Rows
section
variable {X : Cx}
def tVar (i : Nat) : TE := fun σ H Q => ∃ v, σ[i]? = some (some v) ∧ Q v H
def tC (v : V) : TE := fun _ H Q => Q v H
theorem pe_var {i : Nat} {x : Str} {pos : Pos} (hN : X.N[i]? = some x) (hv : Vis X.env.scope x) (hd : (x == ("__debug__" : Str)) = false := by decide) (hcd : (x == ("__classdict__" : Str)) = false := by decide) : PE X (.Name x pos) (tVar i) := by
  intro pins s σ H Q I h
  obtain ⟨v, e, h⟩ := h
  obtain ⟨m, hn, hl⟩ := I.loc
  obtain ⟨u, r, l⟩ := hl i x v hN e hv
  have fin : EP X pins σ Q u s := ⟨v, H, I, r, h⟩
  rcases l with ⟨hk, hm⟩ | ⟨hk, c, hc, hcell⟩
  · exact wpAny_Name (wpAny_loadName_local I.ok.kind hk hn hm fin) hd
  · rcases hk with hk | hk
    · exact wpAny_Name (wpAny_loadName_cell I.ok.kind hk hc hcell fin) hd
    · exact wpAny_Name (wpAny_loadName_free I.ok.kind hk hc hcell fin hcd) hd
theorem pe_int {i j pos} : PE X (.Constant (.int i) j pos) (tC (.int i)) := fun _ _ _ H _ I h => wpAny_Constant_int ⟨.int i, H, I.tok _, ⟨_, rfl⟩, h⟩
theorem pe_bl {b j pos} : PE X (.Constant (.bool b) j pos) (tC (.bl b)) := fun _ _ _ H _ I h => Constant_bool ⟨.bl b, H, I, rfl, h⟩
theorem pe_non {j pos} : PE X (.Constant .none j pos) (tC .non) := fun _ _ _ H _ I h => Constant_none ⟨.non, H, I, rfl, h⟩
theorem pe_str {x j pos} : PE X (.Constant (.str x) j pos) (tC (.str x)) := fun _ _ _ H _ I h => Calls.Constant_str ⟨.str x, H, I.tok _, ⟨_, rfl⟩, h⟩
def Gl (X : Cx) (x : Str) : Prop := X.env.kindOf x = some .globalImplicit
theorem ld_glob {E : Value → Shared → Prop} {pins : List (Addr × Obj)} {s : Shared} {σ : St} {H : Hp} {x : Str} {u : Value} {pos : Pos} {Q : Value → Shared → Prop} (I : Inv X pins σ H s) (hg : Gl X x) (hm : X.mg x = some u) (h : Q u s)
    (hd : (x == ("__debug__" : Str)) = false := by decide) : wpAny (model X.prog X.w) X.A (eval (.Name x pos) X.env) Q E s :=
  Calls.Name_function_global I.ok.kind hg (Calls.loadGlobal_global (by rw [I.ok.glob]; exact I.mod.glob.keeps I.bk) hm h) hd
theorem ld_blt {E : Value → Shared → Prop} {pins : List (Addr × Obj)} {s : Shared} {σ : St} {H : Hp} {x : Str} {u : Value} {pos : Pos} {Q : Value → Shared → Prop} (I : Inv X pins σ H s) (hg : Gl X x) (hm : X.mg x = none) (hv : bootBuiltins x = some u) (h : Q u s)
    (hn : x ≠ "__name__" := by decide) (hd : (x == ("__debug__" : Str)) = false := by decide) : wpAny (model X.prog X.w) X.A (eval (.Name x pos) X.env) Q E s := by
  obtain ⟨mb, h1, h2⟩ := I.mod.blt
  exact Calls.Name_function_global I.ok.kind hg (Calls.loadGlobal_builtin (by rw [I.ok.glob]; exact I.mod.glob.keeps I.bk) hm (by rw [I.ok.blt]; exact h1.keeps I.bk) ((h2 x hn).trans hv) h) hd
theorem pe_glob {x : Str} {v : V} {u : Value} {pos : Pos} (hg : Gl X x) (hm : X.mg x = some u) (r : RelV v u) (hd : (x == ("__debug__" : Str)) = false := by decide) : PE X (.Name x pos) (tC v) :=
  fun _ _ _ H _ I h => ld_glob I hg hm ⟨v, H, I, r, h⟩ hd
theorem pe_bltn {x : Str} {v : V} {u : Value} {pos : Pos} (hg : Gl X x) (hm : X.mg x = none) (hv : bootBuiltins x = some u) (r : RelV v u) (hn : x ≠ "__name__" := by decide) (hd : (x == ("__debug__" : Str)) = false := by decide) : PE X (.Name x pos) (tC v) :=
  fun _ _ _ H _ I h => ld_blt I hg hm hv ⟨v, H, I, r, h⟩ hn hd
def t2I (ta tb : TE) (k : Int → Int → Hp → Prop) : St → Hp → Prop := fun σ H => ta σ H fun x H1 => tb σ H1 fun y H2 => ∃ i j, x = .int i ∧ y = .int j ∧ k i j H2
def tAdd (ta tb : TE) : TE := fun σ H Q => t2I ta tb (fun i j H2 => Q (.int (i + j)) H2) σ H
def tSub (ta tb : TE) : TE := fun σ H Q => t2I ta tb (fun i j H2 => Q (.int (i - j)) H2) σ H
def tMul (ta tb : TE) : TE := fun σ H Q => t2I ta tb (fun i j H2 => (-(2 ^ 64) < i ∧ i < 2 ^ 64) ∧ Q (.int (i * j)) H2) σ H
variable {a b : Expr} {ta tb : TE} {pos : Pos}
def PC (X : Cx) (op : CmpOp) (a b : Expr) (t : TE) : Prop :=
  ∀ (pins : List (Addr × Obj)) (s : Shared) (σ : St) (H : Hp) (Q : VK), Inv X pins σ H s → t σ H Q →
    wpAny (model X.prog X.w) X.A (eval a X.env) (fun v s₁ => wpAny (model X.prog X.w) X.A (eval b X.env) (fun u s₂ => wpAny (model X.prog X.w) X.A (compareOp op v u) (EP X pins σ Q) X.xe s₂) X.xe s₁) X.xe s
def tCmp (p : Int → Int → Bool) (ta tb : TE) : TE := fun σ H Q => t2I ta tb (fun i j H2 => Q (.bl (p i j)) H2) σ H
abbrev tLt : TE → TE → TE := tCmp fun i j => decide (i < j)
abbrev tLe : TE → TE → TE := tCmp fun i j => decide (i ≤ j)
abbrev tGt : TE → TE → TE := tCmp fun i j => decide (j < i)
abbrev tGe : TE → TE → TE := tCmp fun i j => decide (j ≤ i)
abbrev tEqI : TE → TE → TE := tCmp fun i j => decide (i = j)
abbrev tNeI : TE → TE → TE := tCmp fun i j => !decide (i = j)
def tIsN (ta : TE) : TE := fun σ H Q => ta σ H fun x H1 => Q (.bl (decide (x = .non))) H1
def tNotN (ta : TE) : TE := fun σ H Q => ta σ H fun x H1 => Q (.bl (!decide (x = .non))) H1
def tB (t : TE) : TT := fun σ H Q => t σ H fun x H1 => ∃ c, x = .bl c ∧ Q c H1
theorem pt_val {e : Expr} {t : TE} (h : PE X e t) (he : ∀ whole, isTrue e X.env whole = (do let v ← whole; standAt e.pos; holding [v] (truthy v)) := by intro _; rfl) : PT X e (tB t) := by
  intro pins s σ H Q I hw
  refine isTrue_plain (thn (h pins s σ H _ I hw) fun v s1 ⟨x, H1, I1, r1, q1⟩ => ?_) (he _)
  obtain ⟨d, rfl, q⟩ := q1
  cases r1
  exact wpAny_truthy_bool ⟨H1, I1, q⟩
variable {tA tB' : TT} {rest : List Expr}
def tAnd (t u : TT) : TT := fun σ H Q => t σ H fun c H1 => if c = true then u σ H1 Q else Q false H1
def tOr (t u : TT) : TT := fun σ H Q => t σ H fun c H1 => if c = true then Q true H1 else u σ H1 Q
def tNot (t : TT) : TT := fun σ H Q => t σ H fun c H1 => Q (!c) H1
theorem pw_and1 (ha : PT X a tA) : PW X (.BoolOp .And [a] pos) tA := by
  intro wh pins s σ H Q I h
  refine isTrue_and (thn (ha pins s σ H Q I h) fun c s1 e => ?_)
  cases c with
  | true => exact isTrue_and_nil e
  | false => exact e
theorem pw_or1 (ha : PT X a tA) : PW X (.BoolOp .Or [a] pos) tA := by
  intro wh pins s σ H Q I h
  refine isTrue_or (thn (ha pins s σ H Q I h) fun c s1 e => ?_)
  cases c with
  | false => exact isTrue_or_nil e
  | true => exact e
theorem pw_and (ha : PT X a tA) (hb : PW X (.BoolOp .And (b :: rest) pos) tB') : PW X (.BoolOp .And (a :: b :: rest) pos) (tAnd tA tB') := by
  intro wh pins s σ H Q I h
  refine isTrue_and (thn (ha pins s σ H _ I h) fun c s1 ⟨H1, I1, q1⟩ => ?_)
  cases c with
  | true => exact hb wh pins s1 σ H1 Q I1 q1
  | false => exact ⟨H1, I1, q1⟩
theorem pw_or (ha : PT X a tA) (hb : PW X (.BoolOp .Or (b :: rest) pos) tB') : PW X (.BoolOp .Or (a :: b :: rest) pos) (tOr tA tB') := by
  intro wh pins s σ H Q I h
  refine isTrue_or (thn (ha pins s σ H _ I h) fun c s1 ⟨H1, I1, q1⟩ => ?_)
  cases c with
  | true => exact ⟨H1, I1, q1⟩
  | false => exact hb wh pins s1 σ H1 Q I1 q1
theorem pt_not (ha : PT X a tA) : PT X (.UnaryOp .Not a pos) (tNot tA) := by
  intro pins s σ H Q I h
  exact isTrue_not (ha pins s σ H (fun c H1 => Q (!c) H1) I h)
def tAndV (ta tb : TE) : TE := fun σ H Q => ta σ H fun x H1 => ∃ c, x = .bl c ∧ if c = true then tb σ H1 Q else Q (.bl false) H1
def tOrV (ta tb : TE) : TE := fun σ H Q => ta σ H fun x H1 => ∃ c, x = .bl c ∧ if c = true then Q (.bl true) H1 else tb σ H1 Q
def tNotV (ta : TE) : TE := fun σ H Q => ta σ H fun x H1 => ∃ c, x = .bl c ∧ Q (.bl (!c)) H1
theorem pe_one {op} {t : TE} (h : PE X a t) : PE X (.BoolOp op [a] pos) t := fun pins s σ H Q I hw => BoolOp_one (h pins s σ H Q I hw)
theorem pe_and (ha : PE X a ta) (hb : PE X (.BoolOp .And (b :: rest) pos) tb) : PE X (.BoolOp .And (a :: b :: rest) pos) (tAndV ta tb) := by
  intro pins s σ H Q I h
  refine BoolOp_and (thn (ha pins s σ H _ I h) fun v s1 ⟨x, H1, I1, r1, q1⟩ => ?_)
  obtain ⟨c, rfl, q1⟩ := q1
  cases r1
  refine wpAny_truthy_bool ?_
  cases c with
  | true => exact hb pins s1 σ H1 Q I1 q1
  | false => exact ⟨.bl false, H1, I1, rfl, q1⟩
theorem pe_not (ha : PE X a ta) : PE X (.UnaryOp .Not a pos) (tNotV ta) := by
  intro pins s σ H Q I h
  refine UnaryOp_ (thn (ha pins s σ H _ I h) fun v s1 ⟨x, H1, I1, r1, q1⟩ => ?_)
  obtain ⟨c, rfl, q1⟩ := q1
  cases r1
  exact not_of (wpAny_truthy_bool ⟨.bl (!c), H1, I1, rfl, q1⟩)
def tIf (t : TT) (ta tb : TE) : TE := fun σ H Q => t σ H fun c H1 => if c = true then ta σ H1 Q else tb σ H1 Q
end
end L2
namespace L2
open PySem PySem.Spec PyProof.Rows
def SqL (K : PySem.W.Frag) (H : Hp) (a : Addr) (xs : List V) : Prop :=
  Rd H a (.lst xs) ∨
    ∃ (o : Obj) (its : Array Value) (n : Nat), K.lookup a = some o ∧ o.cls = .type "list" ∧ o.dict = none ∧ o.data = .seq its n ∧ its.size ≤ sizeLine ∧ Vals xs its.toList
def SqT (K : PySem.W.Frag) (H : Hp) (a : Addr) (xs : List V) : Prop :=
  Rd H a (.tup xs) ∨
    ∃ (o : Obj) (its : Array Value) (n : Nat), K.lookup a = some o ∧ o.cls = .type "tuple" ∧ o.data = .seq its n ∧ its.size ≤ sizeLine ∧ Vals xs its.toList
def absV : Value → Option V
  | .none => some .non
  | .bool b => some (.bl b)
  | .int i _ => some (.int i)
  | .str x _ => some (.str x)
  | .bytes b _ => some (.byt b)
  | .float b _ => some (.flt b)
  | .ref a => some (.ref a)
  | .type n => some (.ty n)
  | _ => none
theorem RelV.abs {x : V} {u : Value} (r : RelV x u) : absV u = some x := by
  cases x with
  | non => cases r; rfl
  | bl _ => cases r; rfl
  | int _ => obtain ⟨t, rfl⟩ := r; rfl
  | str _ => obtain ⟨t, rfl⟩ := r; rfl
  | byt _ => obtain ⟨t, rfl⟩ := r; rfl
  | flt _ => obtain ⟨t, rfl⟩ := r; rfl
  | ref _ => cases r; rfl
  | ty _ => cases r; rfl
theorem RelV.inj {x y : V} {u : Value} (r : RelV x u) (q : RelV y u) : x = y := Option.some.inj (r.abs.symm.trans q.abs)
theorem Vals.inj : ∀ {xs ys : List V} {us : List Value}, Vals xs us → Vals ys us → xs = ys
  | _, _, _, .nil, .nil => rfl
  | _, _, _, .cons r t, .cons r' t' => by rw [r.inj r', Vals.inj t t']
section
variable {X : Cx} {pins : List (Addr × Obj)} {σ : St} {H : Hp} {s : Shared} {a : Addr} {xs ys : List V}
theorem SqL.of {K : PySem.W.Frag} (h : H a = some (.lst xs)) : SqL K H a xs := .inl (.inl h)
theorem SqT.of {K : PySem.W.Frag} (h : H a = some (.tup xs)) : SqT K H a xs := .inl (.inl h)
theorem Inv.list (I : Inv X pins σ H s) (h : SqL X.K H a xs) : ∃ its : List Value, Vals xs its ∧ PlainL s.heap a its.toArray ∧ xs.length ≤ sizeLine := by
  rcases h with h | ⟨o, its, n, hk, hc, hd, hs, hz, r⟩
  · obtain ⟨z, its, n, r, e⟩ := h.ok I.hok
    exact ⟨its, r, ⟨_, n, e, rfl, rfl, rfl⟩, z⟩
  · refine ⟨its.toList, r, ⟨o, n, I.kIn a o hk, hc, hd, by simpa using hs⟩, ?_⟩
    have e := r.length
    simp only [Array.length_toList] at e
    omega
theorem Inv.tuple (I : Inv X pins σ H s) (h : SqT X.K H a xs) : ∃ its : List Value, Vals xs its ∧ IsTup s.heap a its.toArray ∧ xs.length ≤ sizeLine := by
  rcases h with h | ⟨o, its, n, hk, hc, hs, hz, r⟩
  · obtain ⟨z, its, r, p⟩ := h.ok I.hok
    exact ⟨its, r, p.is, z⟩
  · refine ⟨its.toList, r, ⟨o, I.kIn a o hk, hc, n, by simpa using hs⟩, ?_⟩
    have e := r.length
    simp only [Array.length_toList] at e
    omega
theorem Inv.list_inj (I : Inv X pins σ H s) (h : SqL X.K H a xs) (h' : SqL X.K H a ys) : xs = ys := by
  obtain ⟨its, r, ⟨o, n, e, _, _, d⟩, _⟩ := I.list h
  obtain ⟨its', r', ⟨o', n', e', _, _, d'⟩, _⟩ := I.list h'
  rw [e] at e'; cases e'
  rw [d] at d'
  injection d' with d1 _
  have : its = its' := by simpa using congrArg Array.toList d1
  subst this
  exact r.inj r'
theorem Inv.tuple_inj (I : Inv X pins σ H s) (h : SqT X.K H a xs) (h' : SqT X.K H a ys) : xs = ys := by
  obtain ⟨its, r, ⟨o, e, _, n, d⟩, _⟩ := I.tuple h
  obtain ⟨its', r', ⟨o', e', _, n', d'⟩, _⟩ := I.tuple h'
  rw [e] at e'; cases e'
  rw [d] at d'
  injection d' with d1 _
  have : its = its' := by simpa using congrArg Array.toList d1
  subst this
  exact r.inj r'
end
abbrev Cx.wish (X : Cx) (E : Value → Shared → Prop) : Cx := { X with xe := E }
abbrev Cx.nox (X : Cx) : Cx := X.wish fun _ _ => False
theorem Cx.Ok.wish {X : Cx} (ok : X.Ok) (E : Value → Shared → Prop) : (X.wish E).Ok :=
  ⟨ok.mod, ok.kind, ok.glob, ok.blt, ok.above, ok.inj, ok.has, ok.cab, ok.hd, ok.frames, ok.stk, ok.exf, ok.bs, ok.bsz, ok.noex, ok.exfs, ok.funs, ok.frf⟩
theorem Cx.Ok.unwish {X : Cx} {E : Value → Shared → Prop} (ok : (X.wish E).Ok) : X.Ok :=
  ⟨ok.mod, ok.kind, ok.glob, ok.blt, ok.above, ok.inj, ok.has, ok.cab, ok.hd, ok.frames, ok.stk, ok.exf, ok.bs, ok.bsz, ok.noex, ok.exfs, ok.funs, ok.frf⟩
section
variable {X : Cx} {pins : List (Addr × Obj)} {σ : St} {H : Hp} {s : Shared} {E : Value → Shared → Prop}
theorem Inv.wish (I : Inv X pins σ H s) (E : Value → Shared → Prop) : Inv (X.wish E) pins σ H s := ⟨I.ok.wish E, I.os, I.bare, I.base, I.loc, I.cell, I.free, I.freeC, I.pin, I.hok, I.len⟩
theorem Inv.unwish (I : Inv (X.wish E) pins σ H s) : Inv X pins σ H s := ⟨I.ok.unwish, I.os, I.bare, I.base, I.loc, I.cell, I.free, I.freeC, I.pin, I.hok, I.len⟩
theorem SP.unwish {D : Ends} {f : Flow} {s' : Shared} (h : SP (X.wish E) pins D f s') : SP X pins D f s' := by
  cases f with
  | next => obtain ⟨σ', H', I, q⟩ := h; exact ⟨σ', H', I.unwish, q⟩
  | brk => obtain ⟨σ', H', I, q⟩ := h; exact ⟨σ', H', I.unwish, q⟩
  | cont => obtain ⟨σ', H', I, q⟩ := h; exact ⟨σ', H', I.unwish, q⟩
  | ret u => obtain ⟨v, σ', H', I, r, q⟩ := h; exact ⟨v, σ', H', I.unwish, r, q⟩
theorem PE.nox {e : Expr} {t : TE} (h : PE X.nox e t) : PE X e t := fun pins s σ H Q I hw =>
  wpAny_mono (h pins s σ H Q (I.wish _) hw) (fun _ _ ⟨v, H', I', r, q⟩ => ⟨v, H', I'.unwish, r, q⟩) fun _ _ z => False.elim z
theorem PT.nox {e : Expr} {t : TT} (h : PT X.nox e t) : PT X e t := fun pins s σ H Q I hw =>
  wpAny_mono (h pins s σ H Q (I.wish _) hw) (fun _ _ ⟨H', I', q⟩ => ⟨H', I'.unwish, q⟩) fun _ _ z => False.elim z
theorem PSs.nox {st : List Stmt} {t : TS} (h : PSs X.nox st t) : PSs X st t := fun pins s σ H D I hw =>
  wpAny_mono (h pins s σ H D (I.wish _) hw) (fun _ _ q => q.unwish) fun _ _ z => False.elim z
end
section
variable {X : Cx} {st : Stmt} {rest : List Stmt} {t u : TS} {e : Expr} {te : TE} {pos : Pos}
def tNext : TS := fun D σ H => D.nx σ H
def tSeq (t u : TS) : TS := fun D σ H => t { D with nx := u D } σ H
theorem pss_nil : PSs X [] tNext := fun _ _ σ H _ I h => wpAny_execs_nil ⟨σ, H, I, h⟩
theorem pss_cons (h1 : PS X st t) (h2 : PSs X rest u) : PSs X (st :: rest) (tSeq t u) := by
  intro pins s σ H D I h
  refine wpAny_execs_cons (thn (h1 pins s σ H { D with nx := u D } I h) fun f s1 q => ?_)
  cases f with
  | next =>
    obtain ⟨σ', H', I', q⟩ := q
    exact h2 pins s1 σ' H' D I' q
  | ret v => exact q
  | brk => exact q
  | cont => exact q
theorem pss_one (h1 : PS X st t) : PSs X [st] t := by
  intro pins s σ H D I h
  refine wpAny_execs_cons (thn (h1 pins s σ H D I h) fun f s1 q => ?_)
  cases f with
  | next => exact wpAny_execs_nil q
  | ret v => exact q
  | brk => exact q
  | cont => exact q
def tBreak : TS := fun D σ H => D.bk σ H
def tCont : TS := fun D σ H => D.ct σ H
theorem Inv.quiet {pins : List (Addr × Obj)} {σ : St} {H : Hp} {s : Shared} (I : Inv X pins σ H s) : interactive X.env = false := by simp [interactive, I.ok.kind]
def tDrop (te : TE) : TS := fun D σ H => te σ H fun _ H1 => D.nx σ H1
theorem ps_expr (he : PE X e te) (hs : swapsWith e none pos.line X.env = pure false := by rfl) : PS X (.Expr e pos) (tDrop te) := by
  intro pins s σ H D I h
  exact wpAny_Expr_any (thn (he pins s σ H _ I h) fun v s1 ⟨x, H1, I1, r1, q1⟩ => ⟨σ, H1, I1, q1⟩) I.quiet hs
def tRet (te : TE) : TS := fun D σ H => te σ H D.rt
theorem ps_ret (he : PE X e te) : PS X (.Return (some e) pos) (tRet te) := by
  intro pins s σ H D I h
  exact wpAny_Return_some (thn (he pins s σ H _ I h) fun v s1 ⟨x, H1, I1, r1, q1⟩ => ⟨x, σ, H1, I1, r1, q1⟩)
def tRetN : TS := fun D _ H => D.rt .non H
def tIfS (c : TT) (t u : TS) : TS := fun D σ H => c σ H fun b H1 => if b = true then t D σ H1 else u D σ H1
theorem ps_if {c : Expr} {a b : List Stmt} {tc : TT} (hc : PT X c tc) (ha : PSs X a t) (hb : PSs X b u) : PS X (.If c a b pos) (tIfS tc t u) := by
  intro pins s σ H D I h
  refine wpAny_If (thn (hc pins s σ H _ I h) fun d s1 ⟨H1, I1, q1⟩ => ?_)
  cases d with
  | true => exact ha pins s1 σ H1 D I1 q1
  | false => exact hb pins s1 σ H1 D I1 q1
def tNever : TS := fun _ _ _ => False
end
abbrev TG := V → St → Hp → (St → Hp → Prop) → Prop
abbrev TGs := List V → St → Hp → (St → Hp → Prop) → Prop
def PG (X : Cx) (target : Expr) (t : TG) : Prop :=
  ∀ (pins : List (Addr × Obj)) (s : Shared) (σ : St) (H : Hp) (v : V) (u : Value) (Q : St → Hp → Prop), Inv X pins σ H s → RelV v u → t v σ H Q →
    wpAny (model X.prog X.w) X.A (assign target X.env u) (fun _ s' => ∃ σ' H', Inv X pins σ' H' s' ∧ Q σ' H') X.xe s
def PGs (X : Cx) (ts : List Expr) (t : TGs) : Prop :=
  ∀ (pins : List (Addr × Obj)) (s : Shared) (σ : St) (H : Hp) (vs : List V) (us : List Value) (Q : St → Hp → Prop), Inv X pins σ H s → Vals vs us → t vs σ H Q →
    wpAny (model X.prog X.w) X.A (assignInOrder ((assignEach ts X.env).map (·.2)) us) (fun _ s' => ∃ σ' H', Inv X pins σ' H' s' ∧ Q σ' H') X.xe s
abbrev TSet := V → V → V → Hp → (Hp → Prop) → Prop
def PSet (X : Cx) (t : TSet) : Prop :=
  ∀ (pins : List (Addr × Obj)) (s : Shared) (σ : St) (H : Hp) (o i v : V) (ov iv u : Value) (Q : Hp → Prop), Inv X pins σ H s → RelV o ov → RelV i iv → RelV v u → t o i v H Q →
    wpAny (model X.prog X.w) X.A (setItem ov iv u) (fun _ s' => ∃ H', Inv X pins σ H' s' ∧ Q H') X.xe s
abbrev TIp := V → V → Hp → VK → Prop
def PIp (X : Cx) (op : Operator) (t : TIp) : Prop :=
  ∀ (pins : List (Addr × Obj)) (s : Shared) (σ : St) (H : Hp) (x y : V) (v u : Value) (Q : VK), Inv X pins σ H s → RelV x v → RelV y u → t x y H Q →
    wpAny (model X.prog X.w) X.A (inplaceOp op v u) (EP X pins σ Q) X.xe s
section
variable {X : Cx} {pos : Pos}
def gName (i : Nat) : TG := fun v σ H Q => Q (σ.set i (some v)) H
theorem pg_name {i : Nat} {x : Str} (hN : X.N.Nodup) (hi : X.N[i]? = some x) (hx : Loc X.env.scope x) (hf : X.fn x = true ∨ X.env.scope.names.lookup x = some .local := by first | exact .inl rfl | exact .inr rfl | assumption) : PG X (.Name x pos) (gName i) := by
  intro pins s σ H v u Q I r h
  exact wpAny_assign_Name (store_ok I hN hi hx r (fun s' I' => ⟨_, H, I', h⟩) hf)
def gNil : TGs := fun vs σ H Q => vs = [] ∧ Q σ H
def gCons (t : TG) (u : TGs) : TGs := fun vs σ H Q => ∃ v r, vs = v :: r ∧ t v σ H fun σ' H' => u r σ' H' Q
theorem pgs_nil : PGs X [] gNil := by
  intro pins s σ H vs us Q I r h
  obtain ⟨e, h⟩ := h
  subst e
  cases r
  exact assignInOrder_nil ⟨σ, H, I, h⟩
theorem pgs_cons {e : Expr} {es : List Expr} {t : TG} {u : TGs} (h1 : PG X e t) (h2 : PGs X es u)
    (hs : (assignEach (e :: es) X.env).map (·.2) = assign e X.env :: (assignEach es X.env).map (·.2) := by rfl) : PGs X (e :: es) (gCons t u) := by
  intro pins s σ H vs us Q I r h
  obtain ⟨v, vr, e1, h⟩ := h
  subst e1
  cases r with
  | cons r rr =>
    rw [hs]
    refine assignInOrder_cons (thn (h1 pins s σ H _ _ _ I r h) fun _ s1 ⟨σ1, H1, I1, q1⟩ => ?_)
    exact h2 pins s1 σ1 H1 _ _ Q I1 rr q1
def gTup (K : PySem.W.Frag) (n : Nat) (t : TGs) : TG := fun v σ H Q => ∃ a xs, v = .ref a ∧ SqT K H a xs ∧ xs.length = n ∧ t xs σ H Q
theorem pg_tup {es : List Expr} {k : Nat} {t : TGs} {n : Nat} (hc : X.calm = true) (h : PGs X es t)
    (hn : (assignEach es X.env).length = n := by rfl) (hst : (assignEach es X.env).findIdx? (·.1) = none := by rfl) : PG X (.Tuple es k pos) (gTup X.K n t) := by
  intro pins s σ H v u Q I r hw
  obtain ⟨a, xs, e1, hq, hl, hw⟩ := hw
  subst e1
  cases r
  obtain ⟨its, rv, ht, hz⟩ := I.tuple hq
  refine assign_Tuple_tuple (I.ok.hd hc) ht (by simp [hn, ← hl, rv.length]) hst fun h' hx => ?_
  have I1 : Inv X pins σ H { s with heap := h' } := I.kept (t' := s.toks) fun b o e => hx b o (Nat.ne_of_lt (Heap.lt_size e)) e
  exact h pins _ σ H xs _ Q I1 (by simpa using rv) hw
def gSub (to ti : TE) (t : TSet) : TG := fun v σ H Q => to σ H fun o H1 => ti σ H1 fun i H2 => t o i v H2 fun H3 => Q σ H3
theorem pg_sub {o i : Expr} {to ti : TE} {t : TSet} (ho : PE X o to) (hi : PE X i ti) (hs : PSet X t)
    (ha : ∀ v, assign (.Subscript o i pos) X.env v = (do
      let ov ← holding [v] (eval o X.env)
      let iv ← holding [v, ov] (eval i X.env)
      standAt pos
      holding [v, ov, iv] (setItem ov iv v)
      release [v, ov, iv] []) := by intro _; rfl) : PG X (.Subscript o i pos) (gSub to ti t) := by
  intro pins s σ H v u Q I r h
  rw [ha]
  refine wpAny_bind (wpAny_holding (thn (ho pins s σ H _ I h) fun ov s1 ⟨x, H1, I1, r1, q1⟩ => ?_))
  refine wpAny_bind (wpAny_holding (thn (hi pins s1 σ H1 _ I1 q1) fun iv s2 ⟨y, H2, I2, r2, q2⟩ => ?_))
  refine wpAny_bind (wpAny_standAt (wpAny_bind (wpAny_holding (thn (hs pins s2 σ H2 x y v ov iv u _ I2 r1 r2 r q2) fun _ s3 ⟨H3, I3, q3⟩ => ?_))))
  exact wpAny_release ⟨σ, H3, I3, q3⟩
def tAsg (te : TE) (g : TG) : TS := fun D σ H => te σ H fun x H1 => g x σ H1 D.nx
theorem ps_asg {tg e : Expr} {te : TE} {g : TG} (he : PE X e te) (hg : PG X tg g) (hs : swapsWithSole [tg] e pos.line X.env = pure false := by rfl) (hw : swappedStores [tg] e X.env = pure none := by rfl)
    (h1 : (assignEach [tg] X.env).map (·.2) = [assign tg X.env] := by rfl) : PS X (.Assign [tg] e pos) (tAsg te g) := by
  intro pins s σ H D I h
  refine wpAny_Assign_stores (thn (he pins s σ H _ I h) fun v s1 ⟨x, H1, I1, r1, q1⟩ => ?_) hs hw
  rw [h1]
  exact thn (hg pins s1 σ H1 x v _ I1 r1 q1) fun _ s2 q => q
theorem ps_set {i : Nat} {x : Str} {e : Expr} {te : TE} {pos' : Pos} (hN : X.N.Nodup) (hi : X.N[i]? = some x) (hx : Loc X.env.scope x) (he : PE X e te) (hs : swapsWith e (some (.Name x pos')) pos.line X.env = pure false := by rfl) (hf : X.fn x = true ∨ X.env.scope.names.lookup x = some .local := by first | exact .inl rfl | exact .inr rfl | assumption) :
    PS X (.Assign [.Name x pos'] e pos) (tAsg te (gName i)) := by
  intro pins s σ H D I h
  refine wpAny_Assign_Name (thn (he pins s σ H _ I h) fun v s1 ⟨y, H1, I1, r1, q1⟩ => ?_) hs
  exact store_ok I1 hN hi hx r1 (fun s2 I2 => ⟨_, H1, I2, q1⟩) hf
def tPar (i j : Nat) (ta : TA) : TS := fun D σ H => ta σ H fun vs H1 => ∃ v w, vs = [v, w] ∧ D.nx ((σ.set i (some v)).set j (some w)) H1
def tAug (i : Nat) (te : TE) (ti : TIp) : TS := fun D σ H => ∃ x, σ[i]? = some (some x) ∧ te σ H fun y H1 => ti x y H1 fun z H2 => D.nx (σ.set i (some z)) H2
def tAugS (to ti te : TE) (tget : V → V → Hp → VK → Prop) (tip : TIp) (tset : TSet) : TS := fun D σ H => to σ H fun o H1 => ti σ H1 fun i H2 => tget o i H2 fun x H3 => te σ H3 fun y H4 => tip x y H4 fun z H5 => tset o i z H5 fun H6 => D.nx σ H6
def PGet (X : Cx) (t : V → V → Hp → VK → Prop) : Prop :=
  ∀ (pins : List (Addr × Obj)) (s : Shared) (σ : St) (H : Hp) (o i : V) (ov iv : Value) (Q : VK), Inv X pins σ H s → RelV o ov → RelV i iv → t o i H Q →
    wpAny (model X.prog X.w) X.A (getItem ov iv) (EP X pins σ Q) X.xe s
def ipI (f : Int → Int → Int) : TIp := fun x y H Q => ∃ i j, x = .int i ∧ y = .int j ∧ Q (.int (f i j)) H
end
section
variable {X : Cx} {pos : Pos}
def tWhile (c : TT) (tb : TS) : TS := fun D σ H => ∃ W : Nat → St → Hp → Prop, (∃ m, W m σ H) ∧ ∀ m σ H, W m σ H →
  c σ H fun b H1 => if b = true then ∃ N : St → Hp → Prop, (∀ σ' H', N σ' H' → ∃ m', m' < m ∧ W m' σ' H') ∧ tb { D with nx := N, ct := N, bk := D.nx } σ H1 else D.nx σ H1
end
structure It where
  go : Nat → Hp → Prop
  yld : Nat → Hp → V → Hp → Prop
  stop : Nat → Hp → Prop
def FpOk (X : Cx) (pins : List (Addr × Obj)) (H : Hp) (b : Addr) : Prop :=
  H b = none ∧ b ≠ X.env.locals ∧ b ∉ X.fs ∧ (b ∈ X.ex ∨ X.s₀.heap.objs.size ≤ b) ∧ (∀ x c, X.env.cells.lookup x = some c → c ≠ b) ∧ ∀ p ∈ X.pn ++ pins, p.1 ≠ b
theorem Inv.fpOk {X : Cx} {pins : List (Addr × Obj)} {σ : St} {H H' : Hp} {s : Shared} {b : Addr} (I : Inv X pins σ H s) (hb : s.heap.objs.size ≤ b) (hn : H' b = none) : FpOk X pins H' b := by
  refine ⟨hn, Nat.ne_of_gt (Nat.lt_of_lt_of_le I.lt hb), I.nofs hb, .inr (Nat.le_trans I.sz hb), fun x c e z => ?_, fun p hp z => ?_⟩
  · obtain ⟨v, q⟩ := I.cell x c e
    exact absurd (Nat.lt_of_lt_of_le q.lt (by rw [z]; exact hb)) (Nat.lt_irrefl _)
  · exact absurd (Nat.lt_of_lt_of_le (Heap.lt_size (I.pin p hp).1) (by rw [z]; exact hb)) (Nat.lt_irrefl _)
structure Turn (P : Program) (w : World) (K : PySem.W.Frag) (tg : Expr) (J : It) (fp : List Addr) (it : Addr) (tn : Nat → Heap → Prop) : Prop where
  mem : it ∈ fp
  obj : ∀ i h, tn i h → ∀ b ∈ fp, ∃ o, h.get? b = some o ∧ ∀ v, o.data ≠ .cell v
  keep : ∀ i h h', tn i h → (∀ b ∈ fp, ∀ o, h.get? b = some o → h'.get? b = some o) → tn i h'
  item : ∀ (X : Cx), X.prog = P → X.w = w → X.K = K → X.calm = true → ∀ (i : Nat) (pins : List (Addr × Obj)) (s : Shared) (σ : St) (H : Hp) (E : Value → Shared → Prop), Inv X pins σ H s → (∀ b ∈ fp, FpOk X pins H b) → tn i s.heap → J.go i H →
    wpAny (model P w) X.A (pyNext (.ref it)) (fun r s1 => ∃ u, r = some u ∧
      wpAny (model P w) X.A (letOwnedTupleGo tg (.ref it) u) (fun _ s2 => ∃ x H', Inv X pins σ H' s2 ∧ RelV x u ∧ J.yld i H x H' ∧ tn (i + 1) s2.heap ∧ ∀ b ∈ fp, H' b = none) E s1) E s
  done : ∀ (X : Cx), X.prog = P → X.w = w → X.K = K → X.calm = true → ∀ (i : Nat) (pins : List (Addr × Obj)) (s : Shared) (σ : St) (H : Hp) (E : Value → Shared → Prop), Inv X pins σ H s → (∀ b ∈ fp, FpOk X pins H b) → tn i s.heap → J.stop i H →
    wpAny (model P w) X.A (pyNext (.ref it)) (fun r s1 => r = none ∧ Inv X pins σ H s1) E s
  self : ∀ (A : Around) (i : Nat) (s : Shared) (Q : Value → Shared → Prop) (E : Value → Shared → Prop), tn i s.heap → Q (.ref it) s → wpAny (model P w) A (pyIter (.ref it)) Q E s
abbrev TI := St → Hp → (It → Hp → Prop) → Prop
def PIE (X : Cx) (pins : List (Addr × Obj)) (σ : St) (tg : Expr) (R : It → Hp → Prop) (itv : Value) (s2 : Shared) : Prop :=
  ∃ (it : Addr) (fp : List Addr) (tn : Nat → Heap → Prop) (J : It) (H' : Hp), itv = .ref it ∧ Inv X pins σ H' s2 ∧ Turn X.prog X.w X.K tg J fp it tn ∧ tn 0 s2.heap ∧ (∀ b ∈ fp, FpOk X pins H' b) ∧ R J H'
def PI (X : Cx) (tg iter : Expr) (wi : TI) : Prop :=
  ∀ (pins : List (Addr × Obj)) (s : Shared) (σ : St) (H : Hp) (R : It → Hp → Prop), Inv X pins σ H s → wi σ H R →
    wpAny (model X.prog X.w) X.A (eval iter X.env) (fun v s1 => wpAny (model X.prog X.w) X.A (pyIter v) (PIE X pins σ tg R) X.xe s1) X.xe s
theorem go_of {M : Model} {A : Around} {E : Value → Shared → Prop} {s : Shared} {tg : Expr} {it : Addr} {u : Value} {o : Obj} {n : String} {vs : Array Value} {Q : Unit → Shared → Prop} (ho : s.heap.get? it = some o) (hc : o.cls = .type n) (hd : o.data = .fields vs)
    (hn : ["enumerate", "zip", "dict_itemiterator", "dict_reverseitemiterator", "odict_iterator", "itertools.zip_longest", "itertools.pairwise"].contains n = false) (hQ : Q () s) : wpAny M A (letOwnedTupleGo tg (.ref it) u) Q E s := by
  unfold letOwnedTupleGo
  cases tg <;> first
    | exact wpAny_pure hQ
    | (cases u <;> first
        | exact wpAny_pure hQ
        | (refine wpAny_bind (wpAny_load ho ?_)
           rw [hc, hd]
           show wpAny M A (if (["enumerate", "zip", "dict_itemiterator", "dict_reverseitemiterator", "odict_iterator", "itertools.zip_longest", "itertools.pairwise"].contains n && vs[0]? == some (rawInt _)) = true then _ else _) Q E s
           rw [if_neg (by intro h; rw [hn, Bool.false_and] at h; cases h)]
           exact wpAny_pure hQ))
def Itl (K : PySem.W.Frag) (a : Addr) : It :=
  ⟨fun i H => ∃ xs x, SqL K H a xs ∧ xs[i]? = some x, fun i H x H' => H' = H ∧ ∀ xs, SqL K H a xs → xs[i]? = some x, fun i H => ∃ xs, SqL K H a xs ∧ xs.length ≤ i⟩
def Itt (K : PySem.W.Frag) (a : Addr) : It :=
  ⟨fun i H => ∃ xs x, SqT K H a xs ∧ xs[i]? = some x, fun i H x H' => H' = H ∧ ∀ xs, SqT K H a xs → xs[i]? = some x, fun i H => ∃ xs, SqT K H a xs ∧ xs.length ≤ i⟩
def Itr (lo : Int) (n : Nat) : It := ⟨fun i _ => i < n, fun i H x H' => H' = H ∧ x = .int (lo + i), fun i _ => n ≤ i⟩
theorem turn_list {P : Program} {w : World} {K : PySem.W.Frag} {tg : Expr} (a it : Addr) : Turn P w K tg (Itl K a) [it] it (fun i h => h.IsListIter it a i) where
  mem := by simp
  obj := fun i h st b hb => by
    have e : b = it := by simpa using hb
    subst e
    obtain ⟨o, e, c, d⟩ := st
    exact ⟨o, e, fun v z => by rw [d] at z; cases z⟩
  keep := fun i h h' st k => st.at fun o e => k it (by simp) o e
  item := by
    intro X hP hw hK hc i pins s σ H E I hf st hg
    subst hP hw hK
    obtain ⟨xs, x, hq, hx⟩ := hg
    obtain ⟨its, rv, p, hz⟩ := I.list hq
    obtain ⟨u, hu, ru⟩ := rv.get hx
    obtain ⟨f0, f1, f2, f3, f4, f5⟩ := hf it (by simp)
    refine wpAny_pyNext_list_item st p.isList (x := u) (by simpa using hu) fun h' st' sb => ?_
    have I1 : Inv X pins σ H { s with heap := h' } := I.turned (t' := s.toks) (fun b o hb e => (sb.2 b hb).trans e) f0 f1 f3 f4 f5
    obtain ⟨o, e, c, d⟩ := id st'
    exact ⟨u, rfl, go_of (s := { s with heap := h' }) e c d (by decide) ⟨x, H, I1, ru, ⟨rfl, fun ys hy => by rw [I.list_inj hy hq]; exact hx⟩, st', fun b hb => (hf b hb).1⟩⟩
  done := by
    intro X hP hw hK hc i pins s σ H E I hf st hg
    subst hP hw hK
    obtain ⟨xs, hq, hx⟩ := hg
    obtain ⟨its, rv, p, hz⟩ := I.list hq
    obtain ⟨f0, f1, f2, f3, f4, f5⟩ := hf it (by simp)
    have hl := rv.length
    exact wpAny_pyNext_list_end (I.ok.hd hc) st p.isList (by simp; omega) fun h' eb => ⟨rfl, I.turned (t' := s.toks) (fun b o hb e => eb b o hb e) f0 f1 f3 f4 f5⟩
  self := fun _ _ _ _ _ st h => wpAny_pyIter_listiter st h
theorem turn_tuple {P : Program} {w : World} {K : PySem.W.Frag} {tg : Expr} (a it : Addr) : Turn P w K tg (Itt K a) [it] it (fun i h => h.IsTupleIter it a i) where
  mem := by simp
  obj := fun i h st b hb => by
    have e : b = it := by simpa using hb
    subst e
    obtain ⟨o, e, c, d⟩ := st
    exact ⟨o, e, fun v z => by rw [d] at z; cases z⟩
  keep := fun i h h' st k => st.at fun o e => k it (by simp) o e
  item := by
    intro X hP hw hK hc i pins s σ H E I hf st hg
    subst hP hw hK
    obtain ⟨xs, x, hq, hx⟩ := hg
    obtain ⟨its, rv, p, hz⟩ := I.tuple hq
    obtain ⟨u, hu, ru⟩ := rv.get hx
    obtain ⟨f0, f1, f2, f3, f4, f5⟩ := hf it (by simp)
    refine wpAny_pyNext_tuple_item st (show s.heap.IsTuple a its.toArray from p) (x := u) (by simpa using hu) fun h' st' sb => ?_
    have I1 : Inv X pins σ H { s with heap := h' } := I.turned (t' := s.toks) (fun b o hb e => (sb.2 b hb).trans e) f0 f1 f3 f4 f5
    obtain ⟨o, e, c, d⟩ := id st'
    exact ⟨u, rfl, go_of (s := { s with heap := h' }) e c d (by decide) ⟨x, H, I1, ru, ⟨rfl, fun ys hy => by rw [I.tuple_inj hy hq]; exact hx⟩, st', fun b hb => (hf b hb).1⟩⟩
  done := by
    intro X hP hw hK hc i pins s σ H E I hf st hg
    subst hP hw hK
    obtain ⟨xs, hq, hx⟩ := hg
    obtain ⟨its, rv, p, hz⟩ := I.tuple hq
    obtain ⟨f0, f1, f2, f3, f4, f5⟩ := hf it (by simp)
    have hl := rv.length
    exact wpAny_pyNext_tuple_end (I.ok.hd hc) st (show s.heap.IsTuple a its.toArray from p) (by simp; omega) fun h' eb => ⟨rfl, I.turned (t' := s.toks) (fun b o hb e => eb b o hb e) f0 f1 f3 f4 f5⟩
  self := fun _ _ _ _ _ st h => wpAny_pyIter_tupleiter st h
theorem turn_range {P : Program} {w : World} {K : PySem.W.Frag} {tg : Expr} (it : Addr) (lo : Int) (n : Nat) : Turn P w K tg (Itr lo n) [it] it (fun i h => IsRangeIter h it (lo + (i : Nat) * 1) ((n : Int) - (i : Nat)) 1) where
  mem := by simp
  obj := fun i h st b hb => by
    have e : b = it := by simpa using hb
    subst e
    exact ⟨_, st, fun v z => by
      have z' : Data.fields _ = Data.cell v := z
      cases z'⟩
  keep := fun i h h' st k => k it (by simp) _ st
  item := by
    intro X hP hw hK hc i pins s σ H E I hf st hg
    subst hP hw hK
    obtain ⟨f0, f1, f2, f3, f4, f5⟩ := hf it (by simp)
    have W := Walks.range (prog := X.prog) (w := X.w) (I.ok.hd hc) it lo 1 n
    refine W.item i s _ _ hg st fun v h' tk hv st' kk => ?_
    obtain ⟨t, rfl⟩ := hv
    have I1 : Inv X pins σ H { s with heap := h', toks := tk } := I.turned (fun b o hb e => kk b o (by simpa using hb) e) f0 f1 f3 f4 f5
    refine ⟨_, rfl, go_of (s := { s with heap := h', toks := tk }) (n := "range_iterator") st' rfl rfl (by decide) ⟨.int (lo + i), H, I1, ⟨t, ?_⟩, ⟨rfl, rfl⟩, st', fun b hb => (hf b hb).1⟩⟩
    rw [Int.mul_one]
  done := by
    intro X hP hw hK hc i pins s σ H E I hf st hg
    subst hP hw hK
    obtain ⟨f0, f1, f2, f3, f4, f5⟩ := hf it (by simp)
    exact wpAny_pyNext_range_end (I.ok.hd hc) st (by have : n ≤ i := hg; omega) fun h' eb => ⟨rfl, I.turned (t' := s.toks) (fun b o hb e => eb b o hb e) f0 f1 f3 f4 f5⟩
  self := fun _ _ _ _ _ st h => wpAny_pyIter_rangeiter st h
end L2
namespace L2
open PySem PySem.Spec PyProof.Rows
section
variable {X : Cx} {tg : Expr}
def iList (K : PySem.W.Frag) (tl : TE) : TI := fun σ H R => tl σ H fun x H1 => ∃ a, x = .ref a ∧ (∃ xs, SqL K H1 a xs) ∧ R (Itl K a) H1
def iTup (K : PySem.W.Frag) (tl : TE) : TI := fun σ H R => tl σ H fun x H1 => ∃ a, x = .ref a ∧ (∃ xs, SqT K H1 a xs) ∧ R (Itt K a) H1
theorem pi_list {l : Expr} {tl : TE} (hl : PE X l tl) : PI X tg l (iList X.K tl) := by
  intro pins s σ H R I h
  refine thn (hl pins s σ H _ I h) fun v s1 ⟨x, H1, I1, r1, q1⟩ => ?_
  obtain ⟨a, e, ⟨xs, hq⟩, q⟩ := q1
  subst e
  cases r1
  obtain ⟨its, rv, p, hz⟩ := I1.list hq
  refine wpAny_pyIter_list p.isList ?_
  refine ⟨s1.heap.objs.size, [s1.heap.objs.size], _, _, H1, rfl, I1.kept (t' := s1.toks) fun b o e => Heap.get?_push_of_some _ e, turn_list a _, ⟨_, Heap.get?_push_size _ rfl, rfl, rfl⟩, fun b hb => ?_, q⟩
  have e : b = s1.heap.objs.size := by simpa using hb
  subst e
  exact I1.fpOk (Nat.le_refl _) (I1.hok.fresh (Nat.le_refl _))
theorem pi_tup {l : Expr} {tl : TE} (hl : PE X l tl) : PI X tg l (iTup X.K tl) := by
  intro pins s σ H R I h
  refine thn (hl pins s σ H _ I h) fun v s1 ⟨x, H1, I1, r1, q1⟩ => ?_
  obtain ⟨a, e, ⟨xs, hq⟩, q⟩ := q1
  subst e
  cases r1
  obtain ⟨its, rv, p, hz⟩ := I1.tuple hq
  refine wpAny_pyIter_tuple (show s1.heap.IsTuple a its.toArray from p) ?_
  refine ⟨s1.heap.objs.size, [s1.heap.objs.size], _, _, H1, rfl, I1.kept (t' := s1.toks) fun b o e => Heap.get?_push_of_some _ e, turn_tuple a _, ⟨_, Heap.get?_push_size _ rfl, rfl, rfl⟩, fun b hb => ?_, q⟩
  have e : b = s1.heap.objs.size := by simpa using hb
  subst e
  exact I1.fpOk (Nat.le_refl _) (I1.hok.fresh (Nat.le_refl _))
theorem range_it {pins : List (Addr × Obj)} {σ : St} {H : Hp} {s : Shared} {R : It → Hp → Prop} {E : Value → Shared → Prop} {lo hi : Int} {t u v : Tok} {tk : Nat} (I : Inv X pins σ H s) (h1 : -(2 ^ 62) ≤ lo) (h2 : lo < 2 ^ 62) (h3 : -(2 ^ 62) ≤ hi) (h4 : hi < 2 ^ 62)
    (q : R (Itr lo (hi - lo).toNat) H) : wpAny (model X.prog X.w) X.A (pyIter (.ref s.heap.objs.size)) (PIE X pins σ tg R) E { s with heap := s.heap.push { cls := .type "range", data := .fields #[.int lo t, .int hi u, .int 1 v] }, toks := tk } := by
  refine wpAny_pyIter_range (IsRange.new ..) (small_one h1 h2 h3 h4) ?_
  have I1 : Inv X pins σ H { s with heap := s.heap.push { cls := .type "range", data := .fields #[.int lo t, .int hi u, .int 1 v] }, toks := tk } := I.kept fun b o e => Heap.get?_push_of_some _ e
  refine ⟨(s.heap.push { cls := .type "range", data := .fields #[.int lo t, .int hi u, .int 1 v] }).objs.size, [(s.heap.push { cls := .type "range", data := .fields #[.int lo t, .int hi u, .int 1 v] }).objs.size], _, _, H, rfl,
    I1.kept (t' := tk) fun b o e => Heap.get?_push_of_some _ e, turn_range _ lo (hi - lo).toNat, ?_, fun b hb => ?_, q⟩
  · have e1 : lo + ((0 : Nat) : Int) * 1 = lo := by simp
    have e2 : (((hi - lo).toNat : Nat) : Int) - ((0 : Nat) : Int) = Builtin.Range.rangeSize lo hi 1 := by rw [rangeSize_one]; split <;> omega
    show IsRangeIter _ _ (lo + ((0 : Nat) : Int) * 1) ((((hi - lo).toNat : Nat) : Int) - ((0 : Nat) : Int)) 1
    rw [e1, e2]
    exact Heap.get?_push_size _ rfl
  · have e : b = (s.heap.push { cls := .type "range", data := .fields #[.int lo t, .int hi u, .int 1 v] }).objs.size := by simpa using hb
    subst e
    exact I1.fpOk (Nat.le_refl _) (I1.hok.fresh (Nat.le_refl _))
def iRng1 (ta : TA) : TI := fun σ H R => ta σ H fun vs H1 => ∃ j : Int, vs = [.int j] ∧ -(2 ^ 62) ≤ j ∧ j < 2 ^ 62 ∧ R (Itr 0 j.toNat) H1
def iRng2 (ta : TA) : TI := fun σ H R => ta σ H fun vs H1 => ∃ i j : Int, vs = [.int i, .int j] ∧ (-(2 ^ 62) ≤ i ∧ i < 2 ^ 62 ∧ -(2 ^ 62) ≤ j ∧ j < 2 ^ 62) ∧ R (Itr i (j - i).toNat) H1
theorem pi_range1 {a : Expr} {ta : TA} {p pos : Pos} (hg : Gl X "range") (hm : X.mg "range" = none) (ha : PA X [a] ta) (hs : starEach [a] X.env = [(false, eval a X.env)] := by rfl) : PI X tg (.Call (.Name "range" p) [a] [] pos) (iRng1 ta) := by
  intro pins s σ H R I h
  refine Call_ (ld_blt I hg hm boot_range (PyProof.Rows.callWith_type1 (thn (ha pos pins s σ H _ I h) fun us s1 ⟨vs, H1, I1, r1, q1⟩ => ?_) hs rfl))
  obtain ⟨j, e, q1, q2, q⟩ := q1
  subst e
  cases r1 with
  | cons r rr =>
    cases rr
    obtain ⟨t, rfl⟩ := r
    exact call_range_1 (range_it I1 (by omega) (by omega) q1 q2 (by simpa using q))
def tFor (wi : TI) (g : TG) (tb : TS) : TS := fun D σ H => wi σ H fun J H1 => ∃ W : Nat → Nat → St → Hp → Prop, (∃ m, W 0 m σ H1) ∧ ∀ i m σ H, W i m σ H →
  (J.stop i H ∧ D.nx σ H) ∨ (J.go i H ∧ ∃ N : St → Hp → Prop, (∀ σ' H', N σ' H' → ∃ m', m' < m ∧ W (i + 1) m' σ' H') ∧ ∀ x H', J.yld i H x H' → g x σ H' fun σ2 H2 => tb { D with nx := N, ct := N, bk := D.nx } σ2 H2)
def pinsAt (fp : List Addr) (h : Heap) : List (Addr × Obj) := fp.filterMap fun b => (h.get? b).map fun o => (b, o)
theorem mem_pinsAt {fp : List Addr} {h : Heap} {b : Addr} {o : Obj} (hb : b ∈ fp) (e : h.get? b = some o) : (b, o) ∈ pinsAt fp h := List.mem_filterMap.mpr ⟨b, hb, by rw [e]; rfl⟩
theorem of_pinsAt {fp : List Addr} {h : Heap} {p : Addr × Obj} (hp : p ∈ pinsAt fp h) : p.1 ∈ fp ∧ h.get? p.1 = some p.2 := by
  obtain ⟨b, hb, e⟩ := List.mem_filterMap.mp hp
  cases q : h.get? b with
  | none => rw [q] at e; cases e
  | some o =>
    rw [q] at e
    have e' : (b, o) = p := Option.some.inj e
    subst e'
    exact ⟨hb, q⟩
theorem Inv.pinned {pins : List (Addr × Obj)} {σ : St} {H : Hp} {s : Shared} {fp : List Addr} (I : Inv X pins σ H s) (hf : ∀ b ∈ fp, FpOk X pins H b) (ho : ∀ b ∈ fp, ∃ o, s.heap.get? b = some o ∧ ∀ v, o.data ≠ .cell v) : Inv X (pins ++ pinsAt fp s.heap) σ H s :=
  I.pins_of fun p hp => (List.mem_append.mp hp).elim (fun z => I.pin p (List.mem_append_right _ z)) fun z => by
    obtain ⟨hb, e⟩ := of_pinsAt z
    obtain ⟨f0, f1, f2, _⟩ := hf p.1 hb
    obtain ⟨o, e', d⟩ := ho p.1 hb
    rw [e] at e'; cases e'
    exact ⟨e, f0, f1, f2, d⟩
theorem Inv.unpinned {pins pl : List (Addr × Obj)} {σ : St} {H : Hp} {s : Shared} (I : Inv X (pins ++ pl) σ H s) : Inv X pins σ H s := I.pins_of fun p hp => I.pin p (List.mem_append_right _ (List.mem_append_left _ hp))
theorem ps_for {iter : Expr} {body : List Stmt} {wi : TI} {g : TG} {tb : TS} {pos : Pos} (hp : PassesOwn (model X.prog X.w) X.A X.env X.xe) (hc : X.calm = true) (hi : PI X tg iter wi) (hg : PG X tg g) (hb : PSs X body tb)
    (hs : ∀ x, foldedSetIterable iter X.env x = pure x := by intro _; rfl) : PS X (.For tg iter body [] pos) (tFor wi g tb) := by
  intro pins s σ H D I h
  refine wpAny_For (thn (hi pins s σ H _ I h) fun v s1 h1 => thn h1 fun itv s2 h2 => ?_) hs
  obtain ⟨it, fp, tn, J, H2, e, I2, T, st2, f2, W, ⟨m0, w0⟩, turn⟩ := h2
  subst e
  -- what stays true of the iterator's objects through the loop
  have stat : ∀ {H' : Hp}, (∀ b ∈ fp, H' b = none) → ∀ b ∈ fp, FpOk X pins H' b := fun hn b hb => ⟨hn b hb, (f2 b hb).2⟩
  refine codeAny_forLoop_any (fun n s' => ∃ i σ' H', Inv X pins σ' H' s' ∧ tn i s'.heap ∧ (∀ b ∈ fp, H' b = none) ∧ W i n σ' H') ?_ m0 ⟨0, σ, H2, I2, st2, fun b hb => (f2 b hb).1, w0⟩
  rintro n s3 ⟨i, σ3, H3, I3, st3, fr3, w3⟩
  rcases turn i n σ3 H3 w3 with ⟨stop, qn⟩ | ⟨go, N, hN, step⟩
  · refine wpAny_passesOwn hp (thn (T.done X rfl rfl rfl hc i pins s3 σ3 H3 X.xe I3 (stat fr3) st3 stop) fun r s4 ⟨hr, I4⟩ => ?_)
    subst hr
    exact wpAny_execs_nil ⟨σ3, H3, I4, qn⟩
  · refine wpAny_passesOwn hp (thn (T.item X rfl rfl rfl hc i pins s3 σ3 H3 X.xe I3 (stat fr3) st3 go) fun r s4 ⟨u, hr, h4⟩ => ?_)
    subst hr
    refine wpAny_passesOwn hp (thn h4 fun _ s5 ⟨x, H5, I5, r5, y5, st5, fr5⟩ => ?_)
    have I5' := I5.pinned (stat fr5) (T.obj _ _ st5)
    refine wpAny_passesOwn hp (thn (hg _ s5 σ3 H5 x u _ I5' r5 (step x H5 y5)) fun _ s6 ⟨σ6, H6, I6, q6⟩ => ?_)
    refine wpAny_passesOwn hp (thn (hb _ s6 σ6 H6 _ I6 q6) fun f s7 q7 => ?_)
    have again : ∀ {σ7 : St} {H7 : Hp}, Inv X (pins ++ pinsAt fp s5.heap) σ7 H7 s7 → N σ7 H7 → ∃ m, m < n ∧ ∃ i σ' H', Inv X pins σ' H' s7 ∧ tn i s7.heap ∧ (∀ b ∈ fp, H' b = none) ∧ W i m σ' H' := fun {σ7 H7} I7 n7 => by
      obtain ⟨m', hm, w7⟩ := hN σ7 H7 n7
      refine ⟨m', hm, i + 1, σ7, H7, I7.unpinned, T.keep _ _ _ st5 fun b hb o e => (I7.pin (b, o) (List.mem_append_right _ (List.mem_append_right _ (mem_pinsAt hb e)))).1, fun b hb => ?_, w7⟩
      obtain ⟨o, e, d⟩ := T.obj _ _ st5 b hb
      exact (I7.pin (b, o) (List.mem_append_right _ (List.mem_append_right _ (mem_pinsAt hb e)))).2.1
    cases f with
    | next => obtain ⟨σ7, H7, I7, n7⟩ := q7; exact again I7 n7
    | cont => obtain ⟨σ7, H7, I7, n7⟩ := q7; exact again I7 n7
    | brk => obtain ⟨σ7, H7, I7, q7⟩ := q7; exact ⟨σ7, H7, I7.unpinned, q7⟩
    | ret v => obtain ⟨x7, σ7, H7, I7, r7, q7⟩ := q7; exact ⟨x7, σ7, H7, I7.unpinned, r7, q7⟩
end
theorem for_list {K : PySem.W.Frag} {a : Addr} {xs : List V} {g : TG} {tb : TS} {D : Ends} {σ : St} {H : Hp} (Pv : Nat → St → Hp → Prop) (h0 : Pv 0 σ H) (hl : ∀ i σ H, i ≤ xs.length → Pv i σ H → SqL K H a xs)
    (hs : ∀ i x σ H, xs[i]? = some x → Pv i σ H → g x σ H fun σ2 H2 => tb { D with nx := Pv (i + 1), ct := Pv (i + 1), bk := D.nx } σ2 H2) (hd : ∀ σ H, Pv xs.length σ H → D.nx σ H) :
    ∃ W : Nat → Nat → St → Hp → Prop, (∃ m, W 0 m σ H) ∧ ∀ i m σ H, W i m σ H →
      ((Itl K a).stop i H ∧ D.nx σ H) ∨ ((Itl K a).go i H ∧ ∃ N : St → Hp → Prop, (∀ σ' H', N σ' H' → ∃ m', m' < m ∧ W (i + 1) m' σ' H') ∧ ∀ x H', (Itl K a).yld i H x H' → g x σ H' fun σ2 H2 => tb { D with nx := N, ct := N, bk := D.nx } σ2 H2) := by
  refine ⟨fun i m σ H => m = xs.length - i ∧ i ≤ xs.length ∧ Pv i σ H, ⟨xs.length, by simp, Nat.zero_le _, h0⟩, ?_⟩
  rintro i m σ H ⟨rfl, hi, p⟩
  have q := hl i σ H hi p
  by_cases hlt : i < xs.length
  · refine .inr ⟨⟨xs, xs[i], q, by simp [hlt]⟩, Pv (i + 1), fun σ' H' p' => ⟨xs.length - (i + 1), by omega, rfl, hlt, p'⟩, fun x H' y => ?_⟩
    obtain ⟨e, y⟩ := y
    subst e
    exact hs i x σ _ (y xs q) p
  · have e : i = xs.length := by omega
    subst e
    exact .inl ⟨⟨xs, q, Nat.le_refl _⟩, hd σ H p⟩
theorem for_tup {K : PySem.W.Frag} {a : Addr} {xs : List V} {g : TG} {tb : TS} {D : Ends} {σ : St} {H : Hp} (Pv : Nat → St → Hp → Prop) (h0 : Pv 0 σ H) (hl : ∀ i σ H, i ≤ xs.length → Pv i σ H → SqT K H a xs)
    (hs : ∀ i x σ H, xs[i]? = some x → Pv i σ H → g x σ H fun σ2 H2 => tb { D with nx := Pv (i + 1), ct := Pv (i + 1), bk := D.nx } σ2 H2) (hd : ∀ σ H, Pv xs.length σ H → D.nx σ H) :
    ∃ W : Nat → Nat → St → Hp → Prop, (∃ m, W 0 m σ H) ∧ ∀ i m σ H, W i m σ H →
      ((Itt K a).stop i H ∧ D.nx σ H) ∨ ((Itt K a).go i H ∧ ∃ N : St → Hp → Prop, (∀ σ' H', N σ' H' → ∃ m', m' < m ∧ W (i + 1) m' σ' H') ∧ ∀ x H', (Itt K a).yld i H x H' → g x σ H' fun σ2 H2 => tb { D with nx := N, ct := N, bk := D.nx } σ2 H2) := by
  refine ⟨fun i m σ H => m = xs.length - i ∧ i ≤ xs.length ∧ Pv i σ H, ⟨xs.length, by simp, Nat.zero_le _, h0⟩, ?_⟩
  rintro i m σ H ⟨rfl, hi, p⟩
  have q := hl i σ H hi p
  by_cases hlt : i < xs.length
  · refine .inr ⟨⟨xs, xs[i], q, by simp [hlt]⟩, Pv (i + 1), fun σ' H' p' => ⟨xs.length - (i + 1), by omega, rfl, hlt, p'⟩, fun x H' y => ?_⟩
    obtain ⟨e, y⟩ := y
    subst e
    exact hs i x σ _ (y xs q) p
  · have e : i = xs.length := by omega
    subst e
    exact .inl ⟨⟨xs, q, Nat.le_refl _⟩, hd σ H p⟩
theorem for_range {lo : Int} {n : Nat} {g : TG} {tb : TS} {D : Ends} {σ : St} {H : Hp} (Pv : Nat → St → Hp → Prop) (h0 : Pv 0 σ H)
    (hs : ∀ i σ H, i < n → Pv i σ H → g (.int (lo + i)) σ H fun σ2 H2 => tb { D with nx := Pv (i + 1), ct := Pv (i + 1), bk := D.nx } σ2 H2) (hd : ∀ σ H, Pv n σ H → D.nx σ H) :
    ∃ W : Nat → Nat → St → Hp → Prop, (∃ m, W 0 m σ H) ∧ ∀ i m σ H, W i m σ H →
      ((Itr lo n).stop i H ∧ D.nx σ H) ∨ ((Itr lo n).go i H ∧ ∃ N : St → Hp → Prop, (∀ σ' H', N σ' H' → ∃ m', m' < m ∧ W (i + 1) m' σ' H') ∧ ∀ x H', (Itr lo n).yld i H x H' → g x σ H' fun σ2 H2 => tb { D with nx := N, ct := N, bk := D.nx } σ2 H2) := by
  refine ⟨fun i m σ H => m = n - i ∧ i ≤ n ∧ Pv i σ H, ⟨n, by simp, Nat.zero_le _, h0⟩, ?_⟩
  rintro i m σ H ⟨rfl, hi, p⟩
  by_cases hlt : i < n
  · refine .inr ⟨hlt, Pv (i + 1), fun σ' H' p' => ⟨n - (i + 1), by omega, rfl, hlt, p'⟩, fun x H' y => ?_⟩
    obtain ⟨e, y⟩ := y
    subst e y
    exact hs i σ _ hlt p
  · have e : i = n := by omega
    subst e
    exact .inl ⟨Nat.le_refl _, hd σ H p⟩
end L2
namespace L2
open PySem PySem.Spec PyProof.Rows
abbrev R2 := V → V → Hp → VK → Prop
def OpR (X : Cx) (f : Value → Value → Sem Value) (r : R2) : Prop :=
  ∀ (pins : List (Addr × Obj)) (s : Shared) (σ : St) (H : Hp) (x y : V) (v u : Value) (Q : VK), Inv X pins σ H s → RelV x v → RelV y u → r x y H Q →
    wpAny (model X.prog X.w) X.A (f v u) (EP X pins σ Q) X.xe s
def UnR (X : Cx) (f : Value → Sem Value) (r : V → Hp → VK → Prop) : Prop :=
  ∀ (pins : List (Addr × Obj)) (s : Shared) (σ : St) (H : Hp) (x : V) (v : Value) (Q : VK), Inv X pins σ H s → RelV x v → r x H Q →
    wpAny (model X.prog X.w) X.A (f v) (EP X pins σ Q) X.xe s
def CallR (X : Cx) (f : Value) (r : List V → Hp → VK → Prop) : Prop :=
  ∀ (pins : List (Addr × Obj)) (s : Shared) (σ : St) (H : Hp) (xs : List V) (us : List Value) (Q : VK), Inv X pins σ H s → Vals xs us → r xs H Q →
    wpAny (model X.prog X.w) X.A (call f us) (EP X pins σ Q) X.xe s
def TruR (X : Cx) (r : V → Hp → (Bool → Hp → Prop) → Prop) : Prop :=
  ∀ (pins : List (Addr × Obj)) (s : Shared) (σ : St) (H : Hp) (x : V) (v : Value) (Q : Bool → Hp → Prop), Inv X pins σ H s → RelV x v → r x H Q →
    wpAny (model X.prog X.w) X.A (truthy v) (TP X pins σ Q) X.xe s
def tOp (r : R2) (ta tb : TE) : TE := fun σ H Q => ta σ H fun x H1 => tb σ H1 fun y H2 => r x y H2 Q
def tUn (r : V → Hp → VK → Prop) (ta : TE) : TE := fun σ H Q => ta σ H fun x H1 => r x H1 Q
def rI (C : Int → Int → Prop) (g : Int → Int → V) : R2 := fun x y H Q => ∃ i j, x = .int i ∧ y = .int j ∧ C i j ∧ Q (g i j) H
def rI0 (g : Int → Int → V) : R2 := fun x y H Q => ∃ i j, x = .int i ∧ y = .int j ∧ Q (g i j) H
def rU (g : Int → V) : V → Hp → VK → Prop := fun x H Q => ∃ i, x = .int i ∧ Q (g i) H
section
variable {X : Cx} {a b c : Expr} {ta tb tc : TE} {pos : Pos}
theorem binT (ha : PE X a ta) (hb : PE X b tb) {pins : List (Addr × Obj)} {s : Shared} {σ : St} {H : Hp} {R : V → V → Hp → Prop} (I : Inv X pins σ H s)
    (h : ta σ H fun x H1 => tb σ H1 fun y H2 => R x y H2) {Q : Value → Shared → Prop} {f : Value → Value → Sem Value}
    (hf : ∀ v u s2 x y H2, Inv X pins σ H2 s2 → RelV x v → RelV y u → R x y H2 → wpAny (model X.prog X.w) X.A (f v u) Q X.xe s2) :
    wpAny (model X.prog X.w) X.A (eval a X.env) (fun v s₁ => wpAny (model X.prog X.w) X.A (eval b X.env) (fun u s₂ => wpAny (model X.prog X.w) X.A (f v u) Q X.xe s₂) X.xe s₁) X.xe s := by
  refine thn (ha pins s σ H _ I h) fun v s1 ⟨x, H1, I1, r1, q1⟩ => ?_
  refine thn (hb pins s1 σ H1 _ I1 q1) fun u s2 ⟨y, H2, I2, r2, q2⟩ => ?_
  exact hf v u s2 x y H2 I2 r1 r2 q2
theorem pe_op {op : Operator} {r : R2} (ho : OpR X (binaryOp op) r) (ha : PE X a ta) (hb : PE X b tb) : PE X (.BinOp a op b pos) (tOp r ta tb) := by
  intro pins s σ H Q I h
  exact wpAny_BinOp (binT ha hb I h fun v u s2 x y H2 I2 rx ry q => ho pins s2 σ H2 x y v u Q I2 rx ry q)
theorem pe_un {op : UnaryOp} {r : V → Hp → VK → Prop} (ho : UnR X (unaryOp op) r) (ha : PE X a ta) : PE X (.UnaryOp op a pos) (tUn r ta) := by
  intro pins s σ H Q I h
  exact UnaryOp_ (thn (ha pins s σ H _ I h) fun v s1 ⟨x, H1, I1, r1, q1⟩ => ho pins s1 σ H1 x v Q I1 r1 q1)
theorem opI {f : Value → Value → Sem Value} {C : Int → Int → Prop} {g : Int → Int → Int}
    (rule : ∀ (i j : Int) (t u : Tok) (s : Shared) (Q : Value → Shared → Prop) (E : Value → Shared → Prop), C i j → Q (.int (g i j) s.toks) { s with toks := s.toks + 1 } → wpAny (model X.prog X.w) X.A (f (.int i t) (.int j u)) Q E s) :
    OpR X f (rI C fun i j => .int (g i j)) := by
  intro pins s σ H x y v u Q I rx ry h
  obtain ⟨i, j, rfl, rfl, hc, q⟩ := h
  obtain ⟨t, rfl⟩ := rx
  obtain ⟨t', rfl⟩ := ry
  exact rule i j t t' s _ _ hc ⟨.int (g i j), H, I.tok _, ⟨_, rfl⟩, q⟩
theorem opI0 {f : Value → Value → Sem Value} {g : Int → Int → Int}
    (rule : ∀ (i j : Int) (t u : Tok) (s : Shared) (Q : Value → Shared → Prop) (E : Value → Shared → Prop), Q (.int (g i j) s.toks) { s with toks := s.toks + 1 } → wpAny (model X.prog X.w) X.A (f (.int i t) (.int j u)) Q E s) :
    OpR X f (rI0 fun i j => .int (g i j)) := by
  intro pins s σ H x y v u Q I rx ry h
  obtain ⟨i, j, rfl, rfl, q⟩ := h
  obtain ⟨t, rfl⟩ := rx
  obtain ⟨t', rfl⟩ := ry
  exact rule i j t t' s _ _ ⟨.int (g i j), H, I.tok _, ⟨_, rfl⟩, q⟩
theorem opB0 {f : Value → Value → Sem Value} {g : Int → Int → Bool}
    (rule : ∀ (i j : Int) (t u : Tok) (s : Shared) (Q : Value → Shared → Prop) (E : Value → Shared → Prop), Q (.bool (g i j)) s → wpAny (model X.prog X.w) X.A (f (.int i t) (.int j u)) Q E s) :
    OpR X f (rI0 fun i j => .bl (g i j)) := by
  intro pins s σ H x y v u Q I rx ry h
  obtain ⟨i, j, rfl, rfl, q⟩ := h
  obtain ⟨t, rfl⟩ := rx
  obtain ⟨t', rfl⟩ := ry
  exact rule i j t t' s _ _ ⟨.bl (g i j), H, I, rfl, q⟩
def CDiv (i j : Int) : Prop := 0 < j ∧ j < 1073741824
def CDivN (i j : Int) : Prop := j ≠ 0 ∧ j.natAbs < 1073741824
def CPow (i j : Int) : Prop := 0 ≤ j ∧ j ≤ 1000000 ∧ i.natAbs < 2 ^ 64
def CMul (i j : Int) : Prop := (-(2 ^ 64) < i ∧ i < 2 ^ 64) ∨ (-(2 ^ 64) < j ∧ j < 2 ^ 64)
theorem CMul.ok {i j : Int} (h : CMul i j) : IntMulOk i j := by
  rcases h with ⟨h1, h2⟩ | ⟨h1, h2⟩
  · exact .of_left (intBits_le_64 h1 h2)
  · exact .of_right (intBits_le_64 h1 h2)
theorem op_add : OpR X (binaryOp .Add) (rI0 fun i j => .int (i + j)) := opI0 fun _ _ _ _ _ _ _ q => add_int q
theorem op_sub : OpR X (binaryOp .Sub) (rI0 fun i j => .int (i - j)) := opI0 fun _ _ _ _ _ _ _ q => sub_int q
theorem op_mul : OpR X (binaryOp .Mult) (rI CMul fun i j => .int (i * j)) := opI fun _ _ _ _ _ _ _ hc q => mul_int q hc.ok
theorem op_fdiv : OpR X (binaryOp .FloorDiv) (rI CDiv fun i j => .int (i / j)) := opI fun i j _ _ _ _ _ hc q => by
  have h1 : (0 : Int) < j := hc.1
  have h2 : j < 1073741824 := hc.2
  exact floordiv_int (by omega) (by rw [Int.fdiv_eq_ediv_of_nonneg i (by omega)]; exact q) (.inl (PyProof.noPylong_small (by omega)))
theorem op_mod : OpR X (binaryOp .Mod) (rI (fun _ j => 0 < j) fun i j => .int (i % j)) := opI fun i j _ _ _ _ _ hc q => by
  have h1 : (0 : Int) < j := hc
  exact mod_int' (by omega) (by rw [Int.fmod_eq_emod_of_nonneg i (by omega)]; exact q)
theorem op_pow : OpR X (binaryOp .Pow) (rI CPow fun i j => .int (i ^ j.toNat)) := opI fun _ _ _ _ _ _ _ hc q => pow_int_small hc.1 hc.2.1 hc.2.2 q
theorem unI {f : Value → Sem Value} {g : Int → Int}
    (rule : ∀ (i : Int) (t : Tok) (s : Shared) (Q : Value → Shared → Prop) (E : Value → Shared → Prop), Q (.int (g i) s.toks) { s with toks := s.toks + 1 } → wpAny (model X.prog X.w) X.A (f (.int i t)) Q E s) :
    UnR X f (rU fun i => .int (g i)) := by
  intro pins s σ H x v Q I rx h
  obtain ⟨i, rfl, q⟩ := h
  obtain ⟨t, rfl⟩ := rx
  exact rule i t s _ _ ⟨.int (g i), H, I.tok _, ⟨_, rfl⟩, q⟩
theorem un_neg : UnR X (unaryOp .USub) (rU fun i => .int (-i)) := unI fun _ _ _ _ _ q => neg_int q
end
def scal : V → V → Bool
  | .non, .non => true | .non, .int _ => true | .int _, .non => true | .non, .bl _ => true | .bl _, .non => true | .non, .str _ => true | .str _, .non => true
  | .int _, .int _ => true | .bl _, .bl _ => true | .str _, .str _ => true | .byt _, .byt _ => true
  | .int _, .str _ => true | .str _, .int _ => true | .bl _, .str _ => true | .str _, .bl _ => true
  | _, _ => false
def rEq : R2 := fun x y H Q => scal x y = true ∧ Q (.bl (decide (x = y))) H
def rNe : R2 := fun x y H Q => scal x y = true ∧ Q (.bl (!decide (x = y))) H
theorem dec_int {i j : Int} : decide (V.int i = V.int j) = (i == j) := by
  rw [Bool.eq_iff_iff]
  simp
theorem dec_bl {i j : Bool} : decide (V.bl i = V.bl j) = (i == j) := by
  rw [Bool.eq_iff_iff]
  simp
theorem dec_str {i j : Str} : decide (V.str i = V.str j) = (i == j) := by
  rw [Bool.eq_iff_iff]
  simp
theorem dec_byt {i j : Array UInt8} : decide (V.byt i = V.byt j) = (i.toList == j.toList) := by
  rw [Bool.eq_iff_iff]
  cases i
  cases j
  simp
section
variable {X : Cx} {a b c : Expr} {ta tb tc : TE} {pos : Pos}
theorem fin_bl {pins : List (Addr × Obj)} {σ : St} {H : Hp} {s : Shared} {Q : VK} {k k' : Bool} (I : Inv X pins σ H s) (q : Q (.bl k) H) (e : k = k') : EP X pins σ Q (.bool k') s := by
  subst e
  exact ⟨.bl k, H, I, rfl, q⟩
theorem op_eq : OpR X (compareOp .Eq) rEq := by
  intro pins s σ H x y v u Q I rx ry h
  obtain ⟨hs, q⟩ := h
  cases x with
  | non =>
    cases rx
    cases y with
    | non => cases ry; exact PySem.EqNone.eq_none_none (fin_bl I q (by simp))
    | bl j => cases ry; exact PySem.EqNone.eq_none_bool (fin_bl I q (by simp))
    | int j => obtain ⟨t', rfl⟩ := ry; exact PySem.EqNone.eq_none_int (fin_bl I q (by simp))
    | str j => obtain ⟨t', rfl⟩ := ry; exact PySem.EqNone.eq_none_str (fin_bl I q (by simp))
    | _ => exact absurd (show false = true from hs) Bool.false_ne_true
  | bl i =>
    cases rx
    cases y with
    | non => cases ry; exact PySem.EqNone.eq_bool_none (fin_bl I q (by simp))
    | bl j => cases ry; exact eq_bool (fin_bl I q dec_bl)
    | str j => obtain ⟨t', rfl⟩ := ry; exact PySem.EqMixed.eq_bool_str (fin_bl I q (by simp))
    | _ => exact absurd (show false = true from hs) Bool.false_ne_true
  | int i =>
    obtain ⟨t, rfl⟩ := rx
    cases y with
    | non => cases ry; exact PySem.EqNone.eq_int_none (fin_bl I q (by simp))
    | int j => obtain ⟨t', rfl⟩ := ry; exact eq_int (fin_bl I q dec_int)
    | str j => obtain ⟨t', rfl⟩ := ry; exact PySem.EqMixed.eq_int_str (fin_bl I q (by simp))
    | _ => exact absurd (show false = true from hs) Bool.false_ne_true
  | str i =>
    obtain ⟨t, rfl⟩ := rx
    cases y with
    | non => cases ry; exact PySem.EqNone.eq_str_none (fin_bl I q (by simp))
    | bl j => cases ry; exact PySem.EqMixed.eq_str_bool (fin_bl I q (by simp))
    | int j => obtain ⟨t', rfl⟩ := ry; exact PySem.EqMixed.eq_str_int (fin_bl I q (by simp))
    | str j => obtain ⟨t', rfl⟩ := ry; exact eq_str (fin_bl I q dec_str)
    | _ => exact absurd (show false = true from hs) Bool.false_ne_true
  | byt i =>
    obtain ⟨t, rfl⟩ := rx
    cases y with
    | byt j => obtain ⟨t', rfl⟩ := ry; exact PySem.W.eq_bytes (fin_bl I q dec_byt)
    | _ => exact absurd (show false = true from hs) Bool.false_ne_true
  | _ => cases y <;> exact absurd (show false = true from hs) Bool.false_ne_true
theorem op_ne : OpR X (compareOp .NotEq) rNe := by
  intro pins s σ H x y v u Q I rx ry h
  obtain ⟨hs, q⟩ := h
  cases x with
  | non =>
    cases rx
    cases y with
    | non => cases ry; exact PySem.EqNone.ne_none_none (fin_bl I q (by simp))
    | bl j => cases ry; exact PySem.EqNone.ne_none_bool (fin_bl I q (by simp))
    | int j => obtain ⟨t', rfl⟩ := ry; exact PySem.EqNone.ne_none_int (fin_bl I q (by simp))
    | str j => obtain ⟨t', rfl⟩ := ry; exact PySem.EqNone.ne_none_str (fin_bl I q (by simp))
    | _ => exact absurd (show false = true from hs) Bool.false_ne_true
  | bl i =>
    cases rx
    cases y with
    | non => cases ry; exact PySem.EqNone.ne_bool_none (fin_bl I q (by simp))
    | bl j => cases ry; exact ne_bool (fin_bl I q (congrArg not dec_bl))
    | str j => obtain ⟨t', rfl⟩ := ry; exact PySem.EqMixed.ne_bool_str (fin_bl I q (by simp))
    | _ => exact absurd (show false = true from hs) Bool.false_ne_true
  | int i =>
    obtain ⟨t, rfl⟩ := rx
    cases y with
    | non => cases ry; exact PySem.EqNone.ne_int_none (fin_bl I q (by simp))
    | int j => obtain ⟨t', rfl⟩ := ry; exact ne_int (fin_bl I q (congrArg not dec_int))
    | str j => obtain ⟨t', rfl⟩ := ry; exact PySem.EqMixed.ne_int_str (fin_bl I q (by simp))
    | _ => exact absurd (show false = true from hs) Bool.false_ne_true
  | str i =>
    obtain ⟨t, rfl⟩ := rx
    cases y with
    | non => cases ry; exact PySem.EqNone.ne_str_none (fin_bl I q (by simp))
    | bl j => cases ry; exact PySem.EqMixed.ne_str_bool (fin_bl I q (by simp))
    | int j => obtain ⟨t', rfl⟩ := ry; exact PySem.EqMixed.ne_str_int (fin_bl I q (by simp))
    | str j => obtain ⟨t', rfl⟩ := ry; exact ne_str (fin_bl I q (congrArg not dec_str))
    | _ => exact absurd (show false = true from hs) Bool.false_ne_true
  | byt i =>
    obtain ⟨t, rfl⟩ := rx
    cases y with
    | byt j => obtain ⟨t', rfl⟩ := ry; exact PySem.W.ne_bytes (fin_bl I q (congrArg not dec_byt))
    | _ => exact absurd (show false = true from hs) Bool.false_ne_true
  | _ => cases y <;> exact absurd (show false = true from hs) Bool.false_ne_true
theorem op_lt : OpR X (compareOp .Lt) (rI0 fun i j => .bl (decide (i < j))) := opB0 fun _ _ _ _ _ _ _ q => lt_int q
theorem op_le : OpR X (compareOp .LtE) (rI0 fun i j => .bl (decide (i ≤ j))) := opB0 fun _ _ _ _ _ _ _ q => le_int q
theorem op_in_str : OpR X (compareOp .In) (fun x y H Q => ∃ i j, x = .str i ∧ y = .str j ∧ Q (.bl (!(Builtin.Str.occurrences j i 0 j.length 1).isEmpty)) H) := by
  intro pins s σ H x y v u Q I rx ry h
  obtain ⟨i, j, rfl, rfl, q⟩ := h
  obtain ⟨t, rfl⟩ := rx
  obtain ⟨t', rfl⟩ := ry
  exact in_str (fin_bl I q rfl)
def isObj : HO → Bool
  | .lst _ => true
  | .ins _ _ _ => true
  | _ => false
theorem OpR.or {f : Value → Value → Sem Value} {r r' : R2} (h : OpR X f r) (h' : OpR X f r') : OpR X f (fun x y H Q => r x y H Q ∨ r' x y H Q) := by
  intro pins s σ H x y v u Q I rx ry q
  rcases q with q | q
  · exact h pins s σ H x y v u Q I rx ry q
  · exact h' pins s σ H x y v u Q I rx ry q
theorem nomark (b : Expr) {op : CmpOp} (h : op ≠ .In := by decide) (h2 : op ≠ .NotIn := by decide) : behindInMarks op b = false := by
  have e1 : (op == CmpOp.In) = false := by cases op <;> first | rfl | exact absurd rfl h
  have e2 : (op == CmpOp.NotIn) = false := by cases op <;> first | rfl | exact absurd rfl h2
  cases b <;> simp [behindInMarks, e1, e2]
theorem pe_cmpR {op : CmpOp} {r : R2} (ho : OpR X (compareOp op) r) (ha : PE X a ta) (hb : PE X b tb) (hm : behindInMarks op b = false) : PE X (.Compare a [op] [b] pos) (tOp r ta tb) := by
  intro pins s σ H Q I h
  exact wpAny_Compare1 (binT ha hb I h fun v u s2 x y H2 I2 rx ry q => ho pins s2 σ H2 x y v u Q I2 rx ry q) hm
def tTest (t : TE) : TT := fun σ H Q => t σ H fun x H' => ∃ k, x = .bl k ∧ Q k H'
theorem pt_cmpR {op : CmpOp} {r : R2} (ho : OpR X (compareOp op) r) (ha : PE X a ta) (hb : PE X b tb) (hm : behindInMarks op b = false) : PT X (.Compare a [op] [b] pos) (tTest (tOp r ta tb)) := by
  intro pins s σ H Q I h
  refine wpAny_isTrue_Compare1 (thn (ha pins s σ H _ I h) fun v s1 ⟨x, H1, I1, r1, q1⟩ => thn (hb pins s1 σ H1 _ I1 q1) fun u s2 ⟨y, H2, I2, r2, q2⟩ =>
    thn (ho pins s2 σ H2 x y v u _ I2 r1 r2 q2) fun c s3 ⟨z, H3, I3, r3, k, e, q3⟩ => ?_) hm
  subst e
  cases r3
  exact wpAny_truthy_bool ⟨H3, I3, q3⟩
def tChain (r r' : R2) (ta tb tc : TE) : TE := fun σ H Q => ta σ H fun x H1 => tb σ H1 fun y H2 => r x y H2 fun z H3 => ∃ k, z = .bl k ∧
  (if k = true then tc σ H3 fun w' H4 => r' y w' H4 Q else Q (.bl false) H3)
theorem pe_chain {op op' : CmpOp} {r r' : R2} (ho : OpR X (compareOp op) r) (ho' : OpR X (compareOp op') r') (ha : PE X a ta) (hb : PE X b tb) (hc : PE X c tc)
    (hm : lastMarks [op, op'] [b, c] = false := by with_unfolding_all rfl) : PE X (.Compare a [op, op'] [b, c] pos) (tChain r r' ta tb tc) := by
  intro pins s σ H Q I h
  refine Compare_chain (thn (ha pins s σ H _ I h) fun v s1 ⟨x, H1, I1, r1, q1⟩ => chain_link (thn (hb pins s1 σ H1 _ I1 q1) fun u s2 ⟨y, H2, I2, r2, q2⟩ =>
    thn (ho pins s2 σ H2 x y v u _ I2 r1 r2 q2) fun d s3 ⟨z, H3, I3, r3, k, e, q3⟩ => ?_)) hm
  subst e
  cases r3
  refine wpAny_truthy_bool ?_
  cases k with
  | false => exact ite_ff ⟨.bl false, H3, I3, rfl, q3⟩
  | true => exact ite_tt (chain_last (thn (hc pins s3 σ H3 _ I3 q3) fun w' s4 ⟨z', H4, I4, r4, q4⟩ => ho' pins s4 σ H4 y z' u w' Q I4 r2 r4 q4))
theorem pt_chain {op op' : CmpOp} {r r' : R2} (ho : OpR X (compareOp op) r) (ho' : OpR X (compareOp op') r') (ha : PE X a ta) (hb : PE X b tb) (hc : PE X c tc)
    (hm : lastMarks [op, op'] [b, c] = false := by with_unfolding_all rfl) : PT X (.Compare a [op, op'] [b, c] pos) (tTest (tChain r r' ta tb tc)) := by
  intro pins s σ H Q I h
  refine isTrue_chain (thn (ha pins s σ H _ I h) fun v s1 ⟨x, H1, I1, r1, q1⟩ => test_link (thn (hb pins s1 σ H1 _ I1 q1) fun u s2 ⟨y, H2, I2, r2, q2⟩ =>
    thn (ho pins s2 σ H2 x y v u _ I2 r1 r2 q2) fun d s3 ⟨z, H3, I3, r3, k, e, q3⟩ => ?_)) hm
  subst e
  cases r3
  refine wpAny_truthy_bool ?_
  cases k with
  | false =>
    obtain ⟨k', e', q'⟩ := q3
    cases e'
    exact ite_ff ⟨H3, I3, q'⟩
  | true =>
    refine ite_tt (test_last (thn (hc pins s3 σ H3 _ I3 q3) fun w' s4 ⟨z', H4, I4, r4, q4⟩ => thn (ho' pins s4 σ H4 y z' u w' _ I4 r2 r4 q4) fun d' s5 ⟨z2, H5, I5, r5, k2, e2, q5⟩ => ?_))
    subst e2
    cases r5
    exact wpAny_truthy_bool ⟨H5, I5, q5⟩
def TruV (K : PySem.W.Frag) (x : V) (H : Hp) (k : Bool) : Prop :=
  match x with
  | .non => k = false
  | .bl b => k = b
  | .int i => k = (i != 0)
  | .str y => y.length ≤ sizeLine ∧ k = ((y.length : Int) != 0)
  | .byt y => y.size ≤ sizeLine ∧ k = ((y.size : Int) != 0)
  | .ref p => (∃ xs, SqL K H p xs ∧ k = !xs.isEmpty) ∨ (∃ xs, SqT K H p xs ∧ k = !xs.isEmpty) ∨ ∃ kvs, H p = some (.dK kvs) ∧ k = !kvs.isEmpty
  | _ => False
theorem line63 : (sizeLine : Nat) < 2 ^ 63 := by rw [sizeLine_eq]; decide
theorem op_add_str : OpR X (binaryOp .Add) (fun x y H Q => ∃ i j, x = .str i ∧ y = .str j ∧ i.length + j.length ≤ sizeLine ∧ Q (.str (i ++ j)) H) := by
  intro pins s σ H x y v u Q I rx ry h
  obtain ⟨i, j, rfl, rfl, hz, q⟩ := h
  obtain ⟨t, rfl⟩ := rx
  obtain ⟨t', rfl⟩ := ry
  exact add_str (fun t' tk => ⟨.str (i ++ j), H, I.tok _, ⟨_, rfl⟩, q⟩) hz
def PlainIxT (b : Expr) : Prop := ∀ o i, subscripted b false o i = operate [o, i] (getItem o i)
theorem vals1 {x : V} {us : List Value} (r : Vals [x] us) : ∃ u, us = [u] ∧ RelV x u := by
  cases r with
  | cons r1 r2 => cases r2; exact ⟨_, rfl, r1⟩
theorem vals2 {x y : V} {us : List Value} (r : Vals [x, y] us) : ∃ u w', us = [u, w'] ∧ RelV x u ∧ RelV y w' := by
  cases r with
  | cons r1 r2 =>
    cases r2 with
    | cons r3 r4 => cases r4; exact ⟨_, _, rfl, r1, r3⟩
theorem call_int1 : CallR X (.type "int") (fun xs H Q => (∃ i, xs = [.int i] ∧ Q (.int i) H) ∨ ∃ k, xs = [.bl k] ∧ Q (.int (if k then 1 else 0)) H) := by
  intro pins s σ H xs us Q I r h
  rcases h with ⟨i, rfl, q⟩ | ⟨k, rfl, q⟩
  · obtain ⟨u, rfl, t, rfl⟩ := vals1 r
    exact call_int_int ⟨.int i, H, I, ⟨_, rfl⟩, q⟩
  · obtain ⟨u, rfl, r1⟩ := vals1 r
    cases r1
    exact call_int_bool ⟨.int (if k then 1 else 0), H, I.tok _, ⟨_, rfl⟩, q⟩
theorem call_str_int : CallR X (.type "str") (fun xs H Q => ∃ i, xs = [.int i] ∧ i.natAbs.log2 < 1920 ∧ Q (.str (toString i)) H) := by
  intro pins s σ H xs us Q I r h
  obtain ⟨i, rfl, hz, q⟩ := h
  obtain ⟨u, rfl, t, rfl⟩ := vals1 r
  exact PySem.P.str_of_int hz ⟨.str _, H, I.tok _, ⟨_, rfl⟩, q⟩
def LenV (K : PySem.W.Frag) (x : V) (H : Hp) (n : Nat) : Prop :=
  match x with
  | .str y => y.length ≤ sizeLine ∧ n = y.length
  | .byt y => y.size ≤ sizeLine ∧ n = y.size
  | .ref p => (∃ xs, SqL K H p xs ∧ n = xs.length) ∨ ∃ xs, SqT K H p xs ∧ n = xs.length
  | _ => False
end
end L2
namespace L2
open PySem PySem.Spec PyProof.Rows
structure ObjM (h : Heap) (x dx C : Addr) (mA : Str → Option Value) : Prop where
  obj : h.get? x = some (PySem.W.instObj C dx)
  ns : h.Ns1 dx mA
  ne : dx ≠ x
theorem lookIn_ns {h : Heap} {dx : Addr} {mA : Str → Option Value} (n : h.Ns1 dx mA) : ∃ od, h.get? dx = some od ∧ ∀ name, PySem.W.lookIn name od = some (mA name) := by
  obtain ⟨o, es, ep, ho, hd, hk, _, hm⟩ := n
  refine ⟨o, ho, fun name => ?_⟩
  have e := hm name
  unfold nsFind findBy at e
  rw [← Array.find?_toList] at e
  unfold PySem.W.lookIn
  rw [hd]
  dsimp only
  split
  · rename_i y q
    rw [q] at e
    exact congrArg some e
  · rename_i q
    rw [q] at e
    have a : es.toList.any (·.refKey) = false := by
      rw [List.any_eq_false]
      intro y hy
      obtain ⟨z, t, hkey⟩ := hk y (Array.mem_toList_iff.mp hy)
      simp [DictEntry.refKey, hkey]
    have a' : ¬ es.toList.any (·.refKey) = true := by rw [a]; exact Bool.false_ne_true
    rw [if_neg a']
    exact congrArg some e
theorem ObjM.look {h : Heap} {x dx C : Addr} {mA : Str → Option Value} (I : ObjM h x dx C mA) : ∃ od, PySem.W.InstAt h x (PySem.W.instObj C dx) C (some od) ∧ ∀ name, PySem.W.lookIn name od = some (mA name) :=
  let ⟨od, ho, hl⟩ := lookIn_ns I.ns
  ⟨od, ⟨I.obj, rfl, rfl, ho⟩, hl⟩
section
variable {prog : Program} {w : World} {A : Around} {E : Value → Shared → Prop} {s : Shared} {K : PySem.W.Frag} {x dx C f : Addr} {mA : Str → Option Value} {name : Str} {v : Value}
end
def putF (f : Str) (v : V) : List (Str × V) → List (Str × V)
  | [] => [(f, v)]
  | (g, x) :: r => if g = f then (g, v) :: r else (g, x) :: putF f v r
theorem RelO.none_of {o : Option Value} (r : RelO none o) : o = none := by
  cases o with
  | none => rfl
  | some u => exact (show False from r).elim
section
variable {P : Program} {w : World} {H H' : Hp} {h h' : Heap} {a C dx : Addr} {fs fs' : List (Str × V)}
theorem ins_get (hok : HOk P w H h) (e : H a = some (.ins C dx fs)) : ∃ mA, ObjM h a dx C mA ∧ (∀ f, RelO (fs.lookup f) (mA f)) ∧ PySem.Within mA (fs.map (·.1)) ∧ fs.length ≤ 1000 ∧ H dx = some (.own a) := by
  obtain ⟨d, z, ne, ob, mA, n, r, q⟩ := (show ObjOk P w H h a (.ins C dx fs) from hok a _ e)
  exact ⟨mA, ⟨ob, n, ne⟩, r, q, z, d⟩
end
structure Cls (K : PySem.W.Frag) (C : Addr) : Prop where
  pg : PySem.W.plainGet K C Str.empty = true
  hd : PySem.W.hasDictIn K C = true
  po : PySem.W.plainOver K C = true
  sa : PySem.W.findIn K (.ref C) "__setattr__" = some (some (.builtin "object.__setattr__"))
theorem Cls.get {K : PySem.W.Frag} {C : Addr} (c : Cls K C) (f : Str) : PySem.W.plainGet K C f = true := c.pg
def NoAttr (K : PySem.W.Frag) (C : Addr) (f : Str) : Prop := PySem.W.findIn K (.ref C) f = some none
structure Con (K : PySem.W.Frag) (C : Addr) (f : Str) (v : V) (u : Value) : Prop where
  at_ : PySem.W.findIn K (.ref C) f = some (some u)
  rel : RelV v u
  get : PySem.W.specialIn K u "__get__" = some none
  cp : PySem.W.copiedNames.contains f = false
structure Meth (K : PySem.W.Frag) (C : Addr) (m : Str) (f : Addr) : Prop where
  at_ : PySem.W.findIn K (.ref C) m = some (some (.ref f))
  fn : PySem.W.isFn K (.ref f) = true
  kp : PySem.W.keepIn K (.ref f) = true
section
variable {X : Cx} {pins : List (Addr × Obj)} {σ : St} {H : Hp} {s : Shared} {a C dx : Addr} {fs : List (Str × V)} {f : Str} {v : V} {A : Around} {E : Value → Shared → Prop}
theorem Inv.made (I : Inv X pins σ H s) : Inv X pins σ (upd (upd H s.heap.objs.size (.own (s.heap.objs.size + 1))) (s.heap.objs.size + 1) (.ins C s.heap.objs.size []))
    { s with heap := (s.heap.push PySem.W.emptyDict).push (PySem.W.instObj C s.heap.objs.size) } := by
  have e1 : (s.heap.push PySem.W.emptyDict).get? s.heap.objs.size = some PySem.W.emptyDict := Heap.get?_push_size s.heap rfl
  have e2 : ((s.heap.push PySem.W.emptyDict).push (PySem.W.instObj C s.heap.objs.size)).get? (s.heap.objs.size + 1) = some (PySem.W.instObj C s.heap.objs.size) := by
    have := Heap.get?_push_size (s.heap.push PySem.W.emptyDict) (o := PySem.W.instObj C s.heap.objs.size) rfl
    rwa [Heap.size_push] at this
  have e3 : (s.heap.push PySem.W.emptyDict).Ns s.heap.objs.size (fun _ => none) := ⟨PySem.W.emptyDict, #[], _, e1, rfl, (fun e he => absurd he (by simp)), fun _ => rfl⟩
  have I1 := I.laid (a := s.heap.objs.size) (o := .own (s.heap.objs.size + 1)) (h' := s.heap.push PySem.W.emptyDict) (t' := s.toks) (fun b u q => Heap.get?_push_of_some _ q) (Nat.le_refl _) ⟨_, e1⟩
  refine I1.laid (a := s.heap.objs.size + 1) (o := .ins C s.heap.objs.size []) (t' := s.toks) (fun b u q => Heap.get?_push_of_some _ q) (Nat.le_of_eq (Heap.size_push _ _)) ?_
  have ne : s.heap.objs.size ≠ s.heap.objs.size + 1 := Nat.ne_of_lt (Nat.lt_succ_self _)
  refine ⟨by rw [upd_ne ne, upd_same], Nat.zero_le _, ne, e2, fun _ => none, (Heap.Ns1.of_empty e3).at fun o q => Heap.get?_push_of_some _ q, fun _ => True.intro, fun y hy => absurd rfl hy⟩
end
def tFld (K : PySem.W.Frag) (ta : TE) (f : Str) : TE := fun σ H Q => ta σ H fun x H1 => ∃ a C dx fs v, x = .ref a ∧ H1 a = some (.ins C dx fs) ∧ Cls K C ∧ NoAttr K C f ∧ fs.lookup f = some v ∧ Q v H1
def tCon (K : PySem.W.Frag) (ta : TE) (f : Str) : TE := fun σ H Q => ta σ H fun x H1 => ∃ a C dx fs v u, x = .ref a ∧ H1 a = some (.ins C dx fs) ∧ Cls K C ∧ Con K C f v u ∧ fs.lookup f = none ∧ Q v H1
def sFld (K : PySem.W.Frag) (ta tv : TE) (f : Str) : TS := fun D σ H => tv σ H fun y H1 => ta σ H1 fun x H2 => ∃ a C dx fs, x = .ref a ∧ H2 a = some (.ins C dx fs) ∧ Cls K C ∧ NoAttr K C f ∧ fs.length < 1000 ∧
  D.nx σ (upd H2 a (.ins C dx (putF f y fs)))
def InOp (X : Cx) (op : Operator) (rd : V → V → Hp → VK → Prop) : Prop :=
  ∀ (pins : List (Addr × Obj)) (s : Shared) (σ : St) (H : Hp) (x y : V) (u v : Value) (Q : VK), Inv X pins σ H s → RelV x u → RelV y v → rd x y H Q → wpAny (model X.prog X.w) X.A (inplaceOp op u v) (EP X pins σ Q) X.xe s
def sFldAug (K : PySem.W.Frag) (ta tv : TE) (rd : V → V → Hp → VK → Prop) (f : Str) : TS := fun D σ H => ta σ H fun x H1 => ∃ a C dx fs v, x = .ref a ∧ H1 a = some (.ins C dx fs) ∧ Cls K C ∧ NoAttr K C f ∧ fs.lookup f = some v ∧
  tv σ H1 fun y H2 => rd v y H2 fun z H3 => ∃ dx' fs', H3 a = some (.ins C dx' fs') ∧ fs'.length < 1000 ∧ D.nx σ (upd H3 a (.ins C dx' (putF f z fs')))
section
variable {X : Cx} {o e value : Expr} {f : Str} {pos pos' tpos : Pos} {ta tv : TE}
def rAdd : V → V → Hp → VK → Prop := fun x y H Q => ∃ i j, x = .int i ∧ y = .int j ∧ Q (.int (i + j)) H
def rSub : V → V → Hp → VK → Prop := fun x y H Q => ∃ i j, x = .int i ∧ y = .int j ∧ Q (.int (i - j)) H
end
section
variable {X : Cx} {pins : List (Addr × Obj)} {σ : St} {H : Hp} {s : Shared} {A : Around} {E : Value → Shared → Prop} {Q : Value → Shared → Prop} {c : Value} {b : Bool}
inductive TyOf (K : PySem.W.Frag) (H : Hp) : V → Value → Prop where
  | non : TyOf K H .non (.type "NoneType")
  | bl (x : Bool) : TyOf K H (.bl x) (.type "bool")
  | int (i : Int) : TyOf K H (.int i) (.type "int")
  | str (x : Str) : TyOf K H (.str x) (.type "str")
  | flt (x : UInt64) : TyOf K H (.flt x) (.type "float")
  | lst {a : Addr} {xs : List V} (e : H a = some (.lst xs)) : TyOf K H (.ref a) (.type "list")
  | frz {a : Addr} {o : Obj} {xs : List V} (e : H a = some (.frz o (.lst xs))) : TyOf K H (.ref a) (.type "list")
  | tup {a : Addr} {xs : List V} (e : H a = some (.tup xs)) : TyOf K H (.ref a) (.type "tuple")
  | dK {a : Addr} {kvs : List (Key × V)} (e : H a = some (.dK kvs)) : TyOf K H (.ref a) (.type "dict")
  | dT {a : Addr} {kvs : List (List Key × V)} (e : H a = some (.dT kvs)) : TyOf K H (.ref a) (.type "dict")
  | ins {a C dx : Addr} {fs : List (Str × V)} (e : H a = some (.ins C dx fs)) (cl : Cls K C) (ha : PySem.W.findIn K (.ref C) "__class__" = some (some (.builtin "object.__class__")))
      (hn : PySem.W.specialIn K (.builtin "object.__class__") "__get__" = some (some (.builtin "getset_descriptor.__get__"))) (htk : PySem.W.takesIn K (.builtin "object.__class__") = some true)
      (hm : PySem.W.mroIn K C (.type "object") = some true) : TyOf K H (.ref a) (.ref C)
theorem isinst_ok {x : V} {u t : Value} (I : Inv X pins σ H s) (rx : RelV x u) (ty : TyOf X.K H x t) (e : PySem.W.kitOne X.K t c = some b) (h : ∀ tk, Q (.bool b) { s with toks := tk }) :
    wpAny (model X.prog X.w) A (call (.builtin "isinstance") [u, c]) Q E s := by
  cases ty with
  | non => cases (show u = Value.none from rx); exact PySem.W.kia_one PySem.W.kitx_none I.kIn True.intro e (fun z => nomatch z) h
  | bl y => cases (show u = Value.bool y from rx); exact PySem.W.kia_one PySem.W.kitx_bool I.kIn True.intro e (fun z => nomatch z) h
  | int i => obtain ⟨t, q⟩ := (show ∃ t, u = Value.int i t from rx); cases q; exact PySem.W.kia_one PySem.W.kitx_int I.kIn True.intro e (fun z => nomatch z) h
  | str y => obtain ⟨t, q⟩ := (show ∃ t, u = Value.str y t from rx); cases q; exact PySem.W.kia_one PySem.W.kitx_str I.kIn True.intro e (fun z => nomatch z) h
  | flt y => obtain ⟨t, q⟩ := (show ∃ t, u = Value.float y t from rx); cases q; exact PySem.W.kia_one PySem.W.kitx_float I.kIn True.intro e (fun z => nomatch z) h
  | @lst a xs ea =>
    cases (show u = Value.ref a from rx)
    obtain ⟨_, _, n, _, h1⟩ := (show ObjOk X.prog X.w H s.heap a (.lst xs) from I.hok a _ ea)
    exact PySem.W.kia_one PySem.W.kitx_list I.kIn ⟨_, h1, rfl⟩ e (fun z => nomatch z) h
  | @frz a ob xs ea =>
    cases (show u = Value.ref a from rx)
    obtain ⟨_, _, _, n, _, h1⟩ := (show ObjOk X.prog X.w H s.heap a (.frz ob (.lst xs)) from I.hok a _ ea)
    exact PySem.W.kia_one PySem.W.kitx_list I.kIn ⟨_, h1, rfl⟩ e (fun z => nomatch z) h
  | @tup a xs ea =>
    cases (show u = Value.ref a from rx)
    obtain ⟨_, _, _, p⟩ := (show ObjOk X.prog X.w H s.heap a (.tup xs) from I.hok a _ ea)
    obtain ⟨o, h1, h2, _⟩ := p
    exact PySem.W.kia_one PySem.W.kitx_tuple I.kIn ⟨o, h1, h2⟩ e (fun z => nomatch z) h
  | @dK a kvs ea =>
    cases (show u = Value.ref a from rx)
    obtain ⟨_, _, vs, _, p⟩ := (show ObjOk X.prog X.w H s.heap a (.dK kvs) from I.hok a _ ea)
    obtain ⟨o, es, ep, h1, h2, _⟩ := p
    exact PySem.W.kia_one PySem.W.kitx_dict I.kIn ⟨o, h1, h2.1⟩ e (fun z => nomatch z) h
  | @dT a kvs ea =>
    cases (show u = Value.ref a from rx)
    obtain ⟨_, _, xs, _, o, es, ep, h1, h2, _⟩ := (show ObjOk X.prog X.w H s.heap a (.dT kvs) from I.hok a _ ea)
    exact PySem.W.kia_one PySem.W.kitx_dict I.kIn ⟨o, h1, h2.1⟩ e (fun z => nomatch z) h
  | @ins a C dx fs ea cl ha hn htk hm =>
    cases (show u = Value.ref a from rx)
    obtain ⟨mA, O, _⟩ := ins_get I.hok ea
    obtain ⟨od, J, _⟩ := O.look
    exact PySem.W.kia_one (PySem.W.kitx_own (cl.get _) cl.hd ha hn htk hm) I.kIn J e (fun z => nomatch z) h
end
end L2
namespace L2
open PySem PySem.Spec PyProof.Rows
structure Room (k : Nat) (A : Around) : Prop where
  hd : A.handled = none
  dp : A.depth + 3 * k + 5 < recursionLimit
  un : A.units + 16 * k + 200 < cLine
theorem Room.mono {j k : Nat} {A : Around} (r : Room k A) (h : j ≤ k) : Room j A := ⟨r.hd, by have := r.dp; omega, by have := r.un; omega⟩
theorem Room.deeper {k : Nat} {A : Around} (r : Room (k + 1) A) (env : Env) : Room k (A.deeper env) :=
  ⟨r.hd, by have := r.dp; show A.depth + 1 + 3 * k + 5 < _; omega, by have := r.un; show A.units + 3 + 16 * k + 200 < _; omega⟩
theorem Room.in1 {k : Nat} {A : Around} (r : Room (k + 1) A) : Room k A.in1 :=
  ⟨r.hd, by have := r.dp; show A.depth + 3 * k + 5 < _; omega, by have := r.un; show A.units + 1 + 16 * k + 200 < _; omega⟩
theorem make_depth {A : Around} {C : Addr} {us : List Value} {kw : List (Str × Value)} : (A.under (.builtin "type.__call__" ⟨.ref C :: us, kw⟩)).depth = A.depth + 1 := by
  first | rfl | simp [Around.under, Code.weight, Code.isCreation, Code.isGuard, Code.isCaller, Code.frames, Code.isFrame, guardIds]
theorem make_units {A : Around} {C : Addr} {us : List Value} {kw : List (Str × Value)} : (A.under (.builtin "type.__call__" ⟨.ref C :: us, kw⟩)).units = A.units + 1 := by
  first | rfl | simp [Around.under, Code.cUnits, Code.frames, Code.isFrame]
theorem Room.make {k : Nat} {A : Around} (r : Room (k + 1) A) (C : Addr) (us : List Value) (kw : List (Str × Value)) : Room k (A.under (.builtin "type.__call__" ⟨.ref C :: us, kw⟩)) :=
  ⟨r.hd, by have := r.dp; rw [make_depth]; omega, by have := r.un; rw [make_units]; omega⟩
theorem Room.depth {k : Nat} {A : Around} (r : Room k A) : A.depth < recursionLimit := by have := r.dp; omega
theorem Room.units {k : Nat} {A : Around} (r : Room k A) : A.units + 64 < cLine := by have := r.un; omega
def tNil : TA := fun _ H Q => Q [] H
def tCons (ta : TE) (tr : TA) : TA := fun σ H Q => ta σ H fun x H1 => tr σ H1 fun xs H2 => Q (x :: xs) H2
section
variable {X : Cx} {e : Expr} {es : List Expr} {te : TE} {t : TA} {pos : Pos}
theorem pa_nil : PA X [] tNil := fun _ _ _ _ H Q I h => Calls.spliced_nil ⟨[], H, I, .nil, h⟩
theorem pa_cons (ha : PE X e te) (hr : PA X es t) (hs : starEach (e :: es) X.env = (false, eval e X.env) :: starEach es X.env := by rfl) : PA X (e :: es) (tCons te t) := by
  intro pos pins s σ H Q I h
  rw [hs]
  show wpAny _ _ (spliced ((false, eval e X.env) :: backTo pos (starEach es X.env))) _ _ s
  refine Calls.spliced_cons (thn (ha pins s σ H _ I h) fun u s1 ⟨x, H1, I1, r1, q1⟩ => ?_)
  exact thn (hr pos pins s1 σ H1 _ I1 q1) fun us s2 ⟨xs, H2, I2, r2, q2⟩ => ⟨x :: xs, H2, I2, .cons r1 r2, q2⟩
def tTup (t : TA) : TE := fun σ H Q => t σ H fun xs H1 => xs.length ≤ sizeLine ∧ ∀ p, H1 p = none → Q (.ref p) (upd H1 p (.tup xs))
def tLst (t : TA) : TE := fun σ H Q => t σ H fun xs H1 => xs.length ≤ sizeLine ∧ ∀ p, H1 p = none → Q (.ref p) (upd H1 p (.lst xs))
theorem pe_tup {x1} (h : PA X es t) : PE X (.Tuple es x1 pos) (tTup t) := by
  intro pins s σ H Q I hq
  refine wpAny_Tuple_spliced (thn (h pos pins s σ H _ I hq) fun us s1 ⟨xs, H1, I1, r, z, q⟩ => ⟨by rw [← r.length]; exact z, ?_⟩)
  have hf : H1 s1.heap.objs.size = none := I1.hok.fresh (Nat.le_refl _)
  refine ⟨.ref s1.heap.objs.size, upd H1 s1.heap.objs.size (.tup xs), I1.laid (t' := s1.toks) (fun b u e => Heap.get?_push_of_some _ e) (Nat.le_refl _) ?_, rfl, q _ hf⟩
  exact ⟨z, us, r, ⟨_, Heap.get?_push_size _ rfl, rfl, _, rfl, rfl⟩⟩
theorem pe_lst (h : PA X es t) : PE X (.List es pos) (tLst t) := by
  intro pins s σ H Q I hq
  refine wpAny_List_spliced (thn (h pos pins s σ H _ I hq) fun us s1 ⟨xs, H1, I1, r, z, q⟩ => ⟨by rw [← r.length]; exact z, ?_⟩)
  have hf : H1 s1.heap.objs.size = none := I1.hok.fresh (Nat.le_refl _)
  refine ⟨.ref s1.heap.objs.size, upd H1 s1.heap.objs.size (.lst xs), I1.laid (t' := s1.toks) (fun b u e => Heap.get?_push_of_some _ e) (Nat.le_refl _) ?_, rfl, q _ hf⟩
  exact ⟨z, us, 0, r, Heap.get?_push_size _ rfl⟩
end
abbrev Sp := List V → Hp → VK → XK → Prop
abbrev CXT := List Env → Hp → Shared → XK → Value → Shared → Prop
structure Env0 (P : Program) (w : World) (K : PySem.W.Frag) (mg : Str → Option Value) (base : Heap) (A : Around) (outer : List Env) (s : Shared) (H : Hp) : Prop where
  frames : A.frames = some outer
  mod : Mod K mg base
  bs : ∀ b o, base.get? b = some o → s.heap.get? b = some o ∧ H b = none
  bsz : base.objs.size ≤ s.heap.objs.size
  funs : s.heap.FunFrames base outer
  frf : ∀ b ∈ frs outer, H b = none
  hok : HOk P w H s.heap
  bare : AllBare s.gens
def CE (outer : List Env) (P : Program) (w : World) (H : Hp) (s : Shared) (Q : VK) (u : Value) (s' : Shared) : Prop :=
  ∃ v H', s'.os = s.os ∧ AllBare s'.gens ∧ Un (frs outer) [] H H' s.heap s'.heap ∧ HOk P w H' s'.heap ∧ RelV v u ∧ Q v H'
def CR (CX : CXT) (outer : List Env) (P : Program) (w : World) (H : Hp) (s : Shared) (Q : VK) (E : XK) (r : Result) (s' : Shared) : Prop :=
  match r with
  | .ok (.ret u) => CE outer P w H s Q u s'
  | .ok _ => False
  | .error e => CX outer H s E e s'
structure FnOk (P : Program) (w : World) (K : PySem.W.Frag) (mg : Str → Option Value) (base : Heap) (CX : CXT) (k : Nat) (f : Addr) (fd : FuncData) (ps : List Str) (sp : Sp) : Prop where
  len : ∀ vs H Q E, sp vs H Q E → vs.length = ps.length
  run : ∀ (A : Around) (outer : List Env) (s : Shared) (H : Hp) (args : Args) (us : List Value) (vs : List V) (Q : VK) (E : XK), Room k A → Env0 P w K mg base A outer s H → BindsTo s fd args (ps.zip us) → Vals vs us → sp vs H Q E →
    codeAny (model P w) A (.call (.ref f) args) (CR CX outer P w H s Q E) s
theorem FnOk.mono {P : Program} {w : World} {K : PySem.W.Frag} {mg : Str → Option Value} {base : Heap} {CX : CXT} {j k : Nat} {f : Addr} {fd : FuncData} {ps : List Str} {sp : Sp} (F : FnOk P w K mg base CX j f fd ps sp) (h : j ≤ k) :
    FnOk P w K mg base CX k f fd ps sp := ⟨F.len, fun A outer s H args us vs Q E hr => F.run A outer s H args us vs Q E (hr.mono h)⟩
theorem FnOk.imp {P : Program} {w : World} {K : PySem.W.Frag} {mg : Str → Option Value} {base : Heap} {CX : CXT} {k : Nat} {f : Addr} {fd : FuncData} {ps : List Str} {sp sp' : Sp} (F : FnOk P w K mg base CX k f fd ps sp)
    (h : ∀ vs H Q E, sp' vs H Q E → sp vs H Q E) : FnOk P w K mg base CX k f fd ps sp' :=
  ⟨fun vs H Q E q => F.len vs H Q E (h _ _ _ _ q), fun A outer s H args us vs Q E hr he hb hv hs => F.run A outer s H args us vs Q E hr he hb hv (h _ _ _ _ hs)⟩
theorem Env0.make {P : Program} {w : World} {K : PySem.W.Frag} {mg : Str → Option Value} {base : Heap} {A : Around} {outer : List Env} {s : Shared} {H : Hp} (e : Env0 P w K mg base A outer s H) (C : Addr) (us : List Value) (kw : List (Str × Value)) :
    Env0 P w K mg base (A.under (.builtin "type.__call__" ⟨.ref C :: us, kw⟩)) outer s H := ⟨by first | exact e.frames | (simpa [Around.under, Code.envs, Code.isFrame, pushEnvs] using e.frames), e.mod, e.bs, e.bsz, e.funs, e.frf, e.hok, e.bare⟩
theorem Env0.in1 {P : Program} {w : World} {K : PySem.W.Frag} {mg : Str → Option Value} {base : Heap} {A : Around} {outer : List Env} {s : Shared} {H : Hp} (e : Env0 P w K mg base A outer s H) :
    Env0 P w K mg base A.in1 outer s H := ⟨e.frames, e.mod, e.bs, e.bsz, e.funs, e.frf, e.hok, e.bare⟩
section
variable {X : Cx} {pins : List (Addr × Obj)} {σ : St} {H : Hp} {s s' : Shared}
theorem Inv.env0 (I : Inv X pins σ H s) : Env0 X.prog X.w X.K X.mg X.base X.A X.stack s H :=
  ⟨I.ok.frames, I.ok.mod, I.bs, Nat.le_trans I.ok.bsz I.sz, I.stack, I.stkFree, I.hok, I.bare⟩
theorem Inv.after {Q : VK} {u : Value} (I : Inv X pins σ H s) (h : CE X.stack X.prog X.w H s Q u s') : EP X pins σ Q u s' := by
  obtain ⟨v, H', os, bare, un, hok, r, q⟩ := h
  obtain ⟨hh, g, d, t, os'⟩ := s'
  obtain rfl : os' = s.os := os
  exact ⟨v, H', I.call (h' := hh) (g' := g) (d' := d) (t' := t) (ch := []) un hok bare (fun b z => absurd z (by simp)), r, q⟩
end
def tCall (sp : Sp) (dvs : List V) (E : XK) (t : TA) : TE := fun σ H Q => t σ H fun vs H1 => sp (vs ++ dvs) H1 Q E
def tMeth (C : Addr) (m : Str) (sp : Sp) (dvs : List V) (E : XK) (ta : TE) (t : TA) : TE := fun σ H Q => ta σ H fun x H1 => ∃ a dx fs, x = .ref a ∧ H1 a = some (.ins C dx fs) ∧ fs.lookup m = none ∧
  t σ H1 fun vs H2 => sp (x :: (vs ++ dvs)) H2 Q E
def tMake (C : Addr) (sp : Sp) (dvs : List V) (E : XK) (t : TA) : TE := fun σ H Q => t σ H fun vs H1 => ∀ x dx, H1 x = none → H1 dx = none → dx ≠ x →
  sp (.ref x :: (vs ++ dvs)) (upd (upd H1 dx (.own x)) x (.ins C dx [])) (fun v H2 => v = .non ∧ Q (.ref x) H2) E
def Binds (K : PySem.W.Frag) (fd : FuncData) (ps : List Str) (ds : List Value) : Prop :=
  ∀ (s : Shared) (us : List Value), K.In s.heap → (us ++ ds).length = ps.length → BindsTo s fd ⟨us, []⟩ (ps.zip (us ++ ds))
theorem Binds.all {K : PySem.W.Frag} {fd : FuncData} {ps : List Str} (h : ∀ us : List Value, us.length = ps.length → bindArgs fd ⟨us, []⟩ = pure (ps.zip us)) : Binds K fd ps [] := fun s us _ hl => by
  rw [List.append_nil] at hl ⊢
  exact .of_eq (h us hl)
def Passes (CX : CXT) (X : Cx) (E : XK) : Prop := ∀ (pins : List (Addr × Obj)) (σ : St) (H : Hp) (s : Shared) (e : Value) (s' : Shared), Inv X pins σ H s → CX X.stack H s E e s' → X.xe e s'
section
variable {X : Cx} {CX : CXT} {k : Nat} {f C : Addr} {fd : FuncData} {ps : List Str} {sp : Sp} {dvs : List V} {ds : List Value} {E : XK} {x m : Str} {p pos apos : Pos} {e o : Expr} {es : List Expr} {ta : TE} {t : TA}
theorem run_fn {pins : List (Addr × Obj)} {σ : St} {H : Hp} {s : Shared} {Q : VK} {us : List Value} {vs : List V} (F : FnOk X.prog X.w X.K X.mg X.base CX k f fd ps sp) (hr : Room k X.A) (hb : Binds X.K fd ps ds) (hd : Vals dvs ds) (hx : Passes CX X E)
    (I : Inv X pins σ H s) (r : Vals vs us) (h : sp (vs ++ dvs) H Q E) : wpAny (model X.prog X.w) X.A (call (.ref f) us) (EP X pins σ Q) X.xe s := by
  have r2 : Vals (vs ++ dvs) (us ++ ds) := r.append hd
  have hl : (us ++ ds).length = ps.length := by rw [← r2.length]; exact F.len _ _ _ _ h
  refine wpAny_call (codeAny_mono (F.run X.A X.stack s H ⟨us, []⟩ (us ++ ds) (vs ++ dvs) Q E hr I.env0 (hb s us I.kIn hl) r2 h) fun r s' hq => ?_)
  cases r with
  | error e => exact hx pins σ H s e s' I hq
  | ok fl =>
    cases fl with
    | ret u => exact I.after hq
    | next => exact False.elim hq
    | brk => exact False.elim hq
    | cont => exact False.elim hq
theorem pe_call (F : FnOk X.prog X.w X.K X.mg X.base CX k f fd ps sp) (hr : Room k X.A) (hg : Gl X x) (hm : X.mg x = some (.ref f)) (hk : PySem.W.keepIn X.K (.ref f) = true) (hb : Binds X.K fd ps ds) (hd : Vals dvs ds) (hx : Passes CX X E)
    (ha : PA X (e :: es) t) (hdb : (x == ("__debug__" : Str)) = false := by decide) (he : starEach (e :: es) X.env = (false, eval e X.env) :: starEach es X.env := by rfl) (hpl : (backTo pos (starEach es X.env)).any (·.1) = false := by rfl) :
    PE X (.Call (.Name x p) (e :: es) [] pos) (tCall sp dvs E t) := by
  intro pins s σ H Q I h
  refine wpAny_Call_Name_kw (ld_glob I hg hm ?_ hdb)
  refine PySem.W.callWith_K (h₀ := X.base) I.ok.mod.kin hk (thn (ha pos pins s σ H _ I h) fun us s1 ⟨vs, H1, I1, r, q⟩ => ⟨I1.kIn, ?_⟩) he hpl
  exact run_fn F hr hb hd hx I1 r q
structure Mk (K : PySem.W.Frag) (C f : Addr) : Prop where
  makes : PySem.W.makesIn K C = true
  init : PySem.W.findIn K (.ref C) "__init__" = some (some (.ref f))
  fn : PySem.W.isFn K (.ref f) = true
  kp : PySem.W.keepIn K (.ref C) = true
end
def PK (X : Cx) (kws : List Keyword) (t : TA) : Prop :=
  ∀ (pos : Pos) (pins : List (Addr × Obj)) (s : Shared) (σ : St) (H : Hp) (Q : List V → Hp → Prop), Inv X pins σ H s → t σ H Q → wpAny (model X.prog X.w) X.A (evalAll ((backToKw pos (keywordEach kws X.env)).map (·.2))) (AP X pins σ Q) X.xe s
section
variable {X : Cx} {CX : CXT} {k : Nat} {f C : Addr} {fd : FuncData} {ps ks : List Str} {sp : Sp} {E : XK} {x m : Str} {p pos apos kpos : Pos} {e o : Expr} {es : List Expr} {kws : List Keyword} {te ta : TE} {t tk : TA} {nm : Option Str}
structure KBinds (K : PySem.W.Frag) (fd : FuncData) (ps ks : List Str) (g : List Value → List Value → List Value) (gV : List V → List V → List V) : Prop where
  to : ∀ (s : Shared) (us ws : List Value), K.In s.heap → (g us ws).length = ps.length → BindsTo s fd ⟨us, ks.zip ws⟩ (ps.zip (g us ws))
  rel : ∀ {vs : List V} {us : List Value} {zs : List V} {ws : List Value}, Vals vs us → Vals zs ws → Vals (gV vs zs) (g us ws)
def tCallK (sp : Sp) (gV : List V → List V → List V) (E : XK) (t tk : TA) : TE := fun σ H Q => t σ H fun vs H1 => tk σ H1 fun zs H2 => sp (gV vs zs) H2 Q E
variable {g : List Value → List Value → List Value} {gV : List V → List V → List V}
end
structure FnScope (N P : List Str) (sc : Scope) : Prop where
  kind : sc.kind = .function
  co : sc.isCoroutine = false
  gen : sc.isGenerator = false
  nd : N.Nodup
  pre : N.take P.length = P
  par : ∀ x ∈ P, sc.names.lookup x = some .local ∨ sc.names.lookup x = some .cell
  nofree : ∀ y ∈ sc.names, y.2 ≠ .free
theorem bindL_out {kindOf : Str → Option NameKind} {x : Str} : ∀ {binds : List (Str × Value)} {m : Str → Option Value}, (∀ v, (x, v) ∉ binds) → bindL kindOf binds m x = m x
  | [], _, _ => rfl
  | (n, v) :: r, m, h => by
    unfold bindL
    rw [bindL_out fun w hw => h w (List.mem_cons_of_mem _ hw)]
    split
    · have : x ≠ n := by rintro rfl; exact h v List.mem_cons_self
      simp [this]
    · rfl
theorem bindC_out {kindOf : Str → Option NameKind} {x : Str} : ∀ {binds : List (Str × Value)} {m : Str → Option Value}, (∀ v, (x, v) ∉ binds) → bindC kindOf binds m x = m x
  | [], _, _ => rfl
  | (n, v) :: r, m, h => by
    unfold bindC
    rw [bindC_out fun w hw => h w (List.mem_cons_of_mem _ hw)]
    split
    · rfl
    · have : x ≠ n := by rintro rfl; exact h v List.mem_cons_self
      simp [this]
theorem bindL_get {kindOf : Str → Option NameKind} {x : Str} {v : Value} : ∀ {P : List Str} {vs : List Value} {i : Nat} {m : Str → Option Value}, P.Nodup → P[i]? = some x → vs[i]? = some v → kindOf x = some .local →
    bindL kindOf (P.zip vs) m x = some v
  | [], _, _, _, _, h, _, _ => by simp at h
  | _ :: _, [], _, _, _, _, h, _ => by simp at h
  | p :: P, w :: vs, 0, m, nd, h1, h2, hk => by
    simp at h1 h2; subst h1; subst h2
    show bindL kindOf ((p, w) :: P.zip vs) m p = _
    unfold bindL
    rw [bindL_out fun v hv => (List.nodup_cons.mp nd).1 (List.of_mem_zip hv).1, if_pos hk]
    simp
  | p :: P, w :: vs, i + 1, m, nd, h1, h2, hk => by
    show bindL kindOf ((p, w) :: P.zip vs) m x = _
    unfold bindL
    exact bindL_get (i := i) (List.nodup_cons.mp nd).2 (by simpa using h1) (by simpa using h2) hk
theorem bindC_get {kindOf : Str → Option NameKind} {x : Str} {v : Value} : ∀ {P : List Str} {vs : List Value} {i : Nat} {m : Str → Option Value}, P.Nodup → P[i]? = some x → vs[i]? = some v → kindOf x ≠ some .local →
    bindC kindOf (P.zip vs) m x = some v
  | [], _, _, _, _, h, _, _ => by simp at h
  | _ :: _, [], _, _, _, _, h, _ => by simp at h
  | p :: P, w :: vs, 0, m, nd, h1, h2, hk => by
    simp at h1 h2; subst h1; subst h2
    show bindC kindOf ((p, w) :: P.zip vs) m p = _
    unfold bindC
    rw [bindC_out fun v hv => (List.nodup_cons.mp nd).1 (List.of_mem_zip hv).1, if_neg hk]
    simp
  | p :: P, w :: vs, i + 1, m, nd, h1, h2, hk => by
    show bindC kindOf ((p, w) :: P.zip vs) m x = _
    unfold bindC
    exact bindC_get (i := i) (List.nodup_cons.mp nd).2 (by simpa using h1) (by simpa using h2) hk
def start (N : List Str) (vs : List V) : St := vs.map some ++ List.replicate (N.length - vs.length) none
def cxOf (CX : CXT) (P : Program) (w : World) (K : PySem.W.Frag) (mg : Str → Option Value) (base : Heap) (N : List Str) (qual : Str) (scope : Scope) (f : Addr) (cd : Value) (A : Around) (outer : List Env) (s : Shared) (H : Hp) (E : XK) : Cx where
  prog := P
  w := w
  K := K
  mg := mg
  base := base
  A := A.deeper (envOfC qual scope s.heap.objs.size f cd)
  N := N
  s₀ := s
  H₀ := H
  env := envOfC qual scope s.heap.objs.size f cd
  outer := outer
  stack := envOfC qual scope s.heap.objs.size f cd :: outer
  ex := []
  calm := true
  fn := fun _ => true
  pn := []
  xe := fun e s' => wpAny (model P w) (A.deeper (envOfC qual scope s.heap.objs.size f cd)) (leaving (envOfC qual scope s.heap.objs.size f cd) e) (fun _ s'' => CX outer H s E e s'') (fun e' s'' => CX outer H s E e' s'') s'
theorem cell_has {sc : Scope} {n : Nat} {x : Str} (h : sc.names.lookup x = some .cell) : ∃ c, (cellsFrom n sc.names []).lookup x = some c := by
  have q := PySem.W.cellsFrom_some sc.names n [] (.inl h)
  exact Option.isSome_iff_exists.mp q
theorem inv_start {CX : CXT} {P : Program} {w : World} {K : PySem.W.Frag} {mg : Str → Option Value} {base : Heap} {N ps : List Str} {qual : Str} {scope : Scope} {f : Addr} {cd : Value} {A : Around} {outer : List Env} {s s1 : Shared} {H : Hp} {E : XK} {us : List Value} {vs : List V}
    (S : FnScope N ps scope) (hd : A.handled = none) (e0 : Env0 P w K mg base A outer s H) (hl : vs.length = ps.length) (r : Vals vs us)
    (x : InCallC s s.heap.objs.size (bindL (envOfC qual scope s.heap.objs.size f cd).kindOf (ps.zip us) fun _ => none) (cellsFrom (s.heap.objs.size + 1) scope.names []) (bindC (envOfC qual scope s.heap.objs.size f cd).kindOf (ps.zip us) fun _ => none) s1) :
    Inv (cxOf CX P w K mg base N qual scope f cd A outer s H E) [] (start N vs) H s1 := by
  have hpl : ps.length ≤ N.length := by have := congrArg List.length S.pre; rw [List.length_take] at this; omega
  obtain ⟨h1, tk, rfl, hk⟩ := x.done
  have noA : ∀ b : Addr, b ∉ (cxOf CX P w K mg base N qual scope f cd A outer s H E).ex := fun b z => absurd (show b ∈ ([] : List Addr) from z) (by simp)
  refine ⟨⟨e0.mod, S.kind, rfl, rfl, Nat.le_refl _, fun y z c h1 h2 => ?_, fun y hy => ?_, fun y c _ h => ?_, fun _ => hd, Around.frames_deeper e0.frames, .inr ⟨rfl, rfl⟩, fun b z => absurd z (noA b), e0.bs, e0.bsz, fun b _ _ => noA b, fun b z => absurd z (noA b), e0.funs, e0.frf⟩,
    rfl, e0.bare, Un.kept hk, ⟨_, x.toInCall.ns, fun i y v h1 h2 h3 => ?_⟩, fun y c h => ⟨_, x.cell y c h⟩, e0.hok.fresh (Nat.le_refl _), fun y c h => ?_, fun p hp => absurd (show p ∈ ([] : List (Addr × Obj)) from hp) (by simp), e0.hok.kept hk, ?_⟩
  · exact name_of_addr x.apart (PySem.mem_of_lookup h1) (PySem.mem_of_lookup h2)
  · have hy : scope.names.lookup y = some .cell ∨ scope.names.lookup y = some .free := hy
    rcases hy with hy | hy
    · exact cell_has hy
    · exact absurd rfl (S.nofree _ (PySem.mem_of_lookup hy))
  · exact Nat.le_of_lt (x.above y c (PySem.mem_of_lookup h))
  · have hi : i < vs.length := by
      unfold start at h2
      by_cases hi : i < vs.length
      · exact hi
      · rw [List.getElem?_append_right (by simpa using hi)] at h2
        rw [List.getElem?_replicate] at h2
        split at h2 <;> cases h2
    have ha : vs[i]? = some v := by
      unfold start at h2
      rw [List.getElem?_append_left (by simpa using hi), List.getElem?_map] at h2
      cases e : vs[i]? with
      | none => rw [e] at h2; cases h2
      | some a => rw [e] at h2; cases h2; rfl
    obtain ⟨u, hu, rv⟩ := r.get ha
    have hp : ps[i]? = some y := by
      rw [← S.pre, List.getElem?_take_of_lt (by omega)]; exact h1
    have ndP : ps.Nodup := by rw [← S.pre]; exact S.nd.sublist (List.take_sublist _ _)
    refine ⟨u, rv, ?_⟩
    rcases S.par y (List.mem_of_getElem? hp) with k | k
    · exact .inl ⟨k, bindL_get ndP hp hu k⟩
    · obtain ⟨c, e⟩ := cell_has (n := s.heap.objs.size + 1) k
      refine .inr ⟨.inl k, c, e, ?_⟩
      have q := x.cell y c e
      rw [bindC_get ndP hp hu (by show scope.names.lookup y ≠ _; rw [k]; decide)] at q
      exact q
  · exact e0.hok.fresh (Nat.le_of_lt (x.above y c (PySem.mem_of_lookup h)))
  · unfold start
    show _ = N.length
    rw [List.length_append, List.length_map, List.length_replicate]
    omega
theorem fn_of {CX : CXT} {P : Program} {w : World} {K : PySem.W.Frag} {mg : Str → Option Value} {base : Heap} {k : Nat} {f : Addr} {name qual : Str} {params : Arguments} {body : List Stmt} {scope : Scope} {dV kV doc pm cdv ct oc : Value} {an od : Option Addr}
    {osl : Array (Option Value)} {N ps : List Str} {sp : Sp} (lk : K.lookup f = some ⟨oc, od, .func (PySem.W.fnOf name qual params body scope dV kV doc pm an cdv ct), osl⟩) (hcd : PySem.W.codeIn K cdv qual = true) (S : FnScope N ps scope)
    (len : ∀ vs H Q E, sp vs H Q E → vs.length = ps.length)
    (hbody : ∀ (A : Around) (outer : List Env) (s : Shared) (H : Hp) (vs : List V) (Q : VK) (E : XK), Room k (A.deeper (envOfC qual scope s.heap.objs.size f cdv)) → sp vs H Q E →
      ∃ t, PSs (cxOf CX P w K mg base N qual scope f cdv A outer s H E) body t ∧ t { nx := fun _ H' => Q .non H', rt := Q } (start N vs) H) :
    FnOk P w K mg base CX (k + 1) f (PySem.W.fnOf name qual params body scope dV kV doc pm an cdv ct) ps sp := by
  refine ⟨len, fun A outer s H args us vs Q E hr e0 hb r hsp => ?_⟩
  have hl := len _ _ _ _ hsp
  have KX : K.In s.heap := e0.mod.kin.keeps fun b o e => (e0.bs b o e).1
  have lim : s.heap.NoLimit := e0.mod.nolimit.keeps fun b o e => (e0.bs b o e).1
  have hkind : ∀ y ∈ ps.zip us, scope.names.lookup y.1 = some .local ∨ (scope.names.lookup y.1 = some .cell ∧ ((cellsFrom (s.heap.objs.size + 1) scope.names []).lookup y.1).isSome = true) := fun ⟨n, v⟩ hy => by
    rcases S.par n (List.of_mem_zip hy).1 with q | q
    · exact .inl q
    · exact .inr ⟨q, PySem.W.cellsFrom_some _ _ _ (.inl q)⟩
  refine codeAny_call_function hr.depth (KX _ _ lk) rfl S.co S.gen rfl (PySem.W.codeRec_of KX hcd) (hb _ _ _ _ ?_)
  refine wpAny_newFunctionEnv_cells S.kind hkind fun env he s1 x => ?_
  subst he
  refine ⟨lim.keeps x.toInCall.keep, codeAny_func ?_⟩
  obtain ⟨t, ht, hq⟩ := hbody A outer s H vs Q E (hr.deeper _) hsp
  have I : Inv (cxOf CX P w K mg base N qual scope f cdv A outer s H E) [] (start N vs) H s1 := inv_start S hr.hd e0 hl r x
  refine wpAny_mono (ht [] s1 (start N vs) H _ I hq) (fun fl s' hs => ?_) fun e s' hs => hs
  have fin : ∀ {σ' : St} {H' : Hp} {v : V} {u : Value}, Inv (cxOf CX P w K mg base N qual scope f cdv A outer s H E) [] σ' H' s' → RelV v u → Q v H' → CE outer P w H s Q u s' :=
    fun {σ' H' v u} J rv q => ⟨v, H', J.os, J.bare, J.base, J.hok, rv, q⟩
  cases fl with
  | ret u =>
    obtain ⟨v, σ', H', J, rv, q⟩ := hs
    exact fin J rv q
  | next =>
    obtain ⟨σ', H', J, q⟩ := hs
    exact fin (v := V.non) (u := Value.none) J rfl q
  | brk =>
    obtain ⟨_, _, _, q⟩ := hs
    exact False.elim q
  | cont =>
    obtain ⟨_, _, _, q⟩ := hs
    exact False.elim q
end L2
namespace L2
open PySem PySem.Spec PyProof.Rows
section
variable {X : Cx} {x : Str} {p pos : Pos} {e : Expr} {es : List Expr} {t : TA} {id T : String} {r : List V → Hp → VK → Prop}
def tCB (r : List V → Hp → VK → Prop) (t : TA) : TE := fun σ H Q => t σ H fun vs H1 => r vs H1 Q
theorem pe_callB (hc : CallR X (.builtin id) r) (hg : Gl X x) (hm : X.mg x = none) (hv : bootBuiltins x = some (.builtin id)) (ha : PA X (e :: es) t) (hn : x ≠ "__name__" := by decide) (hdb : (x == ("__debug__" : Str)) = false := by decide)
    (he : starEach (e :: es) X.env = (false, eval e X.env) :: starEach es X.env := by rfl) (hpl : (backTo pos (starEach es X.env)).any (·.1) = false := by rfl) : PE X (.Call (.Name x p) (e :: es) [] pos) (tCB r t) := by
  intro pins s σ H Q I h
  refine wpAny_Call_Name_kw (ld_blt I hg hm hv ?_ hn hdb)
  exact PyProof.Rows.callWith_builtin1 (thn (ha pos pins s σ H _ I h) fun us s1 ⟨vs, H1, I1, r1, q1⟩ => hc pins s1 σ H1 vs us Q I1 r1 q1) he hpl
theorem pe_callTy (hc : CallR X (.type T) r) (hg : Gl X x) (hm : X.mg x = none) (hv : bootBuiltins x = some (.type T)) (ha : PA X (e :: es) t) (hn : x ≠ "__name__" := by decide) (hdb : (x == ("__debug__" : Str)) = false := by decide)
    (he : starEach (e :: es) X.env = (false, eval e X.env) :: starEach es X.env := by rfl) (hpl : (backTo pos (starEach es X.env)).any (·.1) = false := by rfl) : PE X (.Call (.Name x p) (e :: es) [] pos) (tCB r t) := by
  intro pins s σ H Q I h
  refine wpAny_Call_Name_kw (ld_blt I hg hm hv ?_ hn hdb)
  exact PyProof.Rows.callWith_type1 (thn (ha pos pins s σ H _ I h) fun us s1 ⟨vs, H1, I1, r1, q1⟩ => hc pins s1 σ H1 vs us Q I1 r1 q1) he hpl
end
end L2
namespace HT
open PySem PyProof.Rows
def lexLt : List Int → List Int → Bool
  | [], [] => false
  | [], _ :: _ => true
  | _ :: _, [] => false
  | x :: xs, y :: ys => if x = y then lexLt xs ys else decide (x < y)
theorem eqAt_int (A : Around) (s : Shared) (a : Int) (t : Tok) (c : Int) (u : Tok) : ∃ e, SeqAt.EqAt A s (.int a t) (.int c u) e ∧ (e = true ↔ a = c) :=
  ⟨(a == c), SeqAt.EqAt.int_int a t c u, by simp⟩
section
open PySem.SeqAt
open PySem.AutoSeq1 (wpAny_loadPart')
open PySem.MeetsSeq PySem.MeetsSeq2 PySem.MeetsSeq3
end
section
variable {prog : Program} {w : World} {A : Around} {E : Value → Shared → Prop} {s : Shared}
def sIx (n d : Nat) : Option Int → Nat
  | none => d
  | some v => if v < 0 then (v + (n : Int)).toNat else min v.toNat n
theorem sIx_none (n d : Nat) : sIx n d none = d := rfl
theorem sIx_nat (n d k : Nat) : sIx n d (some (k : Int)) = min k n := by
  show (if (k : Int) < 0 then ((k : Int) + (n : Int)).toNat else min (k : Int).toNat n) = min k n
  rw [if_neg (by omega), Int.toNat_natCast]
end
end HT
namespace L2
open PySem PySem.Spec PyProof.Rows
abbrev TO := St → Hp → (Option Int → Hp → Prop) → Prop
def PO (X : Cx) (e : Option Expr) (t : TO) : Prop :=
  ∀ (pins : List (Addr × Obj)) (s : Shared) (σ : St) (H : Hp) (Q : Option Int → Hp → Prop), Inv X pins σ H s → t σ H Q →
    wpAny (model X.prog X.w) X.A (evalPart e X.env) (fun u s' => ∃ o H', Inv X pins σ H' s' ∧ IsPart u o ∧ Q o H') X.xe s
def tNoPart : TO := fun _ H Q => Q none H
def tPart (t : TE) : TO := fun σ H Q => t σ H fun x H1 => ∃ i, x = .int i ∧ Q (some i) H1
section
variable {X : Cx} {e : Expr} {te : TE} {lo hi : Option Expr} {tl th : TO} {pos p2 : Pos}
theorem po_none : PO X none tNoPart := by
  intro pins s σ H Q I h
  rw [evalPart_none]
  exact wpAny_pure ⟨none, H, I, .none, h⟩
theorem po_some (h : PE X e te) : PO X (some e) (tPart te) := by
  intro pins s σ H Q I hw
  rw [evalPart_some]
  refine thn (h pins s σ H _ I hw) fun u s1 ⟨x, H1, I1, r1, q1⟩ => ?_
  obtain ⟨i, rfl, q⟩ := q1
  obtain ⟨t, rfl⟩ := r1
  exact ⟨some i, H1, I1, .int i t, q⟩
def SlR (X : Cx) (r : V → Option Int → Option Int → Hp → VK → Prop) : Prop :=
  ∀ (pins : List (Addr × Obj)) (s : Shared) (σ : St) (H : Hp) (x : V) (v vl vu : Value) (lo hi : Option Int) (sl : Addr) (Q : VK), Inv X pins σ H s → RelV x v → s.heap.IsSliceOf sl vl vu .none → IsPart vl lo → IsPart vu hi → r x lo hi H Q →
    ∃ T id, typeLookup (.type T) "__getitem__" = pure (some (.builtin id)) ∧ s.TypeIs v T ∧ wpAny (model X.prog X.w) X.A (getItem v (.ref sl)) (EP X pins σ Q) X.xe s
theorem SlR.or {r r' : V → Option Int → Option Int → Hp → VK → Prop} (h : SlR X r) (h' : SlR X r') : SlR X (fun x lo hi H Q => r x lo hi H Q ∨ r' x lo hi H Q) := by
  intro pins s σ H x v vl vu lo hi sl Q I rx hs pl pu q
  rcases q with q | q
  · exact h pins s σ H x v vl vu lo hi sl Q I rx hs pl pu q
  · exact h' pins s σ H x v vl vu lo hi sl Q I rx hs pl pu q
def tSl (r : V → Option Int → Option Int → Hp → VK → Prop) (te : TE) (tl th : TO) : TE := fun σ H Q => te σ H fun x H1 => tl σ H1 fun l H2 => th σ H2 fun u H3 => r x l u H3 Q
theorem pe_slice {r : V → Option Int → Option Int → Hp → VK → Prop} (hr : SlR X r) (he : PE X e te) (hl : PO X lo tl) (hu : PO X hi th) : PE X (.Subscript e (.Slice lo hi none p2) pos) (tSl r te tl th) := by
  intro pins s σ H Q I h
  refine Subscript_ (thn (he pins s σ H _ I h) fun v s1 ⟨x, H1, I1, r1, q1⟩ => ?_)
  refine wpAny_Slice (thn (hl pins s1 σ H1 _ I1 q1) fun vl s2 ⟨l, H2, I2, pl, q2⟩ => thn (hu pins s2 σ H2 _ I2 q2) fun vu s3 ⟨u, H3, I3, pu, q3⟩ => ?_)
  rw [evalPart_none]
  refine wpAny_pure ?_
  have I4 : Inv X pins σ H3 { s3 with heap := s3.heap.push { cls := .type "slice", data := .fields #[vl, vu, .none] } } := I3.kept (t' := s3.toks) fun b ob q => Heap.get?_push_of_some _ q
  obtain ⟨T, id, hT, ht, hg⟩ := hr pins { s3 with heap := s3.heap.push { cls := .type "slice", data := .fields #[vl, vu, .none] } } σ H3 x v vl vu l u s3.heap.objs.size Q I4 r1 (Heap.IsSliceOf.new ..) pl pu q3
  show wpAny (model X.prog X.w) X.A (subscriptTail e (.Slice lo hi none p2) v (.ref s3.heap.objs.size)) (EP X pins σ Q) X.xe { s3 with heap := s3.heap.push { cls := .type "slice", data := .fields #[vl, vu, .none] } }
  exact tail_any (ops := [.ref s3.heap.objs.size, v]) ht hT hg (by with_unfolding_all rfl)
def cutV (xs : List V) (lo hi : Option Int) : List V := (xs.drop (HT.sIx xs.length 0 lo)).take (HT.sIx xs.length xs.length hi - HT.sIx xs.length 0 lo)
theorem cutV_length (xs : List V) (lo hi : Option Int) : (cutV xs lo hi).length ≤ xs.length := by
  unfold cutV
  rw [List.length_take, List.length_drop]
  omega
def rSlT (K : PySem.W.Frag) : V → Option Int → Option Int → Hp → VK → Prop := fun x lo hi H Q => ∃ a xs, x = .ref a ∧ SqT K H a xs ∧
  ¬ (HT.sIx xs.length 0 lo = 0 ∧ HT.sIx xs.length xs.length hi = xs.length) ∧ ∀ p, H p = none → Q (.ref p) (upd H p (.tup (cutV xs lo hi)))
def rLtT (K : PySem.W.Frag) : R2 := fun x y H Q => ∃ a b ns ms, x = .ref a ∧ y = .ref b ∧ SqT K H a (ns.map V.int) ∧ SqT K H b (ms.map V.int) ∧ Q (.bl (HT.lexLt ns ms)) H
def rCatT (K : PySem.W.Frag) : R2 := fun x y H Q => ∃ a b xs ys, x = .ref a ∧ y = .ref b ∧ SqT K H a xs ∧ SqT K H b ys ∧ xs ≠ [] ∧ xs.length + ys.length ≤ sizeLine ∧
  (ys = [] → Q (.ref a) H) ∧ (ys ≠ [] → ∀ p, H p = none → Q (.ref p) (upd H p (.tup (xs ++ ys))))
end
end L2
namespace L2
open PySem PySem.Spec PyProof.Rows
def ixN (n : Nat) (i : Int) : Option Nat := if 0 ≤ i then (if i < n then some i.toNat else none) else if -(n : Int) ≤ i then some (i + n).toNat else none
def atI {α : Type} (xs : List α) (i : Int) : Option α := (ixN xs.length i).bind fun j => xs[j]?
theorem ixN_seq {n : Nat} {i : Int} {j : Nat} (h : ixN n i = some j) : seqIndex? i n = some j ∧ j < n ∧ -(n : Int) ≤ i ∧ i < n := by
  unfold ixN at h
  by_cases h0 : 0 ≤ i
  · rw [if_pos h0] at h
    by_cases h1 : i < n
    · rw [if_pos h1] at h
      have e : i.toNat = j := Option.some.inj h
      exact ⟨by rw [seqIndex_of h0 h1, e], by omega, by omega, h1⟩
    · rw [if_neg h1] at h; cases h
  · rw [if_neg h0] at h
    by_cases h1 : -(n : Int) ≤ i
    · rw [if_pos h1] at h
      have e : (i + n).toNat = j := Option.some.inj h
      exact ⟨by rw [seqIndex_neg (by omega) h1, e], by omega, h1, by omega⟩
    · rw [if_neg h1] at h; cases h
theorem atI_get {α : Type} {xs : List α} {i : Int} {v : α} (h : atI xs i = some v) : ∃ j, seqIndex? i xs.length = some j ∧ xs[j]? = some v ∧ j < xs.length ∧ -(xs.length : Int) ≤ i ∧ i < xs.length := by
  unfold atI at h
  cases e : ixN xs.length i with
  | none => rw [e] at h; cases h
  | some j =>
    rw [e] at h
    obtain ⟨h1, h2, h3, h4⟩ := ixN_seq e
    exact ⟨j, h1, h, h2, h3, h4⟩
theorem atI_nat {α : Type} {xs : List α} {j : Nat} {v : α} (h : xs[j]? = some v) : atI xs (j : Int) = some v := by
  have hj : j < xs.length := (List.getElem?_eq_some_iff.mp h).1
  have e : ixN xs.length (j : Int) = some j := by
    unfold ixN
    rw [if_pos (by omega), if_pos (by omega)]; simp
  unfold atI; rw [e]; exact h
theorem atI_last {α : Type} (xs : List α) (v : α) : atI (xs ++ [v]) (-1) = some v := by
  have hl : (xs ++ [v]).length = xs.length + 1 := by simp
  have e : ixN (xs ++ [v]).length (-1) = some xs.length := by
    unfold ixN
    rw [hl, if_neg (by decide), if_pos (by omega)]
    congr 1
    omega
  unfold atI
  rw [e]
  show (xs ++ [v])[xs.length]? = some v
  simp
def PlainIx (b : Expr) : Prop := ∀ o i, subscripted b false o i = operate [o, i] (getItem o i)
def IxR (X : Cx) (r : R2) : Prop :=
  ∀ (value slice : Expr) (pins : List (Addr × Obj)) (s : Shared) (σ : St) (H : Hp) (x y : V) (v u : Value) (Q : VK), Inv X pins σ H s → RelV x v → RelV y u → r x y H Q →
    subscripted slice false v u = operate [v, u] (getItem v u) → wpAny (model X.prog X.w) X.A (subscriptTail value slice v u) (EP X pins σ Q) X.xe s
def MtR (X : Cx) (id : String) (r : V → List V → Hp → VK → Prop) : Prop :=
  ∀ (pins : List (Addr × Obj)) (s : Shared) (σ : St) (H : Hp) (x : V) (xs : List V) (v : Value) (us : List Value) (Q : VK), Inv X pins σ H s → RelV x v → Vals xs us → r x xs H Q →
    wpAny (model X.prog X.w) X.A (call (.builtin id) (v :: us)) (EP X pins σ Q) X.xe s
section
variable {X : Cx} {a b : Expr} {ta tb : TE} {pos : Pos}
theorem IxR.or {r r' : R2} (h : IxR X r) (h' : IxR X r') : IxR X (fun x y H Q => r x y H Q ∨ r' x y H Q) := by
  intro value slice pins s σ H x y v u Q I rx ry q hs
  rcases q with q | q
  · exact h value slice pins s σ H x y v u Q I rx ry q hs
  · exact h' value slice pins s σ H x y v u Q I rx ry q hs
theorem MtR.or {id : String} {r r' : V → List V → Hp → VK → Prop} (h : MtR X id r) (h' : MtR X id r') : MtR X id (fun x xs H Q => r x xs H Q ∨ r' x xs H Q) := by
  intro pins s σ H x xs v us Q I rx rs q
  rcases q with q | q
  · exact h pins s σ H x xs v us Q I rx rs q
  · exact h' pins s σ H x xs v us Q I rx rs q
theorem pe_ix {r : R2} (hr : IxR X r) (ha : PE X a ta) (hb : PE X b tb) (hs : PlainIx b) : PE X (.Subscript a b pos) (tOp r ta tb) := by
  intro pins s σ H Q I h
  exact Subscript_ (binT ha hb I h fun v u s2 x y H2 I2 rx ry q => hr a b pins s2 σ H2 x y v u Q I2 rx ry q (hs _ _))
def rIxL (K : PySem.W.Frag) : R2 := fun x y H Q => ∃ p xs i v, x = .ref p ∧ y = .int i ∧ SqL K H p xs ∧ atI xs i = some v ∧ Q v H
def rIxT (K : PySem.W.Frag) : R2 := fun x y H Q => ∃ p xs i v, x = .ref p ∧ y = .int i ∧ SqT K H p xs ∧ atI xs i = some v ∧ Q v H
def rIxS : R2 := fun x y H Q => ∃ z i c, x = .str z ∧ y = .int i ∧ z.length ≤ sizeLine ∧ atI z.cps.toList i = some c ∧ Q (.str ⟨#[c]⟩) H
theorem ix_list : IxR X (rIxL X.K) := by
  intro value slice pins s σ H x y v u Q I rx ry h hs
  obtain ⟨p, xs, i, z, rfl, rfl, hq, he, q⟩ := h
  cases rx
  obtain ⟨t, rfl⟩ := ry
  obtain ⟨its, r, pl, hz⟩ := I.list hq
  obtain ⟨j, h1, h2, h3, h4, h5⟩ := atI_get he
  obtain ⟨w, ew, rw'⟩ := r.get h2
  have hl := r.length
  have hn := line63
  have fin : EP X pins σ Q w s := ⟨z, H, I, rw', q⟩
  by_cases h0 : 0 ≤ i
  · have hj : i.toNat = j := by
      rw [seqIndex_of h0 h5] at h1
      exact Option.some.inj h1
    exact item_listR pl.isList h0 (by omega) (by rw [hj]; simpa using ew) fin hs
  · have hj : (i + (its.toArray.size : Int)).toNat = j := by
      rw [seqIndex_neg (by omega) h4] at h1
      rw [List.size_toArray, ← hl]
      exact Option.some.inj h1
    exact subscriptTail_builtinR (x := w) pl.isList.typeIs slot_list_getitem.lookup
      (wpAny_getItem_list_neg (Q := fun r s' => r = w ∧ EP X pins σ Q r s') pl.isList (by omega) (by rw [List.size_toArray] <;> omega) (by omega) (by rw [hj]; simpa using ew) ⟨rfl, fin⟩) hs
theorem ix_tup : IxR X (rIxT X.K) := by
  intro value slice pins s σ H x y v u Q I rx ry h hs
  obtain ⟨p, xs, i, z, rfl, rfl, hq, he, q⟩ := h
  cases rx
  obtain ⟨t, rfl⟩ := ry
  obtain ⟨its, r, pl, hz⟩ := I.tuple hq
  obtain ⟨j, h1, h2, h3, h4, h5⟩ := atI_get he
  obtain ⟨w, ew, rw'⟩ := r.get h2
  have hl := r.length
  have hn := line63
  have fin : EP X pins σ Q w s := ⟨z, H, I, rw', q⟩
  exact subscriptTail_builtinR (x := w) pl.typeIs slot_tuple_getitem.lookup
    (getItem_tuple (j := j) (Q := fun r s' => r = w ∧ EP X pins σ Q r s') pl (by omega) (by omega) (by rw [List.size_toArray, ← hl]; exact h1) (by simpa using ew) ⟨rfl, fin⟩) hs
theorem ix_str : IxR X rIxS := by
  intro value slice pins s σ H x y v u Q I rx ry h hs
  obtain ⟨z, i, c, rfl, rfl, hz, he, q⟩ := h
  obtain ⟨t, rfl⟩ := rx
  obtain ⟨t', rfl⟩ := ry
  obtain ⟨j, h1, h2, h3, h4, h5⟩ := atI_get he
  have hl : z.cps.toList.length = z.length := by simp [Str.length]
  rw [hl] at h1 h4 h5
  have hn := line63
  exact tail_any (typeIs_str s z t) slot_str_getitem.lookup (getItem_str (c := c) (by
    have e1 : decide (i < -(2 ^ 63 : Int)) = false := decide_eq_false (by omega)
    have e2 : decide (i ≥ 2 ^ 63) = false := decide_eq_false (by omega)
    rw [e1, e2, Bool.or_false]) (by rw [h1]; simpa using h2) ⟨.str ⟨#[c]⟩, H, I.tok _, ⟨_, rfl⟩, q⟩) hs
def rIx (K : PySem.W.Frag) : R2 := fun x y H Q => rIxL K x y H Q ∨ rIxT K x y H Q ∨ rIxS x y H Q
theorem mapSeq_set (its : List Value) (n j : Nat) (u : Value) : Obj.mapSeq (·.setIfInBounds j u) { cls := .type "list", data := .seq its.toArray n } = { cls := .type "list", data := .seq (its.set j u).toArray n } := by
  simp [Obj.mapSeq]
theorem Inv.lst {pins : List (Addr × Obj)} {σ : St} {H : Hp} {s : Shared} {p : Addr} {xs : List V} (I : Inv X pins σ H s) (h : H p = some (.lst xs)) :
    ∃ (its : List Value) (n : Nat), Vals xs its ∧ s.heap.get? p = some { cls := .type "list", data := .seq its.toArray n } ∧ xs.length ≤ sizeLine := by
  obtain ⟨z, its, n, r, e⟩ := I.hok p _ h
  exact ⟨its, n, r, e, z⟩
theorem Inv.lstUpd {pins : List (Addr × Obj)} {σ : St} {H : Hp} {s : Shared} {p : Addr} {xs ys : List V} {its its' : List Value} {n n' : Nat} {f : Obj → Obj} (I : Inv X pins σ H s) (h : H p = some (.lst xs))
    (ho : s.heap.get? p = some { cls := .type "list", data := .seq its.toArray n }) (hf : f { cls := .type "list", data := .seq its.toArray n } = { cls := .type "list", data := .seq its'.toArray n' }) (r : Vals ys its') (hz : ys.length ≤ sizeLine) (t : Nat) :
    Inv X pins σ (upd H p (.lst ys)) { s with heap := s.heap.update p f, toks := t } := by
  have e : (s.heap.update p f).get? p = some { cls := .type "list", data := .seq its'.toArray n' } := by
    rw [Heap.get?_update_self f ho (by rw [hf] <;> rfl), hf]
  refine I.write (x := p) (e := p) (by rw [h]; trivial) (.inl rfl) (fun b u hb q => (Heap.get?_update_other _ _ (Ne.symm hb)).trans q) ⟨_, e⟩ ?_
  exact ⟨hz, its', n', r, e⟩
def rSetL : V → V → V → Hp → (Hp → Prop) → Prop := fun o i v H Q => ∃ p xs k j, o = .ref p ∧ i = .int k ∧ H p = some (.lst xs) ∧ ixN xs.length k = some j ∧ Q (upd H p (.lst (xs.set j v)))
theorem set_list : PSet X rSetL := by
  intro pins s σ H o i v ov iv u Q I ro ri rv h
  obtain ⟨p, xs, k, j, rfl, rfl, hp, hj, q⟩ := h
  cases ro
  obtain ⟨t, rfl⟩ := ri
  obtain ⟨its, n, r, ho, hz⟩ := I.lst hp
  obtain ⟨h1, h2, h3, h4⟩ := ixN_seq hj
  have hl := r.length
  have hn := line63
  have I' : Inv X pins σ (upd H p (.lst (xs.set j v))) { s with heap := s.heap.update p (Obj.mapSeq (·.setIfInBounds j u)) } :=
    I.lstUpd hp ho (mapSeq_set its n j u) (r.set rv j) (by rw [List.length_set]; exact hz) s.toks
  by_cases h0 : 0 ≤ k
  · have hk : k.toNat = j := by
      rw [seqIndex_of h0 h4] at h1
      exact Option.some.inj h1
    exact PySem.W.ki_setAt ho h0 (by omega) (by rw [List.size_toArray, ← hl]; exact h4) (by rw [hk]; exact ⟨_, I', q⟩)
  · have hk : (k + (its.toArray.size : Int)).toNat = j := by
      rw [seqIndex_neg (by omega) h3] at h1
      rw [List.size_toArray, ← hl]
      exact Option.some.inj h1
    exact PySem.W.ki_setBack ho (by omega) (by rw [List.size_toArray, ← hl]; exact h3) (by omega) (by rw [hk]; exact ⟨_, I', q⟩)
theorem slice_bounds (lo hi : Option Int) (n : Nat) : (sliceBounds lo hi none n).1 = ((HT.sIx n 0 lo : Nat) : Int) ∧ (sliceBounds lo hi none n).2.1 = ((HT.sIx n n hi : Nat) : Int) ∧ (sliceBounds lo hi none n).2.2 = 1 := by
  refine ⟨?_, ?_, rfl⟩
  · cases lo with
    | none => simp [sliceBounds, HT.sIx]
    | some i =>
      simp only [sliceBounds, HT.sIx, Option.getD_none, show (1 : Int) > 0 by decide, if_true]
      by_cases h : i < 0
      · simp only [h, if_true] <;> omega
      · simp only [h, if_false] <;> omega
  · cases hi with
    | none => simp [sliceBounds, HT.sIx]
    | some i =>
      simp only [sliceBounds, HT.sIx, Option.getD_none, show (1 : Int) > 0 by decide, if_true]
      by_cases h : i < 0
      · simp only [h, if_true] <;> omega
      · simp only [h, if_false] <;> omega
theorem slicePick_cut (its : List Value) (lo hi : Option Int) : slicePick its.toArray lo hi none = ((its.drop (HT.sIx its.length 0 lo)).take (HT.sIx its.length its.length hi - HT.sIx its.length 0 lo)).toArray := by
  obtain ⟨h1, h2, h3⟩ := slice_bounds lo hi its.toArray.size
  unfold slicePick
  rw [h1, h2, h3]
  simp only [sliceRange_one, pick_run, List.size_toArray] <;> rfl
def rSlL (K : PySem.W.Frag) : V → Option Int → Option Int → Hp → VK → Prop := fun x lo hi H Q => ∃ a xs, x = .ref a ∧ SqL K H a xs ∧ ∀ p, H p = none → Q (.ref p) (upd H p (.lst (cutV xs lo hi)))
theorem sl_list : SlR X (rSlL X.K) := by
  intro pins s σ H x v vl vu lo hi sl Q I rx hs pl pu h
  obtain ⟨a, xs, rfl, hx, q⟩ := h
  cases rx
  obtain ⟨its, r, ht, hz⟩ := I.list hx
  have hlen := r.length
  refine ⟨"list", _, slot_list_getitem.lookup, ht.isList.typeIs, ?_⟩
  refine wpAny_getItem_list_slice ht.isList hs pl pu .none (by simp) ?_ (by rw [List.size_toArray] <;> omega)
  rw [slicePick_cut, ← hlen]
  refine ⟨.ref s.heap.objs.size, _, I.laid (t' := s.toks) (o := .lst (cutV xs lo hi)) (fun b ob q => Heap.get?_push_of_some _ q) (Nat.le_refl _) ?_, rfl, q _ (I.hok.fresh (Nat.le_refl _))⟩
  exact ⟨Nat.le_trans (cutV_length xs lo hi) hz, _, 0, (r.drop (HT.sIx xs.length 0 lo)).take (HT.sIx xs.length xs.length hi - HT.sIx xs.length 0 lo), Heap.get?_push_size _ rfl⟩
def flatV : V → Bool
  | .non => true
  | .bl _ => true
  | .int _ => true
  | .str _ => true
  | _ => false
def eqV : V → V → Bool
  | .non, .non => true
  | .bl a, .bl b => a == b
  | .bl a, .int b => (if a then 1 else 0) == b
  | .int a, .bl b => a == (if b then 1 else 0)
  | .int a, .int b => a == b
  | .str a, .str b => a == b
  | _, _ => false
theorem eqAt_V {A : Around} {s : Shared} {y x : V} {u v : Value} (ry : RelV y u) (rx : RelV x v) (fy : flatV y = true) (fx : flatV x = true) : SeqAt.EqAt A s u v (eqV y x) := by
  cases y with
  | non =>
    cases ry
    cases x with
    | non => cases rx; exact SeqAt.EqAt.same _
    | bl b => cases rx; exact SeqAt.EqAt.none_bool b
    | int b => obtain ⟨t, rfl⟩ := rx; exact SeqAt.EqAt.none_int b t
    | str b => obtain ⟨t, rfl⟩ := rx; exact SeqAt.EqAt.none_str b t
    | _ => exact absurd (show false = true from fx) Bool.false_ne_true
  | bl a =>
    cases ry
    cases x with
    | non => cases rx; exact SeqAt.EqAt.bool_none a
    | bl b => cases rx; exact SeqAt.EqAt.bool_bool a b
    | int b => obtain ⟨t, rfl⟩ := rx; exact SeqAt.EqAt.bool_int a b t
    | str b => obtain ⟨t, rfl⟩ := rx; exact SeqAt.EqAt.bool_str a b t
    | _ => exact absurd (show false = true from fx) Bool.false_ne_true
  | int a =>
    obtain ⟨t', rfl⟩ := ry
    cases x with
    | non => cases rx; exact SeqAt.EqAt.int_none a t'
    | bl b => cases rx; exact SeqAt.EqAt.int_bool a t' b
    | int b => obtain ⟨t, rfl⟩ := rx; exact SeqAt.EqAt.int_int a t' b t
    | str b => obtain ⟨t, rfl⟩ := rx; exact SeqAt.EqAt.int_str a t' b t
    | _ => exact absurd (show false = true from fx) Bool.false_ne_true
  | str a =>
    obtain ⟨t', rfl⟩ := ry
    cases x with
    | non => cases rx; exact SeqAt.EqAt.str_none a t'
    | bl b => cases rx; exact SeqAt.EqAt.str_bool a t' b
    | int b => obtain ⟨t, rfl⟩ := rx; exact SeqAt.EqAt.str_int a t' b t
    | str b => obtain ⟨t, rfl⟩ := rx; exact SeqAt.EqAt.str_str a t' b t
    | _ => exact absurd (show false = true from fx) Bool.false_ne_true
  | _ => exact absurd (show false = true from fy) Bool.false_ne_true
def eqU (x : V) (u : Value) : Bool := match u with
  | .none => eqV .non x
  | .bool b => eqV (.bl b) x
  | .int i _ => eqV (.int i) x
  | .str z _ => eqV (.str z) x
  | _ => false
def inV (x : V) (xs : List V) : Bool := xs.any fun y => eqV y x
def rIn (K : PySem.W.Frag) (neg : Bool) : R2 := fun x y H Q => ∃ p xs, y = .ref p ∧ (SqL K H p xs ∨ SqT K H p xs) ∧ flatV x = true ∧ xs.all flatV = true ∧ Q (.bl (if neg then !inV x xs else inV x xs)) H
theorem op_notIn_str : OpR X (compareOp .NotIn) (fun x y H Q => ∃ i j, x = .str i ∧ y = .str j ∧ Q (.bl (!(!(Builtin.Str.occurrences j i 0 j.length 1).isEmpty))) H) := by
  intro pins s σ H x y v u Q I rx ry h
  obtain ⟨i, j, rfl, rfl, q⟩ := h
  obtain ⟨t, rfl⟩ := rx
  obtain ⟨t', rfl⟩ := ry
  exact notIn_str ⟨.bl _, H, I, rfl, q⟩
theorem call_len_seq : CallR X (.builtin "len") (fun xs H Q => ∃ p ys, xs = [.ref p] ∧ (SqL X.K H p ys ∨ SqT X.K H p ys) ∧ Q (.int ys.length) H) := by
  intro pins s σ H xs us Q I r h
  obtain ⟨p, ys, rfl, hq, q⟩ := h
  obtain ⟨u, rfl, rx⟩ := vals1 r
  cases rx
  have hn := line63
  rcases hq with hq | hq
  · obtain ⟨its, r', pl, hz⟩ := I.list hq
    have hlen := r'.length
    exact Calls.call_len_list pl.isList (by simp only [List.size_toArray] <;> omega) ⟨.int ys.length, H, I.tok _, ⟨s.toks + 1, by rw [List.size_toArray, hlen]⟩, q⟩
  · obtain ⟨its, r', pl, hz⟩ := I.tuple hq
    have hlen := r'.length
    exact len_tuple pl (by simp only [List.size_toArray] <;> omega) ⟨.int ys.length, H, I.tok _, ⟨s.toks + 1, by rw [List.size_toArray, hlen]⟩, q⟩
theorem call_len_str : CallR X (.builtin "len") (fun xs H Q => ∃ z, xs = [.str z] ∧ z.length ≤ sizeLine ∧ Q (.int z.length) H) := by
  intro pins s σ H xs us Q I r h
  obtain ⟨z, rfl, hz, q⟩ := h
  obtain ⟨u, rfl, t, rfl⟩ := vals1 r
  have hn := line63
  exact len_str (by omega) ⟨.int z.length, H, I.tok _, ⟨_, rfl⟩, q⟩
theorem CallR.or {f : Value} {r r' : List V → Hp → VK → Prop} (h : CallR X f r) (h' : CallR X f r') : CallR X f (fun xs H Q => r xs H Q ∨ r' xs H Q) := by
  intro pins s σ H xs us Q I rs q
  rcases q with q | q
  · exact h pins s σ H xs us Q I rs q
  · exact h' pins s σ H xs us Q I rs q
theorem call_tuple_of : CallR X (.type "tuple") (fun xs H Q => ∃ p ys, xs = [.ref p] ∧ ((SqL X.K H p ys ∧ ∀ l, H l = none → Q (.ref l) (upd H l (.tup ys))) ∨ (SqT X.K H p ys ∧ Q (.ref p) H))) := by
  intro pins s σ H xs us Q I r h
  obtain ⟨p, ys, rfl, h⟩ := h
  obtain ⟨u, rfl, rx⟩ := vals1 r
  cases rx
  rcases h with ⟨hq, q⟩ | ⟨hq, q⟩
  · obtain ⟨its, r', pl, hz⟩ := I.list hq
    have hlen := r'.length
    refine call_tuple_list pl.isList (fun h' kp => ?_) (by simp only [List.size_toArray] <;> omega)
    have I1 : Inv X pins σ H { s with heap := h' } := I.kept (t' := s.toks) kp
    have I2 : Inv X pins σ (upd H h'.objs.size (.tup ys)) { s with heap := h'.push { cls := .type "tuple", data := .seq its.toArray } } :=
      I1.laid (t' := s.toks) (fun b o e => Heap.get?_push_of_some _ e) (Nat.le_refl _) (show ObjOk X.prog X.w _ _ _ (.tup ys) from ⟨hz, its, r', TupD.new _ _⟩)
    exact ⟨.ref h'.objs.size, _, I2, rfl, q _ (I1.hok.fresh (Nat.le_refl _))⟩
  · obtain ⟨its, r', pl, hz⟩ := I.tuple hq
    exact call_tuple_same pl ⟨.ref p, H, I, rfl, q⟩
def tyV (K : PySem.W.Frag) (T : String) (x : V) (H : Hp) : Prop := match x with
  | .str _ => T = "str"
  | .int _ => T = "int"
  | .ref p => (T = "list" ∧ ∃ xs, SqL K H p xs) ∨ (T = "tuple" ∧ ∃ o, K.lookup p = some o ∧ o.cls = .type "tuple" ∧ o.dict = none) ∨
      (T = "dict" ∧ ((∃ kvs, H p = some (.dK kvs)) ∨ ∃ kvs, H p = some (.dT kvs))) ∨ (T = "set" ∧ ∃ S n, H p = some (.set S n))
  | _ => False
theorem tyV_is {pins : List (Addr × Obj)} {σ : St} {H : Hp} {s : Shared} {T : String} {x : V} {v : Value} (I : Inv X pins σ H s) (r : RelV x v) (ty : tyV X.K T x H) :
    s.TypeIs v T ∧ ∀ a, v = .ref a → ∃ ob, s.heap.get? a = some ob ∧ ob.dict = none := by
  cases x with
  | str z =>
    obtain ⟨t, rfl⟩ := r
    cases (show T = "str" from ty)
    exact ⟨typeIs_str s z t, fun _ e => nomatch e⟩
  | int i =>
    obtain ⟨t, rfl⟩ := r
    cases (show T = "int" from ty)
    exact ⟨typeIs_int s i t, fun _ e => nomatch e⟩
  | ref p =>
    cases r
    rcases ty with ⟨rfl, xs, hq⟩ | ⟨rfl, o, hk, hc, hd⟩ | ⟨rfl, hk⟩ | ⟨rfl, S, n, hk⟩
    · obtain ⟨its, _, pl, _⟩ := I.list hq
      refine ⟨pl.isList.typeIs, fun a e => ?_⟩
      cases e
      obtain ⟨o, n, e, c, hd, _⟩ := pl
      exact ⟨o, e, hd⟩
    · refine ⟨⟨o, I.kIn p o hk, hc⟩, fun a e => ?_⟩
      cases e
      exact ⟨o, I.kIn _ o hk, hd⟩
    · have z : ∃ o, s.heap.get? p = some o ∧ o.ExactDict := by
        rcases hk with ⟨kvs, hk⟩ | ⟨kvs, hk⟩
        · obtain ⟨_, _, _, _, o, _, _, e, ex, _⟩ := I.hok p _ hk
          exact ⟨o, e, ex⟩
        · obtain ⟨_, _, _, _, o, _, _, e, ex, _⟩ := I.hok p _ hk
          exact ⟨o, e, ex⟩
      obtain ⟨o, e, ex⟩ := z
      refine ⟨⟨o, e, ex.1⟩, fun a e2 => ?_⟩
      cases e2
      exact ⟨o, e, ex.2.1⟩
    · obtain ⟨o, _, _, _, e, ex, _⟩ := I.hok p _ hk
      refine ⟨⟨o, e, ex.1⟩, fun a e2 => ?_⟩
      cases e2
      exact ⟨o, e, ex.2.1⟩
  | _ => exact False.elim ty
def tBM0 (K : PySem.W.Frag) (T : String) (r : V → List V → Hp → VK → Prop) (to : TE) : TE := fun σ H Q => to σ H fun x H1 => tyV K T x H1 ∧ r x [] H1 Q
def tBM (K : PySem.W.Frag) (T : String) (r : V → List V → Hp → VK → Prop) (to : TE) (t : TA) : TE := fun σ H Q => to σ H fun x H1 => tyV K T x H1 ∧ t σ H1 fun xs H2 => r x xs H2 Q
variable {o e : Expr} {es : List Expr} {to : TE} {t : TA} {name : Str} {apos cpos : Pos} {T id : String} {r : V → List V → Hp → VK → Prop}
theorem pe_bm (pa : PlainAttrs T) (slot : Slot T name id) (hty : typeOf (.builtin id) = pure (.type "method_descriptor")) (hm : MtR X id r) (ho : PE X o to) (ha : PA X (e :: es) t)
    (hbase : attributeBase o name X.env (eval o X.env) = eval o X.env := by rfl)
    (hfew : ((backTo cpos (starEach (e :: es) X.env)).all (fun x => !x.1) && (backToKw cpos (keywordEach [] X.env)).all (fun x => x.1.isSome)
      && decide ((e :: es).length + ([] : List Keyword).length + (if ([] : List Keyword).isEmpty then 0 else 1) < 30)) = true := by rfl)
    (hline : (apos.endLine == cpos.line) = true := by rfl) (hs : starEach (e :: es) X.env = (false, eval e X.env) :: starEach es X.env := by rfl) (hplain : (backTo cpos (starEach es X.env)).any (·.1) = false := by rfl) :
    PE X (.Call (.Attribute o name apos) (e :: es) [] cpos) (tBM X.K T r to t) := by
  intro pins s σ H Q I h
  refine wpAny_Call_method_late hbase hfew hline rfl (thn (ho pins s σ H _ I h) fun v s1 ⟨x, H1, I1, r1, ty, q1⟩ => ?_)
  obtain ⟨h1, h2⟩ := tyV_is I1 r1 ty
  refine ⟨T, id, pa, slot, hty, h1, h2, ?_⟩
  have hA := ha cpos pins s1 σ H1 _ I1 q1
  rw [hs] at hA ⊢
  refine Calls.callWith_builtin (by show (false || (backTo cpos (starEach es X.env)).any (·.1)) = false; rw [hplain] <;> rfl) (Calls.evalArgs_plain ?_)
  exact thn hA fun us s2 ⟨vs, H2, I2, r2, q2⟩ => hm pins s2 σ H2 x vs v us Q I2 r1 r2 q2
/- xs.append(e), list.index on a module's tuple .. are MtR facts of 06m -/
end
end L2
namespace L2
open PySem PySem.Spec PyProof.Rows
def MtM (X : Cx) (id : String) (r : V → List V → Hp → VK → Prop) : Prop :=
  ∀ (pins : List (Addr × Obj)) (s : Shared) (σ : St) (H : Hp) (x : V) (xs : List V) (v : Value) (us : List Value) (Q : VK), Inv X pins σ H s → RelV x v → Vals xs us → r x xs H Q →
    wpAny (model X.prog X.w) X.A (call (.builtin id) (v :: us)) (EP X pins σ Q) X.xe s
theorem Vals.one : ∀ {x : V} {us : List Value}, Vals [x] us → ∃ u, us = [u] ∧ RelV x u
  | _, _, .cons r .nil => ⟨_, rfl, r⟩
theorem Vals.two : ∀ {x y : V} {us : List Value}, Vals [x, y] us → ∃ u v, us = [u, v] ∧ RelV x u ∧ RelV y v
  | _, _, _, .cons r (.cons q .nil) => ⟨_, _, rfl, r, q⟩
theorem Vals.zero : ∀ {us : List Value}, Vals [] us → us = []
  | _, .nil => rfl
theorem Vals.dropLast {xs : List V} {us : List Value} (h : Vals xs us) : Vals xs.dropLast us.dropLast := by
  induction h with
  | nil => exact .nil
  | cons r t ih =>
    cases t with
    | nil => exact .nil
    | cons q t' => exact .cons r ih
theorem Vals.eraseIdx : ∀ {xs : List V} {us : List Value} (i : Nat), Vals xs us → Vals (xs.eraseIdx i) (us.eraseIdx i)
  | _, _, _, .nil => .nil
  | _, _, 0, .cons _ t => t
  | _, _, i + 1, .cons r t => .cons r (Vals.eraseIdx i t)
theorem Vals.reverse {xs : List V} {us : List Value} (h : Vals xs us) : Vals xs.reverse us.reverse := by
  induction h with
  | nil => exact .nil
  | cons r t ih => rw [List.reverse_cons, List.reverse_cons]; exact Vals.append ih (.cons r .nil)
theorem Vals.rep {xs : List V} {us : List Value} (h : Vals xs us) : ∀ k : Nat, Vals (List.replicate k xs).flatten (List.replicate k us).flatten
  | 0 => .nil
  | k + 1 => by
    rw [List.replicate_succ, List.replicate_succ, List.flatten_cons, List.flatten_cons]
    exact Vals.append h (Vals.rep h k)
section
variable {X : Cx} {pins : List (Addr × Obj)} {σ : St} {H : Hp} {s : Shared} {l b : Addr} {xs ys zs : List V}
theorem Inv.lset {its its' : List Value} {n : Nat} {f : Array Value → Array Value} {t' : Nat} (I : Inv X pins σ H s) (hH : H l = some (.lst xs))
    (e : s.heap.get? l = some { cls := .type "list", data := .seq its.toArray n }) (hf : f its.toArray = its'.toArray) (hv : Vals ys its') (hz : ys.length ≤ sizeLine) :
    Inv X pins σ (upd H l (.lst ys)) { s with heap := s.heap.update l (Obj.mapSeq f), toks := t' } := by
  have q := PySem.IsL.update e f
  rw [hf] at q
  refine I.write (x := l) (e := l) (by rw [hH]; exact trivial) (.inl rfl) (fun b' u hb hu => (Heap.get?_update_other s.heap (Obj.mapSeq f) (Ne.symm hb)).trans hu) ⟨_, q⟩ ?_
  exact ⟨hz, its', _, hv, q⟩
theorem Inv.lnew {its : List Value} {t' : Nat} (I : Inv X pins σ H s) (hv : Vals ys its) (hz : ys.length ≤ sizeLine) :
    Inv X pins σ (upd H s.heap.objs.size (.lst ys)) { s with heap := s.heap.push { cls := .type "list", data := .seq its.toArray }, toks := t' } :=
  I.laid (fun _ _ q => Heap.get?_push_of_some _ q) (Nat.le_refl _) ⟨hz, its, 0, hv, Heap.get?_push_size _ rfl⟩
theorem Inv.fresh (I : Inv X pins σ H s) : H s.heap.objs.size = none := I.hok.fresh (Nat.le_refl _)
theorem Inv.lstM (I : Inv X pins σ H s) (hH : H l = some (.lst xs)) : xs.length ≤ sizeLine ∧ ∃ (its : List Value) (n : Nat), Vals xs its ∧ xs.length = its.length ∧ s.heap.get? l = some { cls := .type "list", data := .seq its.toArray n } := by
  obtain ⟨z, its, n, r, e⟩ := I.hok l _ hH
  exact ⟨z, its, n, r, r.length, e⟩
theorem notLongL {n : Nat} (h : n ≤ sizeLine) : Builtin.List.listTooLong n = false := by
  unfold Builtin.List.listTooLong
  exact decide_eq_false (by omega)
end
section
variable {X : Cx}
def rAppend : V → List V → Hp → VK → Prop := fun x vs H Q => ∃ l xs y, x = .ref l ∧ vs = [y] ∧ H l = some (.lst xs) ∧ xs.length < sizeLine ∧ Q .non (upd H l (.lst (xs ++ [y])))
theorem mt_append : MtM X "list.append" rAppend := by
  intro pins s σ H x vs v us Q I rx rv h
  obtain ⟨l, xs, y, rfl, rfl, hH, hz, q⟩ := h
  cases rx
  obtain ⟨u, rfl, ru⟩ := rv.one
  obtain ⟨z, its, n, r, hl, e⟩ := I.lstM hH
  refine call_meets F.slot_list_append ⟨_, e, rfl⟩ F.entry_list_append (F.args_list_append_2 _ _) (PySem.list_append l its.toArray n u (by rw [List.size_toArray]; omega)) ⟨e, ?_⟩
  refine ⟨.non, _, I.lset (its' := its ++ [u]) hH e (by simp) (r.append (.cons ru .nil)) ?_, rfl, q⟩
  rw [List.length_append, List.length_singleton]
  omega
def rExtend : V → List V → Hp → VK → Prop := fun x vs H Q => ∃ l b xs zs, x = .ref l ∧ vs = [.ref b] ∧ H l = some (.lst xs) ∧ H b = some (.lst zs) ∧ xs.length + zs.length ≤ sizeLine ∧ Q .non (upd H l (.lst (xs ++ zs)))
def rPop : V → List V → Hp → VK → Prop := fun x vs H Q => ∃ l xs y, x = .ref l ∧ vs = [] ∧ H l = some (.lst xs) ∧ xs[xs.length - 1]? = some y ∧ Q y (upd H l (.lst xs.dropLast))
def rPopAt : V → List V → Hp → VK → Prop := fun x vs H Q => ∃ l xs i k y, x = .ref l ∧ vs = [.int i] ∧ H l = some (.lst xs) ∧ -(2 ^ 63) ≤ i ∧ i < 2 ^ 63 ∧ seqIndex? i xs.length = some k ∧ xs[k]? = some y ∧ Q y (upd H l (.lst (xs.eraseIdx k)))
def rReverse : V → List V → Hp → VK → Prop := fun x vs H Q => ∃ l xs, x = .ref l ∧ vs = [] ∧ H l = some (.lst xs) ∧ Q .non (upd H l (.lst xs.reverse))
def rClear : V → List V → Hp → VK → Prop := fun x vs H Q => ∃ l xs, x = .ref l ∧ vs = [] ∧ H l = some (.lst xs) ∧ Q .non (upd H l (.lst []))
def rCat : R2 := fun x y H Q => ∃ l b xs zs, x = .ref l ∧ y = .ref b ∧ H l = some (.lst xs) ∧ H b = some (.lst zs) ∧ xs.length + zs.length ≤ sizeLine ∧ ∀ p, H p = none → Q (.ref p) (upd H p (.lst (xs ++ zs)))
def rRep : R2 := fun x y H Q => ∃ l k xs, x = .ref l ∧ y = .int k ∧ H l = some (.lst xs) ∧ -(2 ^ 63) ≤ k ∧ k < 2 ^ 63 ∧ xs.length * k.toNat ≤ sizeLine ∧
  ∀ p, H p = none → Q (.ref p) (upd H p (.lst (List.replicate k.toNat xs).flatten))
end
section
variable {prog : Program} {w : World} {A : Around} {E : Value → Shared → Prop} {s : Shared}
theorem bounds_run {a c n : Nat} (hac : a ≤ c) (hc : c ≤ n) : sliceBounds (some (a : Int)) (some (c : Int)) none n = ((a : Int), (c : Int), 1) := by
  simp only [sliceBounds, Option.getD_none]
  have h1 : ¬ ((a : Int) < 0) := by omega
  have h2 : ¬ ((c : Int) < 0) := by omega
  simp only [h1, h2, if_false, show (1 : Int) > 0 by decide, if_true]
  congr 1
  · omega
  · congr 1; omega
set_option maxRecDepth 100000 in
theorem setItem_slice {l b sl : Addr} {items new : Array Value} {n n2 : Nat} {vl vu : Value} {a c : Nat} {Q : Unit → Shared → Prop}
    (e : s.heap.get? l = some { cls := .type "list", data := .seq items n }) (e2 : s.heap.get? b = some { cls := .type "list", data := .seq new n2 }) (hne : l ≠ b)
    (hs : s.heap.IsSliceOf sl vl vu .none) (pl : IsPart vl (some (a : Int))) (pu : IsPart vu (some (c : Int))) (hac : a ≤ c) (hc : c ≤ items.size)
    (hsz : items.size + new.size ≤ sizeLine) (h : Q () { s with heap := s.heap.update l (Obj.mapSeq fun xs => xs.extract 0 a ++ new ++ xs.extract c xs.size) }) :
    wpAny (model prog w) A (setItem (.ref l) (.ref sl) (.ref b)) Q E s := by
  have hl : s.heap.IsList l items := PySem.IsL.isList e
  have hb : s.heap.IsList b new := PySem.IsL.isList e2
  obtain ⟨os, hos, hcs, hds⟩ := id hs
  have hTs : s.TypeIs (.ref sl) "slice" := ⟨os, hos, hcs⟩
  have hstep : ¬ ((rawPart none == rawInt 0) = true) := Bool.false_ne_true
  have hsame : Builtin.List.listSameRef (.ref l) (.ref b) = false := by
    unfold Builtin.List.listSameRef
    exact beq_eq_false_iff_ne.mpr hne
  have hmax : (max (a : Int) (c : Int)).toNat = c := by omega
  have hz' : ((fun xs : Array Value => xs.extract 0 a ++ new ++ xs.extract c xs.size) items).size ≤ sizeLine + 1 := by
    simp only [Array.size_append, Array.size_extract]
    omega
  unfold setItem
  try with_reducible refine wpAny_holding ?_
  first | refine wpAny_bind (wpAny_pure ?_) | skip
  refine wpAny_bind (wpAny_sequenceKey hl.typeIs (by decide) ?_)
  refine wpAny_bind (wpAny_callSpecial?_slot (name := Str.ofString "__setitem__") hl.typeIs slot_list_setitem
    (wpAny_call_entry slot_list_setitem hl.typeIs entry_list_setitem ?_ (args_list_setitem _ _ _)))
  show wpAny _ _ (Builtin.List.listSubscript? (.ref sl) >>= _) _ _ s
  refine wpAny_bind ?_
  unfold Builtin.List.listSubscript?
  refine wpAny_bind (wpAny_specialOf hTs slice_no_index ?_)
  simp only [Option.isNone_none, if_true]
  refine wpAny_pure ?_
  show wpAny _ _ (typeOf (.ref sl) >>= _) _ _ s
  refine wpAny_bind (wpAny_typeOf hTs ?_)
  first
    | rw [if_neg (by decide)]
    | refine PySem.W.KFB.if_not (by decide) ?_
  rw [listSliceParts_eq]
  refine wpAny_bind (wpAny_bind (wpAny_field hos hds (x := .none) rfl (wpAny_bind (wpAny_listPart .none ?_))))
  rw [if_neg hstep]
  refine wpAny_bind (wpAny_field hos hds (x := vl) rfl (wpAny_bind (wpAny_listPart pl ?_)))
  refine wpAny_bind (wpAny_field hos hds (x := vu) rfl (wpAny_bind (wpAny_listPart pu (wpAny_pure ?_))))
  first
    | simp only [hsame, Bool.false_eq_true, if_false]
    | refine PySem.W.KFB.if_not hsame ?_
    | (dsimp only
       rw [if_neg (by rw [hsame]; exact Bool.false_ne_true)])
  refine wpAny_bind (m := Builtin.List.listAllItems (.ref b) "must assign iterable to extended slice") ?_
  unfold Builtin.List.listAllItems
  refine wpAny_bind (wpAny_typeOf hb.typeIs ?_)
  first
    | refine PySem.W.KFB.if_so (by decide) ?_
    | rw [if_pos (by decide)]
    | simp only [beq_self_eq_true, Bool.true_or, if_true]
  unfold Builtin.List.listItems
  refine wpAny_bind (wpAny_seqItems e2 rfl (wpAny_pure ?_))
  refine wpAny_bind (wpAny_bind (wpAny_seqItems e rfl (wpAny_pure ?_)))
  refine wpAny_bind (wpAny_of_eq ((sliceIndices_raw (some (a : Int)) (some (c : Int)) none items.size (by simp)).trans (congrArg (pure : Int × Int × Int → Sem (Int × Int × Int)) (bounds_run hac hc))) ?_)
  show wpAny _ _ (if ((1 : Int) == 1) = true then _ else _) _ _ s
  rw [if_pos (by decide)]
  refine wpAny_bind (wpAny_rule ?_)
  first
    | simp only [notLongL hsz, Bool.false_eq_true, if_false]
    | refine PySem.W.KFB.if_not (notLongL hsz) ?_
  first | refine wpAny_bind (wpAny_pure ?_) | skip
  show wpAny _ _ (updateSeq l (fun xs => xs.extract 0 ((a : Int)).toNat ++ new ++ xs.extract (max (a : Int) (c : Int)).toNat xs.size) >>= _) _ _ s
  rw [hmax, Int.toNat_natCast]
  refine wpAny_bind (wpAny_updateSeq (hz := Nat.le_trans (Nat.le_add_right _ _) hsz) (_hz' := hz') e rfl ?_)
  refine wpAny_bind (wpAny_letGo ?_)
  first
    | exact wpAny_bind (wpAny_pure (wpAny_pure ⟨.none, rfl, wpAny_pure h⟩))
    | exact wpAny_pure ⟨.none, rfl, wpAny_pure h⟩
end
section
variable {X : Cx}
end
end L2
namespace Att
open PySem PySem.W PySem.Calls PyProof.Rows
theorem ints_of_wellAll {P : Params} {h : Heap} : ∀ (ns : List Int) (vs : List Value), WellAll P h vs (ns.map WData.int) → IntsAre vs ns := by
  intro ns
  induction ns with
  | nil =>
    intro vs w
    rw [List.map_nil] at w
    cases w
    exact .nil
  | cons n ns ih =>
    intro vs w
    rw [List.map_cons] at w
    cases w with
    | cons a b =>
      cases a
      exact .cons _ _ (ih _ b)
theorem script_of {l : OpenLaw} {n : Nat} (hn : l.most = some n) {P : Params} {h : Heap} {args : List WData} {vals : List Value}
    (hpre : l.row.toRowW.claim.pre args = true) (hwl : WellAll P h vals args) :
    ∃ a vs ns, vals = [Value.ref a] ∧ args = [WData.list (ns.map WData.int)] ∧ h.get? a = some { cls := .type "list", data := .seq vs.toArray } ∧ IntsAre vs ns ∧ ns.length ≤ n := by
  have hsh : WShape.hasAll [] args [.list .int] = true := (pre_splitW hpre).1
  have hc : l.pre.holds [] { args := args } = true := (pre_splitW hpre).2
  obtain ⟨d, r, rfl, h1, h2⟩ := hasAllW_cons hsh
  obtain rfl := hasAllW_nil h2
  obtain ⟨xs, rfl, h3⟩ := hasW_list h1
  obtain ⟨ns, rfl⟩ := items_int h3
  have hlen : ns.length ≤ n := by
    unfold OpenLaw.pre at hc
    have h4 : (WTm.not (.lt (.lit (.int (n : Int))) (.len (.arg 0)))).holds [] { args := [.list (ns.map .int)] } = true := by
      have h4 := (holds_andW hc).1
      rw [hn] at h4
      exact h4
    have h5 := condW_of h4 (w_not (w_lt w_lit (w_len_list (w_arg rfl))))
    rw [List.length_map] at h5
    refine Nat.le_of_not_lt fun q => ?_
    have q' : (n : Int) < ((ns.length : Nat) : Int) := by omega
    first
      | (rw [decide_eq_true q'] at h5; exact absurd h5 (by decide))
      | (simp at h5; omega)
  cases hwl with
  | cons w1 w2 =>
    cases w2
    cases w1 with
    | list ho hall => exact ⟨_, _, ns, rfl, rfl, ho, ints_of_wellAll ns _ hall, hlen⟩
theorem post_true (l : OpenLaw) (args : List WData) : l.row.toRowW.claim.post args (.bool true) args = true :=
  postW_of (r := l.row.toRowW) (X := (true == true))
    (show WShape.has [] (.bool true) .bool = true by first | rfl | decide | simp [WShape.has, WShape.arms, WShape.armsAll])
    (show (WTm.eq .res (.lit (.bool true))).value [] { args := args, res := some (.bool true), after := args } = some (.bool (true == true)) from w_eq_bool (w_res rfl) w_lit) rfl
theorem attach_call {l : OpenLaw} {n : Nat} {q : Program} {loose : List Str} {XP : (Str → Option Value) → Heap → Prop} {YP : World → Heap → Prop} {d : DefRec}
    (hn : l.most = some n) (hdf : d.params.defaults = [])
    (call : ∀ (w : World) (s₀ s₁ : Shared) (mg mb : Str → Option Value) (fa : Addr) (o : Obj) (pm cd doc : Value) (a : Addr) (vs : List Value) (ns : List Int),
      Ground q loose [] XP w s₀ mg mb s₁.heap → YP w s₁.heap →
      s₁.heap.get? fa = some o → o.data = .func (docDef d.name d.params d.body d.scope pm cd doc) → s₁.heap.CodeRec cd d.name → mg d.name = some (.ref fa) →
      s₁.heap.get? a = some { cls := .type "list", data := .seq vs.toArray } → IntsAre vs ns → ns.length ≤ n → s₁.gens = #[] →
      codeAny (model l.prog w) callerA (.call (.ref fa) ⟨[.ref a], []⟩) (fun r s' => r = .ok (.ret (.bool true)) ∧ OldK s₁.heap s'.heap ∧ s'.os = s₁.os ∧ AllBare s'.gens) s₁) :
    WalkO q loose XP YP l.row.toRowW d [] (fun f vs => PySem.call f vs) := by
  intro w s₀ s₁ mg mb G Y fa o pm cd doc dV kV ho hd hcd hD hmg hg args vals as hpre hlay hrd hwl hlo
  obtain rfl : dV = .none := Dflts.none hD hdf
  obtain rfl : kV = .none := Dflts.noKw hD
  obtain ⟨a, vs, ns, rfl, rfl, hobj, hints, hlen⟩ := script_of hn hpre hwl
  refine enter_call (codeAny_mono (call w s₀ s₁ mg mb fa o pm cd doc a vs ns G Y ho (fd_plain hd) hcd hmg hobj hints hlen hg) fun r s' hq => ?_)
  obtain ⟨rfl, h2, h3, h4⟩ := hq
  exact ⟨.inl ⟨.bool true, .bool true, [], rfl, fun _ => rfl, .bool true, post_true l _, fun _ => ⟨List.Pairwise.nil, fun _ hm => (nomatch hm)⟩⟩, h2, h3, h4⟩
section
variable {prog : Program} {w : World} {A : Around} {E : Value → Shared → Prop} {s : Shared} {K : Frag}
def noObjs (h : Heap) : Heap := { h with objs := #[] }
def ledger (h : Heap) (L d : Addr) : List (Addr × Obj) := (List.range h.objs.size).filterMap fun a => if a = L ∨ a = d then none else (h.get? a).map fun o => (a, o)
end
end Att
namespace L2
open PySem PySem.Spec PyProof.Rows
theorem vals_ints : ∀ {vs : List Value} {ns : List Int}, IntsAre vs ns → Vals (ns.map V.int) vs
  | _, _, .nil => .nil
  | _, _, .cons n t h => .cons ⟨t, rfl⟩ (vals_ints h)
def Only (H : Hp) : Prop := ∀ b, H b = none ∨ ∃ o xs, H b = some (.frz o (.lst xs))
theorem law_call {P : Program} {w : World} {K : PySem.W.Frag} {mg mb : Str → Option Value} {CX : CXT} {k : Nat} {fa a : Addr} {fd : FuncData} {x : Str} {sp : Sp} {s₁ : Shared} {vs : List Value} {ns : List Int}
    (KX : K.In s₁.heap) (hns : s₁.heap.Ns mainGlobals mg) (hb : s₁.heap.Ns builtinsNs mb) (hbb : ∀ x : Str, x ≠ "__name__" → mb x = bootBuiltins x) (hlim : s₁.heap.NoLimit) (hg : s₁.gens = #[])
    (ha : s₁.heap.get? a = some { cls := .type "list", data := .seq vs.toArray }) (hi : IntsAre vs ns) (hl : ns.length ≤ sizeLine) (hr : Room k callerA)
    (F : ∀ base : Heap, K.In base → base.Ns mainGlobals mg → FnOk P w K mg base CX k fa fd [x] sp) (hbind : ∀ (s : Shared) (u : Value), BindsTo s fd ⟨[u], []⟩ [(x, u)])
    (hsp : ∀ H : Hp, Only H → SqL K H a (ns.map V.int) → sp [.ref a] H (fun v _ => v = .bl true) fun _ _ _ => False)
    (hCX : ∀ H e s', CX [] H s₁ (fun _ _ _ => False) e s' → False) :
    codeAny (model P w) callerA (.call (.ref fa) ⟨[.ref a], []⟩) (fun r s' => r = .ok (.ret (.bool true)) ∧ OldK s₁.heap s'.heap ∧ s'.os = s₁.os ∧ AllBare s'.gens) s₁ := by
  have rv := vals_ints hi
  have lenV := hi.length
  -- from an abstract heap in which nothing but the script may be tracked
  have core : ∀ H : Hp, Only H → SqL K H a (ns.map V.int) → HOk P w H s₁.heap → (∀ b, H b ≠ none → b = a) → (H a ≠ none → K.lookup a = none) →
      codeAny (model P w) callerA (.call (.ref fa) ⟨[.ref a], []⟩) (fun r s' => r = .ok (.ret (.bool true)) ∧ OldK s₁.heap s'.heap ∧ s'.os = s₁.os ∧ AllBare s'.gens) s₁ := by
    intro H hO hS hok hA hK
    have base_of : ∀ {b : Addr} {o : Obj}, s₁.heap.get? b = some o → H b = none → (hidT s₁.heap H).get? b = some o := fun e n => hidT_get e n
    have noA : ∀ {b : Addr} {o : Obj} {es : Array DictEntry} {ep : Nat}, s₁.heap.get? b = some o → o.data = .dict es ep → H b = none := fun {b o es ep} e d => by
      cases q : H b with
      | none => rfl
      | some u =>
        have e' : b = a := hA b (by rw [q]; simp)
        subst e'
        rw [ha] at e; cases e
        have d' : Data.seq vs.toArray _ = Data.dict es ep := d
        cases d'
    have nsK : ∀ {b : Addr} {m : Str → Option Value}, s₁.heap.Ns b m → (hidT s₁.heap H).Ns b m := fun {b m} ⟨o, es, ep, e, d, r⟩ => ⟨o, es, ep, base_of e (noA e d), d, r⟩
    have hKb : K.In (hidT s₁.heap H) := fun b o e => base_of (KX b o e) (by
      cases q : H b with
      | none => rfl
      | some u =>
        have e' : b = a := hA b (by rw [q]; simp)
        subst e'
        rw [hK (by rw [q]; simp)] at e; cases e)
    have hM : Mod K mg (hidT s₁.heap H) := ⟨hKb, nsK hns, ⟨mb, nsK hb, hbb⟩, let ⟨mc, h1, h2⟩ := hlim; ⟨mc, nsK h1, h2⟩⟩
    have e0 : Env0 P w K mg (hidT s₁.heap H) callerA [] s₁ H := ⟨rfl, hM, fun b o e => of_hidT e, Nat.le_of_eq (hidT_size _ _), trivial, fun b hb => absurd (show b ∈ ([] : List Addr) from hb) (by simp), hok, .of_eq hg⟩
    refine codeAny_mono ((F _ hKb (nsK hns)).run callerA [] s₁ H ⟨[.ref a], []⟩ [.ref a] [.ref a] _ _ hr e0 (hbind s₁ (.ref a)) (.cons rfl .nil) (hsp H hO hS)) fun r s' h => ?_
    cases r with
    | error e => exact (hCX H e s' h).elim
    | ok fl =>
      cases fl with
      | next => exact False.elim h
      | brk => exact False.elim h
      | cont => exact False.elim h
      | ret u =>
        obtain ⟨v, H', os, bare, un, hok', r', q⟩ := h
        have q' : v = .bl true := q
        subst q'
        obtain rfl : u = Value.bool true := r'
        refine ⟨rfl, OldK.of_keep fun b o e => ?_, os, bare⟩
        cases q : H b with
        | none => exact un.keep b o e q (by intro z; exact absurd (show b ∈ ([] : List Addr) from z) (by simp)) (by simp)
        | some u =>
          rcases hO b with z | ⟨ob, xs, z⟩
          · rw [q] at z; cases z
          · have z2 := un.frzs b ob _ z
            obtain ⟨e1, _⟩ := hok b _ z
            obtain ⟨e2, _⟩ := hok' b _ z2
            rw [e] at e1; cases e1
            exact e2
  cases hk : K.lookup a with
  | some o =>
    -- the script is one of the module's own objects
    have e := KX a o hk
    rw [ha] at e
    cases e
    refine core (fun _ => none) (fun _ => .inl rfl) (.inr ⟨_, vs.toArray, _, hk, rfl, rfl, rfl, by rw [List.size_toArray, lenV]; exact hl, by simpa using rv⟩) (fun b u z => by have z' : (none : Option HO) = some u := z; cases z') (fun b z => absurd rfl z) fun z => absurd rfl z
  | none =>
    refine core (fun b => if b = a then some (.frz { cls := .type "list", data := .seq vs.toArray } (.lst (ns.map V.int))) else none) (fun b => ?_) (.inl (.inr ⟨{ cls := .type "list", data := .seq vs.toArray }, if_pos rfl⟩)) (fun b u z => ?_) (fun b z => ?_) fun _ => hk
    · by_cases hb : b = a
      · exact .inr ⟨_, _, if_pos hb⟩
      · exact .inl (if_neg hb)
    · by_cases hb : b = a
      · have z' := (if_pos hb).symm.trans z
        cases z'
        subst hb
        exact ⟨ha, by rw [List.length_map]; exact hl, vs, _, rv, ha⟩
      · have z' := (if_neg hb).symm.trans z
        cases z'
    · by_cases hb : b = a
      · exact hb
      · exact absurd (if_neg hb) z
end L2
namespace L2
open PySem PySem.Spec PyProof.Rows
abbrev KOf {K : PySem.W.Frag} {h : Heap} (_ : K.In h) : PySem.W.Frag := K
theorem walk_of {l : PySem.W.OpenLaw} {n k : Nat} {q : Program} {loose : List Str} {XP : (Str → Option Value) → Heap → Prop} {YP : World → Heap → Prop} {d : DefRec} {K : Params → PySem.W.Frag} {CX : World → CXT} {sp : World → Sp} {x : Str}
    (hn : l.most = some n) (hn2 : n ≤ sizeLine) (hdf : d.params.defaults = []) (hr : Room k callerA)
    (hY : ∀ (w : World) (h : Heap), YP w h → (K w.params).In h)
    (F : ∀ (w : World) (mg : Str → Option Value) (fa : Addr) (h : Heap), (K w.params).In h → h.Ns mainGlobals mg → mg d.name = some (.ref fa) →
      ∃ fd : FuncData, (∀ (s : Shared) (u : Value), BindsTo s fd ⟨[u], []⟩ [(x, u)]) ∧
        ∀ base : Heap, (K w.params).In base → base.Ns mainGlobals mg → FnOk l.prog w (K w.params) mg base (CX w) k fa fd [x] (sp w))
    (hsp : ∀ (w : World) (H : Hp) (a : Addr) (ns : List Int), ns.length ≤ n → Only H → SqL (K w.params) H a (ns.map V.int) → sp w [.ref a] H (fun v _ => v = .bl true) fun _ _ _ => False)
    (hCX : ∀ (w : World) (H : Hp) (s : Shared) (e : Value) (s' : Shared), CX w [] H s (fun _ _ _ => False) e s' → False) :
    PySem.W.WalkO q loose XP YP l.row.toRowW d [] (fun f vs => PySem.call f vs) := by
  refine Att.attach_call hn hdf fun w s₀ s₁ mg mb fa o pm cd doc a vs ns G Y ho hd hcd hmg hobj hints hlen hg => ?_
  have KX := hY w _ Y
  obtain ⟨fd, hb, hF⟩ := F w mg fa _ KX G.T.g hmg
  exact law_call KX G.T.g G.T.b G.T.builtins G.T.nolimit hg hobj hints (Nat.le_trans hlen hn2) hr hF hb (fun H hO hS => hsp w H a ns hlen hO hS) fun H e s' => hCX w H s₁ e s'
end L2
/- THE LAST THEOREM (shape; LID, My.* are yours):
   My.Adr: a structure of the addresses that your layer names (classes, functions); My.Txt K t: a structure (Prop) of the equations over K;
   My.txt_mk : {K} {implicit addresses ..} (e1 : nsIn K mainGlobals "law" = some (some (.ref f))) (e2 : K.lookup f = some ⟨oc, od, .func (fnOf "law" "law" params body scope dV kV doc pm an cdv ct), sl⟩) (e3 : codeIn K cdv "law" = true) .. : ∃ t, My.Txt K t
set_option maxRecDepth 100000 in
set_option maxHeartbeats 0 in
theorem PySem.Challenge.cw_LID_holds : PySem.Challenge.rw_LID.Holds := by
  w_on; o_law; k_head; (case hw => w_witness2)
  k_fill
  refine L2.walk_of (l := PySem.Challenge.rw_LID) (n := 63) (k := 40) (x := "script") (CX := fun w => ..) (sp := fun _ => My.sp_law) rfl (by decide) rfl ⟨rfl, by decide, by decide⟩ (fun w h Y => PySem.W.kIn_of Y) ?F ?S ?C
  case F =>
    intro w mg fa h KX G hmg
    have T : ∃ t, My.Txt (L2.KOf KX) t := by
      dsimp only [L2.KOf]                          -- K must stand as «<heap const> w.params» for k_is
      refine' My.txt_mk ?e1 ?e2 ?e3 ..
      (case e1 => PySem.W.k_is)                    -- in the order: a name -> its address -> its object -> its parts
      (case e2 => PySem.W.k_is)
      ..
    obtain ⟨t, T⟩ := T
    have e0 := hmg.symm.trans (PySem.W.mg_of KX G T.law)
    cases e0                                       -- fa is the law's own address
    exact ⟨_, fun s u => .of_eq rfl, fun base kb nb => My.law_fn T kb nb⟩     -- if «.of_eq rfl» comes too early: refine' ⟨_, ?b, fun base kb nb => My.law_fn T kb nb⟩; exact fun s u => .of_eq rfl
  case S => exact fun w H a ns hl hO hS => ..
  case C => exact ..
(the tactic k_is has no namespace: write k_is) -/
namespace L2
open PySem PySem.Spec PyProof.Rows
def inClass (s : Stmt) (j : Nat) : Stmt := match s with
  | .ClassDef _ _ _ body _ _ _ _ _ _ _ => body.getD j (.Pass ⟨0, 0, 0, 0⟩)
  | _ => .Pass ⟨0, 0, 0, 0⟩
def defArgs (s : Stmt) : Arguments := match s with
  | .FunctionDef _ a _ _ _ _ _ _ _ _ => a
  | _ => { posonlyargs := [], args := [], vararg := none, kwonlyargs := [], kw_defaults := [], kwarg := none, defaults := [] }
def defBody (s : Stmt) : List Stmt := match s with
  | .FunctionDef _ _ b _ _ _ _ _ _ _ => b
  | _ => []
def defScope (s : Stmt) : Scope := match s with
  | .FunctionDef _ _ _ _ _ _ sc _ _ _ => sc
  | _ => { kind := .function, names := [], isGenerator := false, isCoroutine := false }
abbrev CX0 : CXT := fun _ _ _ _ _ _ => False
abbrev E0 : XK := fun _ _ _ => False
theorem pass0 {X : Cx} : Passes CX0 X E0 := fun _ _ _ _ _ _ _ h => h.elim
structure Fun (K : PySem.W.Frag) (x qual : Str) (st : Stmt) (f : Addr) (fd : FuncData) : Prop where
  ex : ∃ (oc : Value) (od : Option Addr) (kV doc pm : Value) (an : Option Addr) (cdv ct : Value) (osl : Array (Option Value)),
    fd = PySem.W.fnOf x qual (defArgs st) (defBody st) (defScope st) .none kV doc pm an cdv ct ∧ K.lookup f = some ⟨oc, od, .func fd, osl⟩ ∧ PySem.W.codeIn K cdv qual = true
  kp : PySem.W.keepIn K (.ref f) = true
section
variable {P : Program} {w : World} {K : PySem.W.Frag} {mg : Str → Option Value} {base : Heap}
theorem Fun.ok {x qual : Str} {st : Stmt} {f : Addr} {fd : FuncData} {N ps : List Str} {k : Nat} {sp : Sp} (F : Fun K x qual st f fd) (S : FnScope N ps (defScope st)) (len : ∀ vs H Q E, sp vs H Q E → vs.length = ps.length)
    (hbody : ∀ (cdv : Value) (A : Around) (outer : List Env) (s : Shared) (H : Hp) (vs : List V) (Q : VK) (E : XK), Room k (A.deeper (envOfC qual (defScope st) s.heap.objs.size f cdv)) → sp vs H Q E →
      ∃ t, PSs (cxOf CX0 P w K mg base N qual (defScope st) f cdv A outer s H E).nox (defBody st) t ∧ t { nx := fun _ H' => Q .non H', rt := Q } (start N vs) H) : FnOk P w K mg base CX0 (k + 1) f fd ps sp := by
  obtain ⟨oc, od, kV, doc, pm, an, cdv, ct, osl, rfl, lk, hcd⟩ := F.ex
  refine fn_of lk hcd S len fun A outer s H vs Q E hr hsp => ?_
  obtain ⟨t, h, q⟩ := hbody cdv A outer s H vs Q E hr hsp
  exact ⟨t, h.nox, q⟩
theorem Fun.binds {x qual : Str} {st : Stmt} {f : Addr} {fd : FuncData} {ps : List Str} (F : Fun K x qual st f fd)
    (h : ∀ (kV doc pm : Value) (an : Option Addr) (cdv ct : Value) (us : List Value), us.length = ps.length → bindArgs (PySem.W.fnOf x qual (defArgs st) (defBody st) (defScope st) .none kV doc pm an cdv ct) ⟨us, []⟩ = pure (ps.zip us)) : Binds K fd ps [] := by
  obtain ⟨oc, od, kV, doc, pm, an, cdv, ct, osl, rfl, lk, hcd⟩ := F.ex
  exact .all (h kV doc pm an cdv ct)
theorem fun_mk {x qual : Str} {st : Stmt} {f : Addr} {oc : Value} {od an : Option Addr} {osl : Array (Option Value)} {kV doc pm cdv ct : Value} (l : K.lookup f = some ⟨oc, od, .func (PySem.W.fnOf x qual (defArgs st) (defBody st) (defScope st) .none kV doc pm an cdv ct), osl⟩)
    (c : PySem.W.codeIn K cdv qual = true) (k : PySem.W.keepIn K (.ref f) = true) : Fun K x qual st f (PySem.W.fnOf x qual (defArgs st) (defBody st) (defScope st) .none kV doc pm an cdv ct) := ⟨⟨oc, od, kV, doc, pm, an, cdv, ct, osl, rfl, l, c⟩, k⟩
end
theorem small1000 {n : Nat} (h : n ≤ 1000) : n < sizeLine := Nat.lt_of_le_of_lt h (by decide)
section
variable {X : Cx}
theorem pv (i : Nat) {x : Str} {pos : Pos} (hN : X.N[i]? = some x := by rfl) (hv : Vis X.env.scope x := by first | exact Or.inl rfl | exact Or.inr (Or.inl rfl) | exact Or.inr (Or.inr rfl)) (hd : (x == ("__debug__" : Str)) = false := by decide)
    (hcd : (x == ("__classdict__" : Str)) = false := by decide) : PE X (.Name x pos) (tVar i) := pe_var hN hv hd hcd
end
theorem iteF {A B : Prop} (h : B) : if false = true then A else B := by
  rw [if_neg Bool.false_ne_true]
  exact h
theorem iteT {A B : Prop} (h : A) : if true = true then A else B := by
  rw [if_pos rfl]
  exact h
theorem ite2 {c A B : Prop} [Decidable c] (h1 : c → A) (h2 : ¬ c → B) : if c then A else B := by
  by_cases h : c
  · rw [if_pos h]
    exact h1 h
  · rw [if_neg h]
    exact h2 h
theorem iteNS {c A B : Prop} [Decidable c] (hc : c) (h : B) : if (!decide c) = true then A else B := by
  rw [decide_eq_true hc]
  exact iteF h
def Same (H H' : Hp) : Prop := ∀ b o, H b = some o → H' b = some o
theorem Same.refl (H : Hp) : Same H H := fun _ _ h => h
theorem Same.trans {H H1 H2 : Hp} (a : Same H H1) (b : Same H1 H2) : Same H H2 := fun c o h => b c o (a c o h)
theorem Same.free {H H' : Hp} (e : Same H H') {l : Addr} (h : H' l = Option.none) : H l = Option.none := by
  cases q : H l with
  | none => rfl
  | some o =>
    rw [e l o q] at h
    cases h
theorem Same.seq {K : PySem.W.Frag} {H H' : Hp} {a : Addr} {xs : List V} (e : Same H H') (h : SqL K H a xs) : SqL K H' a xs := by
  rcases h with (h | ⟨o, h⟩) | h
  · exact .inl (.inl (e _ _ h))
  · exact .inl (.inr ⟨o, e _ _ h⟩)
  · exact .inr h
end L2
namespace L2
open PySem PySem.Spec PyProof.Rows
section
variable {κ : Type} [DecidableEq κ]
def valV (kvs : List (κ × V)) (k : κ) : Option V := (kvs.find? fun kv => decide (kv.1 = k)).map (·.2)
def putK (kvs : List (κ × V)) (k : κ) (v : V) : List (κ × V) :=
  if (kvs.any fun kv => decide (kv.1 = k)) = true then kvs.map (fun kv => if kv.1 = k then (kv.1, v) else kv) else kvs ++ [(k, v)]
def dropK (kvs : List (κ × V)) (k : κ) : List (κ × V) := kvs.filter fun kv => decide (kv.1 ≠ k)
theorem valV_pos {p : κ × V} {r : List (κ × V)} {k : κ} (e : p.1 = k) : valV (p :: r) k = some p.2 := by simp [valV, List.find?_cons, e]
theorem valV_neg {p : κ × V} {r : List (κ × V)} {k : κ} (e : ¬ p.1 = k) : valV (p :: r) k = valV r k := by simp [valV, List.find?_cons, e]
theorem valV_any (k : κ) : ∀ kvs : List (κ × V), (kvs.any fun kv => decide (kv.1 = k)) = (valV kvs k).isSome
  | [] => rfl
  | p :: r => by
    rw [List.any_cons]
    by_cases e : p.1 = k
    · simp only [valV_pos e, decide_eq_true e, Bool.true_or, Option.isSome_some]
    · rw [valV_neg e, decide_eq_false e, Bool.false_or]; exact valV_any k r
theorem length_putK (kvs : List (κ × V)) (k : κ) (v : V) : (putK kvs k v).length ≤ kvs.length + 1 := by
  unfold putK
  split
  · rw [List.length_map]; omega
  · rw [List.length_append, List.length_cons, List.length_nil]; omega
theorem RelO.isSome_eq {o : Option V} {u : Option Value} (r : RelO o u) : o.isSome = u.isSome := by
  cases o with
  | none => cases u with
    | none => rfl
    | some _ => exact (show False from r).elim
  | some _ => cases u with
    | none => exact (show False from r).elim
    | some _ => rfl
theorem RelO.getD {o : Option V} {u : Option Value} {d : V} {d' : Value} (r : RelO o u) (rd : RelV d d') : RelV (o.getD d) (u.getD d') := by
  cases o with
  | none => cases u with
    | none => exact rd
    | some _ => exact (show False from r).elim
  | some _ => cases u with
    | none => exact (show False from r).elim
    | some _ => exact r
theorem KV.val {kvs : List (κ × V)} {vs : List (κ × Value)} (r : KV kvs vs) (k : κ) : RelO (valV kvs k) (valueAt vs k) := by
  unfold KV at r
  induction r with
  | nil => exact True.intro
  | @cons p q ps qs h t ih =>
    obtain ⟨h1, h2⟩ := h
    by_cases e : p.1 = k
    · have e' : q.1 = k := h1.symm.trans e
      have b : valueAt (q :: qs) k = some q.2 := by simp [valueAt, List.find?_cons, e']
      rw [valV_pos e, b]; exact h2
    · have e' : ¬ q.1 = k := fun z => e (h1.trans z)
      have b : valueAt (q :: qs) k = valueAt qs k := by simp [valueAt, List.find?_cons, e']
      rw [valV_neg e, b]; exact ih
theorem KV.any {kvs : List (κ × V)} {vs : List (κ × Value)} (r : KV kvs vs) (k : κ) : (kvs.any fun kv => decide (kv.1 = k)) = vs.any fun kv => decide (kv.1 = k) := by
  unfold KV at r
  induction r with
  | nil => rfl
  | cons h t ih => rw [List.any_cons, List.any_cons, ih, h.1]
theorem KV.repl {kvs : List (κ × V)} {vs : List (κ × Value)} (r : KV kvs vs) (k : κ) {y : V} {u : Value} (ry : RelV y u) :
    KV (kvs.map fun kv => if kv.1 = k then (kv.1, y) else kv) (vs.map fun kv => if kv.1 = k then (kv.1, u) else kv) := by
  unfold KV at r ⊢
  induction r with
  | nil => exact .nil
  | @cons p q ps qs h t ih =>
    rw [List.map_cons, List.map_cons]
    refine .cons ?_ ih
    obtain ⟨h1, h2⟩ := h
    by_cases e : p.1 = k
    · rw [if_pos e, if_pos (h1.symm.trans e)]; exact ⟨h1, ry⟩
    · rw [if_neg e, if_neg (fun z => e (h1.trans z))]; exact ⟨h1, h2⟩
theorem KV.put {kvs : List (κ × V)} {vs : List (κ × Value)} (r : KV kvs vs) (k : κ) {y : V} {u : Value} (ry : RelV y u) : KV (putK kvs k y) (stored vs k u) := by
  unfold putK stored
  rw [r.any k]
  by_cases e : (vs.any fun kv => decide (kv.1 = k)) = true
  · rw [if_pos e, if_pos e]; exact r.repl k ry
  · rw [if_neg e, if_neg e]; exact Paired.snoc r ⟨rfl, ry⟩
theorem KV.drop {kvs : List (κ × V)} {vs : List (κ × Value)} (r : KV kvs vs) (k : κ) : KV (dropK kvs k) (without vs k) := by
  unfold KV at r ⊢
  unfold dropK without
  induction r with
  | nil => exact .nil
  | @cons p q ps qs h t ih =>
    obtain ⟨h1, h2⟩ := h
    rw [List.filter_cons, List.filter_cons]
    by_cases e : p.1 = k
    · have a : ¬ decide (p.1 ≠ k) = true := by simp [e]
      have b : ¬ decide (q.1 ≠ k) = true := by simp [h1.symm.trans e]
      rw [if_neg a, if_neg b]; exact ih
    · have e' : ¬ q.1 = k := fun z => e (h1.trans z)
      have a : decide (p.1 ≠ k) = true := by simp [e]
      have b : decide (q.1 ≠ k) = true := by simp [e']
      rw [if_pos a, if_pos b]; exact .cons ⟨h1, h2⟩ ih
theorem KV.keys {kvs : List (κ × V)} {vs : List (κ × Value)} (r : KV kvs vs) : kvs.map (·.1) = vs.map (·.1) := by
  unfold KV at r
  induction r with
  | nil => rfl
  | cons h t ih => rw [List.map_cons, List.map_cons, ih, h.1]
theorem KV.length {kvs : List (κ × V)} {vs : List (κ × Value)} (r : KV kvs vs) : kvs.length = vs.length := Paired.length r
end
theorem kV_is {P : Program} {w : World} {k : Key} {u : Value} (r : RelV (kV k) u) : (mixKind P w).is k u = true := by
  cases k with
  | inl i => obtain ⟨t, e⟩ := (show ∃ t, u = Value.int i t from r); subst e; exact mixKind_int P w i t
  | inr x => obtain ⟨t, e⟩ := (show ∃ t, u = Value.str x t from r); subst e; exact mixKind_str P w x t
abbrev KT (H : Hp) : List (List Key × V) → List (List Key × Addr × Value) → Prop := Paired fun p q => p.1 = q.1 ∧ H q.2.1 = some (.tup (p.1.map kV)) ∧ RelV p.2 q.2.2
theorem KT.val {H : Hp} {kvs : List (List Key × V)} {xs : List (List Key × Addr × Value)} (r : KT H kvs xs) (k : List Key) : RelO (valV kvs k) ((atKey xs k).map (·.2)) := by
  induction r with
  | nil => exact True.intro
  | @cons p q ps qs h t ih =>
    obtain ⟨h1, _, h2⟩ := h
    by_cases e : p.1 = k
    · have e' : q.1 = k := h1.symm.trans e
      have b : atKey (q :: qs) k = some q.2 := by simp [atKey, List.find?_cons, e']
      rw [valV_pos e, b]; exact h2
    · have e' : ¬ q.1 = k := fun z => e (h1.trans z)
      have b : atKey (q :: qs) k = atKey qs k := by simp [atKey, List.find?_cons, e']
      rw [valV_neg e, b]; exact ih
theorem KT.repl {H : Hp} {kvs : List (List Key × V)} {xs : List (List Key × Addr × Value)} (r : KT H kvs xs) (k : List Key) {y : V} {u : Value} (ry : RelV y u) :
    KT H (kvs.map fun kv => if kv.1 = k then (kv.1, y) else kv) (xs.map (putAt k u)) := by
  induction r with
  | nil => exact .nil
  | @cons p q ps qs h t ih =>
    rw [List.map_cons, List.map_cons]
    refine .cons ?_ ih
    obtain ⟨h1, h2, h3⟩ := h
    unfold putAt
    by_cases e : p.1 = k
    · rw [if_pos e, if_pos (h1.symm.trans e)]; exact ⟨h1, h2, ry⟩
    · rw [if_neg e, if_neg (fun z => e (h1.trans z))]; exact ⟨h1, h2, h3⟩
theorem KT.put {H : Hp} {kvs : List (List Key × V)} {xs : List (List Key × Addr × Value)} (r : KT H kvs xs) (k : List Key) {b : Addr} {y : V} {u : Value} (hb : H b = some (.tup (k.map kV))) (ry : RelV y u) :
    KT H (putK kvs k y) (storedH xs k b u) := by
  have e : (kvs.any fun kv => decide (kv.1 = k)) = (atKey xs k).isSome := by
    rw [valV_any, (r.val k).isSome_eq, Option.isSome_map]
  unfold putK storedH
  rw [e]
  by_cases q : (atKey xs k).isSome = true
  · rw [if_pos q, if_pos q]; exact r.repl k ry
  · rw [if_neg q, if_neg q]; exact Paired.snoc r ⟨rfl, hb, ry⟩
theorem KT.keeps {H H' : Hp} {kvs : List (List Key × V)} {xs : List (List Key × Addr × Value)} (r : KT H kvs xs) (ht : ∀ b ys, H b = some (.tup ys) → H' b = some (.tup ys)) : KT H' kvs xs :=
  Paired.mapP r fun _ _ z => ⟨z.1, ht _ _ z.2.1, z.2.2⟩
section
variable {P : Program} {w : World} {H : Hp} {h : Heap} {a : Addr}
theorem rd_of {u : HO} (ok : HOk P w H h) (e : Rd H a u) : ObjOk P w H h a u := e.ok ok
theorem dk_rd {kvs : List (Key × V)} (ok : HOk P w H h) (e : Rd H a (.dK kvs)) : kvs.length ≤ sizeLine ∧ (a == sysModules) = false ∧ ∃ vs, KV kvs vs ∧ h.DictOf (mixKind P w) a vs :=
  show ObjOk P w H h a (.dK kvs) from rd_of ok e
theorem dk_of {kvs : List (Key × V)} (ok : HOk P w H h) (e : H a = some (.dK kvs)) : kvs.length ≤ sizeLine ∧ (a == sysModules) = false ∧ ∃ vs, KV kvs vs ∧ h.DictOf (mixKind P w) a vs := dk_rd ok (.inl e)
end
def DGet (H : Hp) (a : Addr) (y : V) (r : Option V) : Prop :=
  (∃ kvs k, Rd H a (.dK kvs) ∧ y = kV k ∧ r = valV kvs k) ∨ ∃ kvs k b, Rd H a (.dT kvs) ∧ y = .ref b ∧ H b = some (.tup (k.map kV)) ∧ r = valV kvs k
def DPut (H : Hp) (a : Addr) (y v : V) (H' : Hp) : Prop :=
  (∃ kvs k, H a = some (.dK kvs) ∧ y = kV k ∧ kvs.length < sizeLine ∧ H' = upd H a (.dK (putK kvs k v))) ∨
  ∃ kvs k b, H a = some (.dT kvs) ∧ y = .ref b ∧ H b = some (.tup (k.map kV)) ∧ kvs.length < sizeLine ∧ H' = upd H a (.dT (putK kvs k v))
theorem DGet.k {H : Hp} {a : Addr} {kvs : List (Key × V)} {k : Key} (e : H a = some (.dK kvs)) : DGet H a (kV k) (valV kvs k) := .inl ⟨kvs, k, .inl e, rfl, rfl⟩
theorem DGet.t {H : Hp} {a b : Addr} {kvs : List (List Key × V)} {k : List Key} (e : H a = some (.dT kvs)) (eb : H b = some (.tup (k.map kV))) : DGet H a (.ref b) (valV kvs k) := .inr ⟨kvs, k, b, .inl e, rfl, eb, rfl⟩
theorem DPut.k {H : Hp} {a : Addr} {kvs : List (Key × V)} {k : Key} {v : V} (e : H a = some (.dK kvs)) (hl : kvs.length < sizeLine) : DPut H a (kV k) v (upd H a (.dK (putK kvs k v))) := .inl ⟨kvs, k, e, rfl, hl, rfl⟩
theorem DPut.t {H : Hp} {a b : Addr} {kvs : List (List Key × V)} {k : List Key} {v : V} (e : H a = some (.dT kvs)) (eb : H b = some (.tup (k.map kV))) (hl : kvs.length < sizeLine) :
    DPut H a (.ref b) v (upd H a (.dT (putK kvs k v))) := .inr ⟨kvs, k, b, e, rfl, eb, hl, rfl⟩
section
variable {X : Cx} {pins : List (Addr × Obj)} {σ : St} {H : Hp} {s : Shared} {a : Addr} {y v : V} {u r : Value} {o : Option V} {A : Around} {E : Value → Shared → Prop}
theorem Inv.big (I : Inv X pins σ H s) : sysModules < s.heap.objs.size := by
  have h : mainGlobals < s.heap.objs.size := (I.mod.glob.keeps I.bk).lt
  exact Nat.lt_trans (by decide) h
theorem d_write {h' : Heap} {t' : Nat} {ob : HO} (I : Inv X pins σ H s) (mu : Mut (H a)) (hs : Heap.SameBut a s.heap h') (he : ∃ q, h'.get? a = some q) (new : ObjOk X.prog X.w (upd H a ob) h' a ob) :
    Inv X pins σ (upd H a ob) { s with heap := h', toks := t' } :=
  I.write (x := a) (e := a) mu (.inl rfl) (fun b q hb z => (hs.2 b hb).trans z) he new
theorem dk_new {P : Program} {w : World} {H' : Hp} {h' : Heap} {kvs : List (Key × V)} {vs : List (Key × Value)} (z : kvs.length ≤ sizeLine) (hd : (a == sysModules) = false) (rel : KV kvs vs) (dd : h'.DictOf (mixKind P w) a vs) :
    ObjOk P w H' h' a (.dK kvs) := ⟨z, hd, vs, rel, dd⟩
end
section
variable {X : Cx} {pins : List (Addr × Obj)} {σ : St} {H : Hp} {s : Shared} {a : Addr} {kvs : List (Key × V)} {k : Key} {u : Value} {A : Around} {E : Value → Shared → Prop}
end
def NoSl (i : Expr) : Prop := ∀ ov iv, subscripted i false ov iv = operate [ov, iv] (getItem ov iv)
def tDGet (td ty : TE) : TE := fun σ H Q => td σ H fun x H1 => ty σ H1 fun y H2 => ∃ a v, x = .ref a ∧ DGet H2 a y (some v) ∧ Q v H2
def tDIn (ty td : TE) : TE := fun σ H Q => ty σ H fun y H1 => td σ H1 fun x H2 => ∃ a o, x = .ref a ∧ DGet H2 a y o ∧ Q (.bl o.isSome) H2
def tDNotIn (ty td : TE) : TE := fun σ H Q => ty σ H fun y H1 => td σ H1 fun x H2 => ∃ a o, x = .ref a ∧ DGet H2 a y o ∧ Q (.bl (!o.isSome)) H2
def sDPut (td ty tv : TE) : TS := fun D σ H => tv σ H fun v H1 => td σ H1 fun x H2 => ty σ H2 fun y H3 => ∃ a H4, x = .ref a ∧ DPut H3 a y v H4 ∧ D.nx σ H4
def sDAug (td ty tv : TE) (rd : V → V → Hp → VK → Prop) : TS := fun D σ H => td σ H fun x H1 => ty σ H1 fun y H2 => ∃ a v, x = .ref a ∧ DGet H2 a y (some v) ∧
  tv σ H2 fun y2 H3 => rd v y2 H3 fun z H4 => ∃ H5, DPut H4 a y z H5 ∧ D.nx σ H5
def sDDel (td ty : TE) : TS := fun D σ H => td σ H fun x H1 => ty σ H1 fun y H2 => ∃ a kvs k, x = .ref a ∧ H2 a = some (.dK kvs) ∧ y = kV k ∧ (valV kvs k).isSome = true ∧ D.nx σ (upd H2 a (.dK (dropK kvs k)))
section
variable {X : Cx} {o i e value : Expr} {pos pos' tpos : Pos} {td ty tv : TE}
end
theorem dk_empty {P : Program} {w : World} {H : Hp} (h : Heap) (hb : sysModules < h.objs.size) : ObjOk P w H (h.push { cls := .type "dict", data := .dict #[] }) h.objs.size (.dK []) :=
  ⟨Nat.zero_le _, beq_eq_false_iff_ne.mpr (Ne.symm (Nat.ne_of_lt hb)), [], .nil, Heap.DictOf.new h⟩
def tDNewK : TE := fun _ H Q => ∀ p, H p = none → Q (.ref p) (upd H p (.dK []))
def tDNewT : TE := fun _ H Q => ∀ p, H p = none → Q (.ref p) (upd H p (.dT []))
section
variable {X : Cx} {pos : Pos}
end
def tPairs : List (TE × TE) → St → Hp → (List (V × V) → Hp → Prop) → Prop
  | [], _, H, Q => Q [] H
  | (tk, tv) :: r, σ, H, Q => tk σ H fun x H1 => tv σ H1 fun y H2 => tPairs r σ H2 fun ps H3 => Q ((x, y) :: ps) H3
abbrev VV : List (V × V) → List (Value × Value) → Prop := Paired fun p q => RelV p.1 q.1 ∧ RelV p.2 q.2
def PPs (X : Cx) (pos : Pos) (keys : List (Option Expr)) (values : List Expr) (trs : List (TE × TE)) : Prop :=
  ∀ (pins : List (Addr × Obj)) (s : Shared) (σ : St) (H : Hp) (Q : List (V × V) → Hp → Prop), Inv X pins σ H s → tPairs trs σ H Q →
    wpAny (model X.prog X.w) X.A (evalPairs (pairTrees keys values X.env pos)) (fun vs s' => ∃ ps H', Inv X pins σ H' s' ∧ VV ps vs ∧ Q ps H') X.xe s
theorem pps_nil {X : Cx} {pos : Pos} : PPs X pos [] [] [] := fun pins s σ H Q I h => pairTrees_nil_walk ⟨[], H, I, .nil, h⟩
theorem pps_cons {X : Cx} {pos : Pos} {k v : Expr} {ks : List (Option Expr)} {vs : List Expr} {tk tv : TE} {trs : List (TE × TE)} (hk : PE X k tk) (hv : PE X v tv) (hr : PPs X pos ks vs trs) :
    PPs X pos (some k :: ks) (v :: vs) ((tk, tv) :: trs) := fun pins s σ H Q I h =>
  pairTrees_cons_walk (thn (hk pins s σ H _ I h) fun u s1 ⟨x, H1, I1, rx, q1⟩ => thn (hv pins s1 σ H1 _ I1 q1) fun w2 s2 ⟨y, H2, I2, ry, q2⟩ =>
    thn (hr pins s2 σ H2 _ I2 q2) fun ws s3 ⟨ps, H3, I3, rel, q3⟩ => ⟨(x, y) :: ps, H3, I3, .cons ⟨rx, ry⟩ rel, q3⟩)
def mergeK (kvs more : List (Key × V)) : List (Key × V) := more.foldl (fun acc kv => putK acc kv.1 kv.2) kvs
theorem KV.merge : ∀ {more : List (Key × V)} {rs : List (Key × Value)} {kvs : List (Key × V)} {vs : List (Key × Value)}, KV more rs → KV kvs vs → KV (mergeK kvs more) (merged vs rs) := by
  intro more rs kvs vs r
  unfold KV at r
  induction r generalizing kvs vs with
  | nil => intro q; exact q
  | @cons p q ps qs h t ih =>
    intro r0
    have e : KV (putK kvs p.1 p.2) (stored vs q.1 q.2) := by
      have := r0.put p.1 h.2
      rw [← h.1]; exact this
    exact ih e
theorem length_mergeK : ∀ (more kvs : List (Key × V)), (mergeK kvs more).length ≤ kvs.length + more.length
  | [], kvs => by show kvs.length ≤ kvs.length + 0; omega
  | p :: r, kvs => by
    have h1 := length_mergeK r (putK kvs p.1 p.2)
    have h2 := length_putK kvs p.1 p.2
    show (mergeK (putK kvs p.1 p.2) r).length ≤ _
    rw [List.length_cons]; omega
theorem carries_of {P : Program} {w : World} : ∀ {kvs : List (Key × V)} {ws : List (Value × Value)}, VV (kvs.map fun kv => (kV kv.1, kv.2)) ws → ∃ rs, Carries (mixKind P w) ws rs ∧ KV kvs rs
  | [], _, r => by rw [List.map_nil] at r; cases r; exact ⟨[], True.intro, .nil⟩
  | p :: kvs, _, r => by
    rw [List.map_cons] at r
    cases r with
    | @cons a b as bs h t =>
      obtain ⟨rs, c, q⟩ := carries_of (P := P) (w := w) t
      obtain ⟨b1, b2⟩ := b
      exact ⟨(p.1, b2) :: rs, ⟨kV_is h.1, rfl, c⟩, .cons ⟨rfl, h.2⟩ q⟩
def tDisp (trs : List (TE × TE)) : TE := fun σ H Q => ∀ p, H p = none → tPairs trs σ (upd H p (.dK [])) fun ps H2 => H2 p = some (.dK []) ∧ ∃ kvs : List (Key × V), ps = kvs.map (fun kv => (kV kv.1, kv.2)) ∧ kvs.length ≤ 15 ∧ Q (.ref p) (upd H2 p (.dK (mergeK [] kvs)))
theorem pe_disp {X : Cx} {pos : Pos} {keys : List (Option Expr)} {values : List Expr} {trs : List (TE × TE)} (h : PPs X pos keys values trs) (hall : keys.all (·.isSome) = true) (hl : keys.length = values.length) (h0 : keys ≠ [])
    (h15 : keys.length ≤ 15) : PE X (.Dict keys values pos) (tDisp trs) := by
  intro pins s σ H Q I q
  have hn := I.hok.fresh (Nat.le_refl s.heap.objs.size)
  have I1 := I.laid (a := s.heap.objs.size) (o := .dK []) (h' := s.heap.push { cls := .type "dict", data := .dict #[] }) (t' := s.toks) (fun _ _ q => Heap.get?_push_of_some _ q) (Nat.le_refl _) (dk_empty s.heap I.big)
  refine wpAny_Dict_walk (knd := mixKind X.prog X.w) hall hl h0 h15 (thn (h pins _ σ _ _ I1 (q _ hn)) fun ws s2 ⟨ps, H2, I2, rel, e, kvs, ep, lk, q2⟩ => ?_)
  subst ep
  obtain ⟨rs, c, rk⟩ := carries_of (P := X.prog) (w := X.w) rel
  obtain ⟨z, hd, vs0, r0, dd⟩ := dk_of I2.hok e
  cases r0
  refine ⟨rs, c, dd, fun h' dd' hs => ⟨.ref s.heap.objs.size, _, ?_, rfl, q2⟩⟩
  have hz : (mergeK [] kvs).length ≤ sizeLine := by
    have h1 := length_mergeK kvs []
    rw [List.length_nil] at h1
    rw [sizeLine_eq]; omega
  have he : ∃ q, h'.get? s.heap.objs.size = some q := let ⟨q, _, _, hq, _⟩ := dd'; ⟨q, hq⟩
  exact d_write I2 (by rw [e]; exact True.intro) hs he (dk_new hz hd (rk.merge .nil) dd')
structure M1 (X : Cx) (o : Expr) (m : Str) (apos : Pos) (e : Expr) (cpos : Pos) : Prop where
  base : attributeBase o m X.env (eval o X.env) = eval o X.env
  few : ((backTo cpos (starEach [e] X.env)).all (fun x => !x.1) && (backToKw cpos (keywordEach [] X.env)).all (fun x => x.1.isSome)
    && decide (([e] : List Expr).length + ([] : List Keyword).length + (if ([] : List Keyword).isEmpty then 0 else 1) < 30)) = true
  line : (apos.endLine == cpos.line) = true
  trees : backTo cpos (starEach [e] X.env) = [(false, eval e X.env)]
structure M2 (X : Cx) (o : Expr) (m : Str) (apos : Pos) (e f : Expr) (cpos : Pos) : Prop where
  base : attributeBase o m X.env (eval o X.env) = eval o X.env
  few : ((backTo cpos (starEach [e, f] X.env)).all (fun x => !x.1) && (backToKw cpos (keywordEach [] X.env)).all (fun x => x.1.isSome)
    && decide (([e, f] : List Expr).length + ([] : List Keyword).length + (if ([] : List Keyword).isEmpty then 0 else 1) < 30)) = true
  line : (apos.endLine == cpos.line) = true
  trees : backTo cpos (starEach [e, f] X.env) = [(false, eval e X.env), (false, eval f X.env)]
def IsD (H : Hp) (a : Addr) : Prop := (∃ kvs, Rd H a (.dK kvs)) ∨ ∃ kvs, Rd H a (.dT kvs)
section
variable {X : Cx} {pins : List (Addr × Obj)} {σ : St} {H : Hp} {s : Shared} {a : Addr} {y d : V} {u r : Value} {o : Option V} {A : Around} {E : Value → Shared → Prop}
end
def tDGet1 (td ty : TE) : TE := fun σ H Q => td σ H fun x H1 => ∃ a, x = .ref a ∧ IsD H1 a ∧ ty σ H1 fun y H2 => ∃ o, DGet H2 a y o ∧ Q (o.getD .non) H2
def tDGet2 (td ty tx : TE) : TE := fun σ H Q => td σ H fun x H1 => ∃ a, x = .ref a ∧ IsD H1 a ∧ ty σ H1 fun y H2 => tx σ H2 fun z H3 => ∃ o, DGet H3 a y o ∧ Q (o.getD z) H3
def tDPop1 (td ty : TE) : TE := fun σ H Q => td σ H fun x H1 => ∃ a, x = .ref a ∧ IsD H1 a ∧ ty σ H1 fun y H2 => ∃ kvs k v, H2 a = some (.dK kvs) ∧ y = kV k ∧ valV kvs k = some v ∧ Q v (upd H2 a (.dK (dropK kvs k)))
def tDPop2 (td ty tx : TE) : TE := fun σ H Q => td σ H fun x H1 => ∃ a, x = .ref a ∧ IsD H1 a ∧ ty σ H1 fun y H2 => tx σ H2 fun z H3 => ∃ kvs k, H3 a = some (.dK kvs) ∧ y = kV k ∧
  (∀ v, valV kvs k = some v → Q v (upd H3 a (.dK (dropK kvs k)))) ∧ (valV kvs k = none → Q z H3)
section
variable {X : Cx} {o e f : Expr} {apos cpos : Pos} {td ty tx : TE}
end
section
variable {X : Cx} {pins : List (Addr × Obj)} {σ : St} {H : Hp} {s : Shared} {a : Addr} {kvs : List (Key × V)} {A : Around} {E : Value → Shared → Prop}
end
section
variable {X : Cx} {pins : List (Addr × Obj)} {σ : St} {H : Hp} {s : Shared} {a : Addr} {y : V} {u : Value} {A : Around} {E : Value → Shared → Prop}
end
end L2
namespace L2
open PySem PySem.Spec PyProof.Rows
section
variable {κ : Type} [DecidableEq κ]
end
end L2
namespace L2
open PySem PySem.Spec PyProof.Rows
theorem forIn_steps {α β : Type} {f : α → β → Sem (ForInStep β)} {g : β → α → β} : ∀ {l : List α} (c : β), (∀ x ∈ l, ∀ c, f x c = pure (.yield (g c x))) → forIn l c f = pure (l.foldl g c)
  | [], _, _ => rfl
  | x :: l, c, h => by
    rw [List.forIn_cons, h x (List.mem_cons_self ..), pure_bind]
    exact forIn_steps (g c x) fun y hy => h y (List.mem_cons_of_mem _ hy)
def clStep (env : Env) (acc : List (Str × Addr)) (y : Str × NameKind) : List (Str × Addr) :=
  if y.2 == .free then (match env.cells.lookup y.1 with | some c => (y.1, c) :: acc | none => acc) else acc
def clOf (env : Env) (sc : Scope) : List (Str × Addr) := sc.names.foldl (clStep env) []
theorem closure_is {env : Env} {sc : Scope} (h : ∀ y ∈ sc.names, y.2 = .free → ∃ c, env.cells.lookup y.1 = some c) : closureFor sc env = pure (clOf env sc) := by
  simp only [closureFor]
  rw [forIn_steps (g := clStep env) [] fun x hx c => ?_]
  · rfl
  · obtain ⟨n, k⟩ := x
    by_cases hk : k = .free
    · subst hk
      obtain ⟨d, hd⟩ := h _ hx rfl
      have hd' : env.cells.lookup n = some d := hd
      simp only [clStep, cellOf, hd', beq_self_eq_true, if_true, pure_bind]
    · have hb : (k == NameKind.free) = false := by simpa using hk
      simp only [clStep, hb, Bool.false_eq_true, if_false]
theorem cl_sound {env : Env} : ∀ (names : List (Str × NameKind)) (acc : List (Str × Addr)), (∀ y c, acc.lookup y = some c → env.cells.lookup y = some c) →
    ∀ y c, (names.foldl (clStep env) acc).lookup y = some c → env.cells.lookup y = some c
  | [], _, h => h
  | (n, k) :: r, acc, h => by
    refine cl_sound r _ fun y c e => ?_
    unfold clStep at e
    split at e
    · split at e
      · rename_i d hd
        rw [List.lookup_cons] at e
        cases hy : y == n with
        | true =>
          rw [hy] at e
          have hy' : y = n := eq_of_beq hy
          cases e
          rw [hy']
          exact hd
        | false => rw [hy] at e; exact h y c e
      · exact h y c e
    · exact h y c e
theorem cl_keep {env : Env} : ∀ (names : List (Str × NameKind)) (acc : List (Str × Addr)) (y : Str), (∃ c, acc.lookup y = some c) → ∃ c, (names.foldl (clStep env) acc).lookup y = some c
  | [], _, _, h => h
  | (n, k) :: r, acc, y, h => by
    refine cl_keep r _ y ?_
    unfold clStep
    split
    · split
      · rename_i d hd
        rw [List.lookup_cons]
        cases hy : y == n with
        | true => exact ⟨_, rfl⟩
        | false => exact h
      · exact h
    · exact h
theorem cl_has {env : Env} : ∀ (names : List (Str × NameKind)) (acc : List (Str × Addr)) (y : Str), names.lookup y = some .free → (∃ c, env.cells.lookup y = some c) → ∃ c, (names.foldl (clStep env) acc).lookup y = some c
  | [], _, _, h, _ => by simp at h
  | (n, k) :: r, acc, y, h, hc => by
    rw [List.lookup_cons] at h
    cases hy : y == n with
    | true =>
      rw [hy] at h
      cases h
      have hy' : y = n := eq_of_beq hy
      subst hy'
      obtain ⟨c, hc⟩ := hc
      refine cl_keep r _ y ?_
      refine ⟨c, ?_⟩
      unfold clStep
      rw [if_pos (by rfl)]
      show List.lookup y (match env.cells.lookup y with | some c => (y, c) :: acc | none => acc) = _
      rw [hc]
      simp
    | false =>
      rw [hy] at h
      exact cl_has r _ y h hc
theorem relabel_kind {env : Env} : ∀ {names : List (Str × NameKind)} {y : Str} {k : NameKind},
    (names.map fun (n, k) => if (k == NameKind.free && env.scope.kind == .function && env.kindOf n == some .cell) then (n, NameKind.cell) else (n, k)).lookup y = some k →
      names.lookup y = some k ∨ (names.lookup y = some .free ∧ k = .cell)
  | [], _, _, h => by simp at h
  | (n, k0) :: r, y, k, h => by
    have ih := @relabel_kind env r y k
    rw [List.map_cons] at h
    by_cases hc : (k0 == NameKind.free && env.scope.kind == .function && env.kindOf n == some .cell) = true
    · have h' : List.lookup y ((n, NameKind.cell) :: (r.map fun (n, k) => if (k == NameKind.free && env.scope.kind == .function && env.kindOf n == some .cell) then (n, NameKind.cell) else (n, k))) = some k := by
        have e : (if (k0 == NameKind.free && env.scope.kind == .function && env.kindOf n == some .cell) = true then (n, NameKind.cell) else (n, k0)) = (n, NameKind.cell) := if_pos hc
        rw [← e]
        exact h
      rw [List.lookup_cons] at h' ⊢
      cases hy : y == n with
      | true =>
        rw [hy] at h'
        cases h'
        have hk : k0 = .free := by
          rw [Bool.and_eq_true, Bool.and_eq_true] at hc
          exact eq_of_beq hc.1.1
        exact .inr ⟨by rw [hk], rfl⟩
      | false => rw [hy] at h'; exact ih h'
    · have h' : List.lookup y ((n, k0) :: (r.map fun (n, k) => if (k == NameKind.free && env.scope.kind == .function && env.kindOf n == some .cell) then (n, NameKind.cell) else (n, k))) = some k := by
        have e : (if (k0 == NameKind.free && env.scope.kind == .function && env.kindOf n == some .cell) = true then (n, NameKind.cell) else (n, k0)) = (n, k0) := if_neg hc
        rw [← e]
        exact h
      rw [List.lookup_cons] at h' ⊢
      cases hy : y == n with
      | true => rw [hy] at h'; exact .inl h'
      | false => rw [hy] at h'; exact ih h'
def hideStr (y : Str) : Str := ⟨#[46] ++ y.cps⟩
def hide (vs : List Str) (y : Str) : Str := if vs.contains y = true then hideStr y else y
structure CompScope (X : Cx) (vs : List Str) (sc : Scope) : Prop where
  kind : sc.kind = .function
  cell : ∀ y ∈ sc.names, y.2 ≠ .cell
  locs : ∀ y ∈ sc.names, y.2 = .local → sc.names.lookup y.1 = some .local
  own : ∀ y ∈ X.N.map (hide vs), sc.names.lookup y ≠ some .local
  hid : ∀ y ∈ vs, sc.names.lookup (hideStr y) = none
  nd : (vs ++ X.N.map (hide vs)).Nodup
  free : ∀ y ∈ sc.names, y.2 = .free → X.env.kindOf y.1 = some .cell ∨ X.env.kindOf y.1 = some .free
def cxC (X : Cx) (vs : List Str) (sc : Scope) (C : Addr) (s : Shared) (H : Hp) (fp : List Addr) : Cx where
  prog := X.prog
  w := X.w
  K := X.K
  mg := X.mg
  base := X.base
  A := X.A
  N := vs ++ X.N.map (hide vs)
  s₀ := s
  H₀ := H
  env := compEnvC sc (clOf X.env sc) C X.env
  outer := X.stack
  stack := X.stack
  ex := fp
  fn := fun _ => false
  calm := X.calm
  pn := X.pn
  xe := fun _ _ => False
def compSt (vs : List Str) (σ : St) : St := List.replicate vs.length none ++ σ
section
variable {X : Cx} {pins : List (Addr × Obj)} {σ : St} {H : Hp} {s : Shared} {vs : List Str} {sc : Scope}
theorem comp_inv {C : Addr} {fp : List Addr} {h' : Heap} {tk : Nat} {m0 : Str → Option Value} (S : CompScope X vs sc) (I : Inv X pins σ H s) (hf : ∀ b ∈ fp, FpOk X pins H b) (ho : ∀ b ∈ fp, ∃ o, s.heap.get? b = some o)
    (k : ∀ b o, s.heap.get? b = some o → h'.get? b = some o) (hns : h'.Ns C m0) (hC : s.heap.objs.size ≤ C) : Inv (cxC X vs sc C s H fp) pins (compSt vs σ) H { s with heap := h', toks := tk } := by
  have sound : ∀ y c, (clOf X.env sc).lookup y = some c → X.env.cells.lookup y = some c := cl_sound sc.names [] fun y c e => by simp at e
  have fr : ∀ y, sc.names.lookup y = some .free → X.env.kindOf y = some .cell ∨ X.env.kindOf y = some .free := fun y e => S.free (y, .free) (PySem.mem_of_lookup e) rfl
  have frc : ∀ y, (X.env.kindOf y = some .cell ∨ X.env.kindOf y = some .free) → ∃ c, X.env.cells.lookup y = some c := fun y e => I.ok.has y e
  have kinds : ∀ {y : Str} {kd : NameKind}, (relabel sc X.env).names.lookup y = some kd → kd = .cell ∨ kd = .free → sc.names.lookup y = some .free := fun {y kd} e hk => by
    rcases relabel_kind (names := sc.names) e with z | ⟨z, _⟩
    · rcases hk with q | q
      · subst q; exact absurd rfl (S.cell _ (PySem.mem_of_lookup z))
      · subst q; exact z
    · exact z
  have has : ∀ y, sc.names.lookup y = some .free → ∃ c, (clOf X.env sc).lookup y = some c := fun y e => cl_has sc.names [] y e (frc y (fr y e))
  have hlt : ∀ y c, X.env.cells.lookup y = some c → c < s.heap.objs.size := fun y c e => let ⟨_, z⟩ := I.cell y c e; z.lt
  have kc : ∀ {c v}, s.heap.IsCell c v → h'.IsCell c v := fun {c v} ⟨o, e, d⟩ => ⟨o, k _ _ e, d⟩
  refine ⟨⟨I.ok.mod, S.kind, I.ok.glob, I.ok.blt, hC, fun y z c h1 h2 => I.ok.inj y z c (sound y c h1) (sound z c h2), fun y hy => ?_, fun y c z _ => (nomatch z), I.ok.hd, I.ok.frames, .inl rfl, fun b hb => ⟨?_, fun y c e => ?_⟩, I.bs, Nat.le_trans I.ok.bsz I.sz, fun b o e hb => ?_, fun b hb hs => ?_, I.stack, I.stkFree⟩,
    rfl, I.bare, Un.kept k, ⟨m0, hns, fun i y v e1 e2 e3 => ?_⟩, fun y c e => ?_, I.hok.fresh hC, fun y c e => I.freeC y c (sound y c e), fun p hp => ?_, I.hok.kept k, ?_⟩
  · have hy' : (relabel sc X.env).names.lookup y = some .cell ∨ (relabel sc X.env).names.lookup y = some .free := hy
    rcases hy' with z | z
    · exact has y (kinds z (.inl rfl))
    · exact has y (kinds z (.inr rfl))
  · obtain ⟨o, e⟩ := ho b hb
    exact Nat.ne_of_lt (Nat.lt_of_lt_of_le (Heap.lt_size e) hC)
  · exact (hf b hb).2.2.2.2.1 y c (sound y c e)
  · obtain ⟨_, _, _, z, _⟩ := hf b hb
    rcases z with z | z
    · exact I.ok.noex b o e z
    · exact absurd (Nat.lt_of_lt_of_le (Heap.lt_size (I.ok.bs b o e).1) z) (Nat.lt_irrefl _)
  · obtain ⟨_, h1, h2, _⟩ := hf b hb
    rcases List.mem_cons.mp (I.stkSub b hs) with z | z
    · exact h1 z
    · exact h2 z
  · have e1' : (vs ++ X.N.map (hide vs))[i]? = some y := e1
    have e2' : (List.replicate vs.length none ++ σ)[i]? = some (some v) := e2
    have hi : vs.length ≤ i := by
      by_cases z : i < vs.length
      · rw [List.getElem?_append_left (by simpa using z), List.getElem?_replicate] at e2'
        split at e2' <;> cases e2'
      · omega
    rw [List.getElem?_append_right hi] at e1'
    rw [List.getElem?_append_right (by simpa using hi), List.length_replicate] at e2'
    have yN : y ∈ X.N.map (hide vs) := List.mem_of_getElem? e1'
    have e3' : (relabel sc X.env).names.lookup y = some .local ∨ (relabel sc X.env).names.lookup y = some .cell ∨ (relabel sc X.env).names.lookup y = some .free := e3
    have isf : sc.names.lookup y = some .free := by
      rcases e3' with z | z | z
      · rcases relabel_kind (names := sc.names) z with q | ⟨_, q⟩
        · exact absurd q (S.own y yN)
        · cases q
      · exact kinds z (.inl rfl)
      · exact kinds z (.inr rfl)
    have e1' : X.N[i - vs.length]? = some y := by
      rw [List.getElem?_map] at e1'
      cases e : X.N[i - vs.length]? with
      | none => rw [e] at e1'; cases e1'
      | some y0 =>
        rw [e] at e1'
        have e2 : hide vs y0 = y := Option.some.inj e1'
        unfold hide at e2
        split at e2
        · rename_i hc
          rw [← e2, S.hid y0 (by simpa using hc)] at isf
          cases isf
        · rw [e2]
    have ok := fr y isf
    obtain ⟨m, _, hl⟩ := I.loc
    obtain ⟨u, r, lk⟩ := hl (i - vs.length) y v e1' e2' (.inr ok)
    refine ⟨u, r, ?_⟩
    rcases lk with ⟨q, _⟩ | ⟨_, c, ec, hc⟩
    · rcases ok with z | z <;> rw [z] at q <;> cases q
    · obtain ⟨c', e'⟩ := has y isf
      have : c' = c := Option.some.inj ((sound y c' e').symm.trans ec)
      subst this
      refine .inr ⟨?_, c', e', kc hc⟩
      rcases e3' with z | z | z
      · rcases relabel_kind (names := sc.names) z with q | ⟨_, q⟩
        · exact absurd q (S.own y yN)
        · cases q
      · exact .inl z
      · exact .inr z
  · obtain ⟨v, z⟩ := I.cell y c (sound y c e)
    exact ⟨v, kc z⟩
  · obtain ⟨e, n, ne, nf, d⟩ := I.pin p hp
    refine ⟨k _ _ e, n, Nat.ne_of_lt (Nat.lt_of_lt_of_le (Heap.lt_size e) hC), fun z => ?_, d⟩
    rcases List.mem_cons.mp (I.stkSub p.1 z) with q | q
    · exact ne q
    · exact nf q
  · show (List.replicate vs.length none ++ σ).length = (vs ++ X.N.map (hide vs)).length
    rw [List.length_append, List.length_append, List.length_replicate, List.length_map, I.len]
theorem Inv.adopt {D : Addr} {ys : List V} {its : List Value} {n : Nat} (I : Inv X pins σ H s) (hz : ys.length ≤ sizeLine) (hv : Vals ys its) (hD : H D = none) (e : s.heap.get? D = some { cls := .type "list", data := .seq its.toArray n })
    (h0 : X.s₀.heap.objs.size ≤ D) (h1 : D ≠ X.env.locals) (h2 : ∀ x c, X.env.cells.lookup x = some c → c ≠ D) (h3 : ∀ p ∈ X.pn ++ pins, p.1 ≠ D) : Inv X pins σ (upd H D (.lst ys)) s := by
  have nd : ∀ b u, H b = some u → b ≠ D := fun b u q z => by rw [z, hD] at q; cases q
  have q := I.step (h' := s.heap) (H' := upd H D (.lst ys)) (g' := s.gens) (t' := s.toks) (d' := s.drawn) (ch := [D]) (fun b hb => by
      have z : b = D := by simpa using hb
      subst z
      exact ⟨.inr h0, h1, h2, h3⟩)
    (fun b o _ _ _ e _ => e) (fun b o _ _ _ e _ => ⟨o.slots, e⟩) (fun b o hb _ n => by rw [upd_ne (fun z => hb (by simp [z]))]; exact n) (fun b o _ e => ⟨o, e⟩)
    (fun b xs q => by rw [upd_ne (nd b _ q)]; exact q) (fun b o u q => by rw [upd_ne (nd b _ q)]; exact q) (fun b ps q => ⟨#[], by rw [upd_ne (nd b _ q), q]; simp⟩) (fun m hm => hm) (fun b u q => ?_) I.bare
  · exact q
  · by_cases hb : b = D
    · subst hb
      rw [upd_same] at q
      cases q
      exact ⟨hz, its, n, hv, e⟩
    · rw [upd_ne hb] at q
      exact (I.hok b u q).stay (fun _ _ _ z => z) (fun c z => by rw [upd_ne (nd c _ z)]; exact z) fun c xs z => by rw [upd_ne (nd c _ z)]; exact z
end
def PTs (X : Cx) (ifs : List Expr) (t : TT) : Prop :=
  ∀ (pins : List (Addr × Obj)) (s : Shared) (σ : St) (H : Hp) (Q : Bool → Hp → Prop), Inv X pins σ H s → t σ H Q →
    wpAny (model X.prog X.w) X.A (forIn ifs true fun c r => if r = true then do let ok ← isTrue c X.env (eval c X.env); pure (ForInStep.yield ok) else pure (ForInStep.yield r)) (TP X pins σ Q) X.xe s
def tYes : TT := fun _ H Q => Q true H
theorem yes_of {σ : St} {H : Hp} {F G : Hp → Prop} (h : F H) : tYes σ H (fun b H3 => if b = true then F H3 else G H3) := by
  show (if true = true then F H else G H)
  exact iteT h
theorem pts_nil {X : Cx} : PTs X [] tYes := fun _ _ _ H _ I h => wpAny_pure ⟨H, I, h⟩
theorem pts_one {X : Cx} {c : Expr} {t : TT} (h : PT X c t) : PTs X [c] t := fun pins s σ H Q I q => wpAny_tests_one (h pins s σ H Q I q)
theorem comp_loop {prog : Program} {w : World} {A : Around} {R : Result → Shared → Prop} {s : Shared} {elt tg iter : Expr} {ifs : List Expr} {sc : Scope} {pos : Pos} {it acc : Value} {env : Env} (Iv : Nat → Shared → Prop)
    (turn : ∀ n s, Iv n s → wpAny (model prog w) A (pyNext it) (fun r s1 => match r with
      | none => R (.ok .next) s1
      | some v => wpAny (model prog w) A (letOwnedTupleGo tg it v) (fun _ s1 => wpAny (model prog w) A (assign tg env v) (fun _ s2 =>
          wpAny (model prog w) A (forIn ifs true fun c r => if r = true then do let ok ← isTrue c env (eval c env); pure (ForInStep.yield ok) else pure (ForInStep.yield r)) (fun ok s3 =>
            if ok = true then wpAny (model prog w) A (eval elt env) (fun y s4 => wpAny (model prog w) A (call (.builtin "list.append") [acc, y]) (fun _ s5 => ∃ m, m < n ∧ Iv m s5) (fun _ _ => False) s4) (fun _ _ => False) s3
            else ∃ m, m < n ∧ Iv m s3) (fun _ _ => False) s2) (fun _ _ => False) s1) (fun _ _ => False) s1) (fun _ _ => False) s)
    (n : Nat) (h : Iv n s) : codeAny (model prog w) A (.compLoop (.ListComp elt [⟨tg, iter, ifs, 0⟩] sc pos) 0 it acc env) R s := by
  refine codeAny_loop rfl Iv (fun n s hI => ?_) n h
  show wpAny _ A ((compTurn (.ListComp elt [⟨tg, iter, ifs, 0⟩] sc pos) 0 it acc env).onRaise (fun x => do noteFrame x env; theTreesLotGoes x)) _ _ s
  refine wpAny_noted (wpAny_mono (E := fun _ _ => False) ?_ (fun _ _ q => q) fun _ _ z => z.elim)
  rw [compTurn_list]
  refine wpAny_bind (wpAny_standAt (wpAny_bind (thn (turn n s hI) fun r s1 h1 => ?_)))
  cases r with
  | none => exact wpAny_pure h1
  | some v =>
    refine wpAny_bind (thn h1 fun _ s2 h2 => wpAny_bind (thn h2 fun _ s3 h3 => wpAny_bind (thn h3 fun ok s4 h4 => ?_)))
    cases ok with
    | false => exact wpAny_pure ⟨rfl, h4⟩
    | true => exact wpAny_bind (wpAny_bind (thn h4 fun y s5 h5 => wpAny_bind (thn h5 fun _ s6 h6 => wpAny_pure (wpAny_pure ⟨rfl, h6⟩))))
def Keep0 (σ σ' : St) : Prop := ∀ (i : Nat) v, σ[i]? = some (some v) → σ'[i]? = some (some v)
theorem keep_one {σ : St} {x : Option V} : Keep0 (none :: σ) (x :: σ) := fun i v e => by
  cases i with
  | zero => cases e
  | succ i => exact e
theorem keep_two {σ : St} {x y : Option V} : Keep0 (none :: none :: σ) (x :: y :: σ) := fun i v e => by
  match i, e with
  | 0, e => cases e
  | 1, e => cases e
  | _ + 2, e => exact e
section
variable {X : Cx} {pins : List (Addr × Obj)} {σ : St} {H : Hp} {s : Shared} {vs : List Str} {sc : Scope} {tg elt iter : Expr} {ifs : List Expr} {pos : Pos} {g : TG} {tt : TT} {te : TE}
def CompW (vs : List Str) (g : TG) (tt : TT) (te : TE) (σ : St) (J : It) (H : Hp) (Fin : List V → Hp → Prop) : Prop :=
  ∃ W : Nat → Nat → List V → Hp → Prop, (∃ m, W 0 m [] H) ∧ ∀ i m ys H, W i m ys H →
    (J.stop i H ∧ ys.length ≤ sizeLine ∧ Fin ys H) ∨ (J.go i H ∧ ys.length < sizeLine ∧ ∃ N : List V → Hp → Prop, (∀ zs H', N zs H' → ∃ m', m' < m ∧ W (i + 1) m' zs H') ∧
      ∀ v H', J.yld i H v H' → g v (compSt vs σ) H' fun σ2 H2 => Keep0 (compSt vs σ) σ2 ∧ tt σ2 H2 fun b H3 => if b = true then te σ2 H3 fun y H4 => N (ys ++ [y]) H4 else N ys H3)
theorem comp_block {J : It} {fp : List Addr} {it : Addr} {tn : Nat → Heap → Prop} {E : Value → Shared → Prop} {RR : Value → Addr → Result → Shared → Prop} {Fin : List V → Hp → Prop}
    (S : CompScope X vs sc) (hc : X.calm = true) (hg : ∀ C s H fp, PG (cxC X vs sc C s H fp) tg g) (ht : ∀ C s H fp, PTs (cxC X vs sc C s H fp) ifs tt) (he : ∀ C s H fp, PE (cxC X vs sc C s H fp) elt te)
    (I : Inv X pins σ H s) (T : Turn X.prog X.w X.K tg J fp it tn) (st : tn 0 s.heap) (hf : ∀ b ∈ fp, FpOk X pins H b) (hW : CompW vs g tt te σ J H Fin)
    (hRR : ∀ D C s' H' ys m', Inv X pins σ (upd H' D (.lst ys)) s' → H' D = none → FpOk X pins (upd H' D (.lst ys)) C → s'.heap.Ns C m' → Fin ys H' → RR (.ref D) C (.ok .next) s') :
    wpAny (model X.prog X.w) X.A (newList []) (fun acc s3 => wpAny (model X.prog X.w) X.A (newFunctionEnv sc X.env.globals (clOf X.env sc) [] X.env.qual none .none (some X.env)) (fun cenv s4 =>
      codeAny (model X.prog X.w) X.A (.compStart (.ListComp elt [⟨tg, iter, ifs, 0⟩] sc pos) 0 (.ref it) acc { cenv with scope := relabel sc X.env }) (RR acc cenv.locals) s4) E s3) E s := by
  obtain ⟨W, ⟨m0, w0⟩, turn⟩ := hW
  refine wpAny_newObj_type (wpAny_newFunctionEnv S.cell (by intro y hy; simp at hy) (fun h1 hns hsb => ?_) S.kind)
  dsimp only at hns hsb ⊢
  generalize hH2 : s.heap.push { cls := .type "list", dict := none, data := .seq ([] : List Value).toArray } = H2 at hns hsb ⊢
  have hC : H2.objs.size = s.heap.objs.size + 1 := by rw [← hH2, Heap.size_push]
  generalize hCe : H2.objs.size = C at hns hsb hC ⊢
  generalize hDe : s.heap.objs.size = D at hC ⊢
  have hDC : D ≠ C := by omega
  have below : ∀ b o, s.heap.get? b = some o → b ≠ D ∧ b ≠ C := fun b o e => by
    have z : b < s.heap.objs.size := Heap.lt_size e
    rw [hDe] at z
    exact ⟨Nat.ne_of_lt z, Nat.ne_of_lt (by rw [hC]; exact Nat.lt_succ_of_lt z)⟩
  have old : ∀ b o, s.heap.get? b = some o → h1.get? b = some o := fun b o e => hsb.extBut b o (below b o e).2 (Heap.get?_push_of_some _ (hH2 ▸ Heap.get?_push_of_some _ e))
  have hD1 : h1.get? D = some { cls := .type "list", data := .seq ([] : List Value).toArray } :=
    hsb.extBut _ _ hDC (Heap.get?_push_of_some _ (by rw [← hH2, ← hDe]; exact Heap.get?_push_size _ rfl))
  have hobj : ∀ b ∈ fp, ∃ o, s.heap.get? b = some o := fun b hb => let ⟨o, e, _⟩ := T.obj 0 _ st b hb; ⟨o, e⟩
  have fne : ∀ b ∈ fp, b ≠ D ∧ b ≠ C := fun b hb => let ⟨o, e⟩ := hobj b hb; below b o e
  -- the frame facts of D and C, from the state ahead
  have fD : ∀ H', H' D = none → FpOk X pins H' D := fun H' n => I.fpOk (by omega) n
  have fC : ∀ H', H' C = none → FpOk X pins H' C := fun H' n => I.fpOk (by omega) n
  have Dpn : ∀ p ∈ X.pn ++ pins, p.1 ≠ D := fun p hp => (below _ _ (I.pin p hp).1).1
  have cells : ∀ y c, (clOf X.env sc).lookup y = some c → c ≠ D := fun y c e => by
    have e' := cl_sound sc.names [] (fun y c e => by simp at e) y c e
    obtain ⟨v, z⟩ := I.cell y c e'
    have z' : c < s.heap.objs.size := z.lt
    rw [hDe] at z'
    exact Nat.ne_of_lt z'
  have nfs : ∀ b, b ∈ frs X.stack → ∃ o, s.heap.get? b = some o := fun b hb => let ⟨_, o, ho, _⟩ := I.stack.mem hb; ⟨o, ho⟩
  have Dfs : D ∉ frs X.stack := fun z => let ⟨o, e⟩ := nfs D z; (below _ _ e).1 rfl
  -- an iterator's objects, in the block
  have fpC : ∀ {pl : List (Addr × Obj)} {H' : Hp}, (∀ p ∈ pl, p.1 = D) → (∀ b ∈ fp, H' b = none) → ∀ b ∈ fp, FpOk (cxC X vs sc C s H fp) (pins ++ pl) H' b := fun {pl H'} hpl hn b hb => by
    obtain ⟨_, q1, q2, q3, q4, q5⟩ := hf b hb
    refine ⟨hn b hb, (fne b hb).2, fun z => ?_, .inl hb, fun y c e => q4 y c (cl_sound sc.names [] (fun y c e => by simp at e) y c e), fun p hp => ?_⟩
    · rcases List.mem_cons.mp (I.stkSub b z) with y | y
      · exact q1 y
      · exact q2 y
    · rcases List.mem_append.mp hp with z | z
      · exact q5 p (List.mem_append_left _ z)
      · rcases List.mem_append.mp z with y | y
        · exact q5 p (List.mem_append_right _ y)
        · rw [hpl p y]; exact Ne.symm (fne b hb).1
  have loop : ∀ s3 : Shared, s3 = { s with heap := h1, toks := s.toks + ([] : List (Str × Value)).length } →
      codeAny (model X.prog X.w) X.A (.compLoop (.ListComp elt [⟨tg, iter, ifs, 0⟩] sc pos) 0 (.ref it) (.ref D) (compEnvC sc (clOf X.env sc) C X.env)) (RR (.ref D) C) s3 := by
    rintro s3 rfl
    have I0 : Inv (cxC X vs sc C s H fp) pins (compSt vs σ) H { s with heap := h1, toks := s.toks + ([] : List (Str × Value)).length } := comp_inv S I hf hobj old hns (by omega)
    refine comp_loop (fun n s' => ∃ i ys its no H', Inv (cxC X vs sc C s H fp) pins (compSt vs σ) H' s' ∧ tn i s'.heap ∧ (∀ b ∈ fp, H' b = none) ∧ H' D = none ∧
      s'.heap.get? D = some { cls := .type "list", data := .seq its.toArray no } ∧ Vals ys its ∧ W i n ys H') ?_ m0
      ⟨0, [], [], 0, H, I0, T.keep 0 _ _ st fun b hb o e => old b o e, fun b hb => (hf b hb).1, I.hok.fresh (by omega), hD1, .nil, w0⟩
    rintro n s' ⟨i, ys, its, no, H', I1, st1, fr1, dn1, dl1, va1, w1⟩
    -- the list is pinned through the turn
    have pinD : Inv (cxC X vs sc C s H fp) (pins ++ [(D, { cls := .type "list", data := .seq its.toArray no })]) (compSt vs σ) H' s' := I1.pins_of fun p hp => by
      rcases List.mem_append.mp hp with z | z
      · exact I1.pin p (List.mem_append_right _ z)
      · have e : p = (D, { cls := .type "list", data := .seq its.toArray no }) := by simpa using z
        subst e
        exact ⟨dl1, dn1, hDC, Dfs, fun v z => by have z' : Data.seq _ _ = Data.cell v := z; cases z'⟩
    have onlyD : ∀ p ∈ [((D, { cls := .type "list", data := .seq its.toArray no }) : Addr × Obj)], p.1 = D := fun p hp => by
      have e : p = (D, { cls := .type "list", data := .seq its.toArray no }) := by simpa using hp
      rw [e]
    rcases turn i n ys H' w1 with ⟨stop, hz, fin⟩ | ⟨go, hz, N, hN, step⟩
    · refine thn (T.done (cxC X vs sc C s H fp) rfl rfl rfl hc i _ s' _ H' (fun _ _ => False) pinD (fpC onlyD fr1) st1 stop) fun r s4 ⟨hr, I4⟩ => ?_
      subst hr
      have d4 : s4.heap.get? D = some { cls := .type "list", data := .seq its.toArray no } := (I4.pin (D, _) (List.mem_append_right _ (List.mem_append_right _ (List.mem_cons_self ..)))).1
      have Io : Inv X pins σ H' s4 := I.call' (H' := H') (ch := fp) I4.os I4.base I4.hok I4.bare fun b hb => by
        obtain ⟨_, q1, _, q3, q4, q5⟩ := hf b hb
        exact ⟨q3, q1, q4, q5⟩
      obtain ⟨_, a1, _, a3, a4, a5⟩ := fD H' dn1
      have Ia := Io.adopt hz va1 dn1 d4 (Nat.le_trans I.sz (by omega)) a1 a4 a5
      obtain ⟨m4, ns4, _⟩ := I4.loc
      refine hRR D C s4 H' ys m4 Ia dn1 (fC _ ?_) ns4 fin
      rw [upd_ne (Ne.symm hDC)]
      exact I4.free
    · refine thn (T.item (cxC X vs sc C s H fp) rfl rfl rfl hc i _ s' _ H' (fun _ _ => False) pinD (fpC onlyD fr1) st1 go) fun r s4 ⟨u, hr, h4⟩ => ?_
      subst hr
      refine thn h4 fun _ s5 ⟨x, H5, I5, r5, y5, st5, fr5⟩ => ?_
      have I5' := I5.pinned (fpC onlyD fr5) (T.obj _ _ st5)
      refine thn (hg C s H fp _ s5 _ H5 x u _ I5' r5 (step x H5 y5)) fun _ s6 ⟨σ6, H6, I6, k6, q6⟩ => ?_
      refine thn (ht C s H fp _ s6 σ6 H6 _ I6 q6) fun ok s7 ⟨H7, I7, q7⟩ => ?_
      -- back at the head of the loop
      have len6 : (compSt vs σ).length = σ6.length := by rw [I1.len, I6.len]
      have pinned : ∀ {H8 : Hp} {s8 : Shared}, Inv (cxC X vs sc C s H fp) (pins ++ [(D, { cls := .type "list", data := .seq its.toArray no })] ++ pinsAt fp s5.heap) σ6 H8 s8 →
          tn (i + 1) s8.heap ∧ (∀ b ∈ fp, H8 b = none) ∧ H8 D = none ∧ s8.heap.get? D = some { cls := .type "list", data := .seq its.toArray no } := fun {H8 s8} I8 => by
        refine ⟨T.keep _ _ _ st5 fun b hb o e => (I8.pin (b, o) (List.mem_append_right _ (List.mem_append_right _ (mem_pinsAt hb e)))).1, fun b hb => ?_, ?_, ?_⟩
        · obtain ⟨o, e, d⟩ := T.obj _ _ st5 b hb
          exact (I8.pin (b, o) (List.mem_append_right _ (List.mem_append_right _ (mem_pinsAt hb e)))).2.1
        · exact (I8.pin (D, _) (List.mem_append_right _ (List.mem_append_left _ (List.mem_append_right _ (List.mem_cons_self ..))))).2.1
        · exact (I8.pin (D, _) (List.mem_append_right _ (List.mem_append_left _ (List.mem_append_right _ (List.mem_cons_self ..))))).1
      cases ok with
      | false =>
        rw [if_neg (by decide)] at q7 ⊢
        obtain ⟨m', hm, w7⟩ := hN _ _ q7
        obtain ⟨a1, a2, a3, a4⟩ := pinned I7
        exact ⟨m', hm, i + 1, ys, its, no, H7, (I7.unpinned.unpinned).weak len6 k6, a1, a2, a3, a4, va1, w7⟩
      | true =>
        rw [if_pos rfl] at q7 ⊢
        refine thn (he C s H fp _ s7 σ6 H7 _ I7 q7) fun yv s8 ⟨y, H8, I8, r8, n8⟩ => ?_
        obtain ⟨m', hm, w8⟩ := hN _ _ n8
        obtain ⟨a1, a2, a3, a4⟩ := pinned I8
        have szI : its.toArray.size ≤ sizeLine := by
          have := va1.length
          rw [List.size_toArray]
          omega
        refine wpAny_list_append_plain ⟨no, a4⟩ (fun h' pl sb => ?_) szI
        obtain ⟨no', pl'⟩ := pl
        have I9 : Inv (cxC X vs sc C s H fp) pins σ6 H8 { s8 with heap := h' } := (I8.unpinned.unpinned).turned (t' := s8.toks) (it := D) (fun b o hb e => (sb.2 b hb).trans e) a3 hDC (.inr (Nat.le_of_eq hDe)) cells Dpn
        refine ⟨m', hm, i + 1, ys ++ [y], its ++ [yv], no', H8, I9.weak len6 k6, T.keep _ _ _ a1 fun b hb o e => (sb.2 b (fne b hb).1).trans e, a2, a3, ?_, va1.append (.cons r8 .nil), w8⟩
        rw [pl']
        simp
  exact codeAny_compStart_list (loop _ rfl) (T.self _ 0 _ _ _ (T.keep 0 _ _ st fun b hb o e => old b o e) (loop _ rfl))
def tComp (vs : List Str) (wi : TI) (g : TG) (tt : TT) (te : TE) : TE := fun σ H Q => wi σ H fun J H1 => CompW vs g tt te σ J H1 fun ys H' => ∀ p, H' p = none → Q (.ref p) (upd H' p (.lst ys))
theorem CompScope.clos {pins : List (Addr × Obj)} {σ : St} {H : Hp} {s : Shared} (S : CompScope X vs sc) (I : Inv X pins σ H s) : closureFor sc X.env = pure (clOf X.env sc) :=
  closure_is fun y hy hk => I.ok.has y.1 (S.free y hy hk)
theorem pe_comp {wi : TI} (S : CompScope X vs sc) (hc : X.calm = true) (hi : PI X tg iter wi) (hg : ∀ C s H fp, PG (cxC X vs sc C s H fp) tg g) (ht : ∀ C s H fp, PTs (cxC X vs sc C s H fp) ifs tt)
    (he : ∀ C s H fp, PE (cxC X vs sc C s H fp) elt te) (hs : ∀ x, foldedSetIterable iter X.env x = pure x := by intro _; rfl) : PE X (.ListComp elt [⟨tg, iter, ifs, 0⟩] sc pos) (tComp vs wi g tt te) := by
  intro pins s σ H Q I h
  rw [eval_ListComp]
  refine wpAny_comprehension_free (use := none) rfl hs (S.clos I) S.kind S.locs ?_
  refine thn (hi pins s σ H _ I h) fun v s1 h1 => thn h1 fun itv s2 h2 => ?_
  obtain ⟨it, fp, tn, J, H2, e, I2, T, st2, f2, hW⟩ := h2
  subst e
  refine comp_block (RR := fun acc C => compPost (model X.prog X.w) X.A X.xe none (EP X pins σ Q) acc C) S hc hg ht he I2 T st2 f2 hW fun D C s' H' ys m' I' hD fC ns fin => ?_
  obtain ⟨c0, c1, c2, c3, c4, c5⟩ := fC
  refine ⟨m', ns, fun h' sb => ⟨.ref D, _, ?_, rfl, fin D hD⟩⟩
  exact I'.turned (t' := s'.toks) (it := C) (fun b o hb e => (sb.2 b hb).trans e) c0 c1 c3 c4 c5
theorem pg_own {x : Str} {p : Pos} (S : CompScope X [x] sc) (hx : sc.names.lookup x = some .local) : ∀ C s H fp, PG (cxC X [x] sc C s H fp) (.Name x p) (gName 0) := fun C s H fp =>
  pg_name S.nd rfl (.inl (lookup_relabel_local hx)) (.inr (lookup_relabel_local hx))
theorem pe_comp1 {wi : TI} {x : Str} {p : Pos} (S : CompScope X [x] sc) (hc : X.calm = true) (hx : sc.names.lookup x = some .local) (hi : PI X (.Name x p) iter wi) (ht : ∀ C s H fp, PTs (cxC X [x] sc C s H fp) ifs tt)
    (he : ∀ C s H fp, PE (cxC X [x] sc C s H fp) elt te) (hs : ∀ x, foldedSetIterable iter X.env x = pure x := by intro _; rfl) : PE X (.ListComp elt [⟨.Name x p, iter, ifs, 0⟩] sc pos) (tComp [x] wi (gName 0) tt te) :=
  pe_comp S hc hi (pg_own S hx) ht he hs
theorem ps_setC {wi : TI} {j : Nat} {y : Str} {py spos : Pos} (S : CompScope X vs sc) (hc : X.calm = true) (hN : X.N.Nodup) (hj : X.N[j]? = some y) (hy : X.env.scope.names.lookup y = some .local) (hi : PI X tg iter wi) (hg : ∀ C s H fp, PG (cxC X vs sc C s H fp) tg g) (ht : ∀ C s H fp, PTs (cxC X vs sc C s H fp) ifs tt)
    (he : ∀ C s H fp, PE (cxC X vs sc C s H fp) elt te) (hsw : swapsWith (.ListComp elt [⟨tg, iter, ifs, 0⟩] sc pos) (some (.Name y py)) spos.line X.env = pure true := by rfl) (hs : ∀ x, foldedSetIterable iter X.env x = pure x := by intro _; rfl) :
    PS X (.Assign [.Name y py] (.ListComp elt [⟨tg, iter, ifs, 0⟩] sc pos) spos) (tAsg (tComp vs wi g tt te) (gName j)) := by
  intro pins s σ H D I h
  rw [exec_Assign_Name_used _ _ _ _ hsw]
  refine wpAny_bind (wpAny_standAt (wpAny_bind ?_))
  show wpAny _ X.A (do let _ ← comprehension (.ListComp elt [⟨tg, iter, ifs, 0⟩] sc pos) sc X.env _ (newList []) false (eval iter X.env) (some (assign (.Name y py) X.env))) _ _ s
  refine wpAny_bind (wpAny_mono (wpAny_comprehension_free (use := some (assign (.Name y py) X.env)) (Q := fun _ s' => SP X pins D .next s') rfl hs (S.clos I) S.kind S.locs ?_) (fun _ s' hq => wpAny_pure (wpAny_pure hq)) fun _ _ e => e)
  refine thn (hi pins s σ H _ I h) fun v s1 h1 => thn h1 fun itv s2 h2 => ?_
  obtain ⟨it, fp, tn, J, H2, e, I2, T, st2, f2, hW⟩ := h2
  subst e
  refine comp_block (RR := fun acc C => compPost (model X.prog X.w) X.A X.xe (some (assign (.Name y py) X.env)) (fun _ s' => SP X pins D .next s') acc C) S hc hg ht he I2 T st2 f2 hW fun D' C s' H' ys m' I' hD fC ns fin => ?_
  obtain ⟨c0, c1, c2, c3, c4, c5⟩ := fC
  show wpAny _ X.A (assign (.Name y py) X.env (.ref D')) _ _ _
  refine wpAny_assign_Name (store_ok2 (v := .ref D') I' hN hj (.inl hy) (show RelV (.ref D') (.ref D') from rfl) (fun s3 I3 ⟨a, sb, ha⟩ => ?_) (.inr hy))
  have hac : a ≠ C := by
    rcases ha with z | z
    · rw [z]; exact Ne.symm c1
    · exact c4 y a z
  refine ⟨m', ns.sameBut sb (Ne.symm hac), fun h' sb' => ⟨_, _, I3.turned (t' := s3.toks) (it := C) (fun b o hb e => (sb'.2 b hb).trans e) c0 c1 c3 c4 c5, fin D' hD⟩⟩
theorem ps_setC1 {wi : TI} {j : Nat} {x y : Str} {p py spos : Pos} (S : CompScope X [x] sc) (hc : X.calm = true) (hx : sc.names.lookup x = some .local) (hN : X.N.Nodup) (hj : X.N[j]? = some y) (hy : X.env.scope.names.lookup y = some .local) (hi : PI X (.Name x p) iter wi)
    (ht : ∀ C s H fp, PTs (cxC X [x] sc C s H fp) ifs tt) (he : ∀ C s H fp, PE (cxC X [x] sc C s H fp) elt te)
    (hsw : swapsWith (.ListComp elt [⟨.Name x p, iter, ifs, 0⟩] sc pos) (some (.Name y py)) spos.line X.env = pure true := by rfl) (hs : ∀ x, foldedSetIterable iter X.env x = pure x := by intro _; rfl) :
    PS X (.Assign [.Name y py] (.ListComp elt [⟨.Name x p, iter, ifs, 0⟩] sc pos) spos) (tAsg (tComp [x] wi (gName 0) tt te) (gName j)) := ps_setC S hc hN hj hy hi (pg_own S hx) ht he hsw hs
end
section
variable {K : PySem.W.Frag} {a : Addr} {xs : List V} {vs : List Str} {g : TG} {tt : TT} {te : TE} {σ : St} {H : Hp} {Fin : List V → Hp → Prop}
theorem comp_tup (Pv : Nat → List V → Hp → Prop) (hz : xs.length ≤ sizeLine) (h0 : Pv 0 [] H) (hl : ∀ i ys H, i ≤ xs.length → Pv i ys H → SqT K H a xs ∧ ys.length ≤ i)
    (hs : ∀ i v ys H, xs[i]? = some v → Pv i ys H → g v (compSt vs σ) H fun σ2 H2 => Keep0 (compSt vs σ) σ2 ∧ tt σ2 H2 fun b H3 => if b = true then te σ2 H3 fun y H4 => Pv (i + 1) (ys ++ [y]) H4 else Pv (i + 1) ys H3)
    (hd : ∀ ys H, Pv xs.length ys H → Fin ys H) : CompW vs g tt te σ (Itt K a) H Fin := by
  refine ⟨fun i m ys H => m = xs.length - i ∧ i ≤ xs.length ∧ Pv i ys H, ⟨xs.length, by simp, Nat.zero_le _, h0⟩, ?_⟩
  rintro i m ys H ⟨rfl, hi, p⟩
  obtain ⟨q, hy⟩ := hl i ys H hi p
  by_cases hlt : i < xs.length
  · refine .inr ⟨⟨xs, xs[i], q, by simp [hlt]⟩, by omega, Pv (i + 1), fun zs H' p' => ⟨xs.length - (i + 1), by omega, rfl, hlt, p'⟩, fun v H' y => ?_⟩
    obtain ⟨e, y⟩ := y
    subst e
    exact hs i v ys _ (y xs q) p
  · have e : i = xs.length := by omega
    subst e
    exact .inl ⟨⟨xs, q, Nat.le_refl _⟩, by omega, hd ys H p⟩
theorem comp_list (Pv : Nat → List V → Hp → Prop) (hz : xs.length ≤ sizeLine) (h0 : Pv 0 [] H) (hl : ∀ i ys H, i ≤ xs.length → Pv i ys H → SqL K H a xs ∧ ys.length ≤ i)
    (hs : ∀ i v ys H, xs[i]? = some v → Pv i ys H → g v (compSt vs σ) H fun σ2 H2 => Keep0 (compSt vs σ) σ2 ∧ tt σ2 H2 fun b H3 => if b = true then te σ2 H3 fun y H4 => Pv (i + 1) (ys ++ [y]) H4 else Pv (i + 1) ys H3)
    (hd : ∀ ys H, Pv xs.length ys H → Fin ys H) : CompW vs g tt te σ (Itl K a) H Fin := by
  refine ⟨fun i m ys H => m = xs.length - i ∧ i ≤ xs.length ∧ Pv i ys H, ⟨xs.length, by simp, Nat.zero_le _, h0⟩, ?_⟩
  rintro i m ys H ⟨rfl, hi, p⟩
  obtain ⟨q, hy⟩ := hl i ys H hi p
  by_cases hlt : i < xs.length
  · refine .inr ⟨⟨xs, xs[i], q, by simp [hlt]⟩, by omega, Pv (i + 1), fun zs H' p' => ⟨xs.length - (i + 1), by omega, rfl, hlt, p'⟩, fun v H' y => ?_⟩
    obtain ⟨e, y⟩ := y
    subst e
    exact hs i v ys _ (y xs q) p
  · have e : i = xs.length := by omega
    subst e
    exact .inl ⟨⟨xs, q, Nat.le_refl _⟩, by omega, hd ys H p⟩
theorem comp_range {lo : Int} {n : Nat} (Pv : Nat → List V → Hp → Prop) (hz : n ≤ sizeLine) (h0 : Pv 0 [] H) (hl : ∀ i ys H, i ≤ n → Pv i ys H → ys.length ≤ i)
    (hs : ∀ i ys H, i < n → Pv i ys H → g (.int (lo + i)) (compSt vs σ) H fun σ2 H2 => Keep0 (compSt vs σ) σ2 ∧ tt σ2 H2 fun b H3 => if b = true then te σ2 H3 fun y H4 => Pv (i + 1) (ys ++ [y]) H4 else Pv (i + 1) ys H3)
    (hd : ∀ ys H, Pv n ys H → Fin ys H) : CompW vs g tt te σ (Itr lo n) H Fin := by
  refine ⟨fun i m ys H => m = n - i ∧ i ≤ n ∧ Pv i ys H, ⟨n, by simp, Nat.zero_le _, h0⟩, ?_⟩
  rintro i m ys H ⟨rfl, hi, p⟩
  have hy := hl i ys H hi p
  by_cases hlt : i < n
  · refine .inr ⟨hlt, by omega, Pv (i + 1), fun zs H' p' => ⟨n - (i + 1), by omega, rfl, hlt, p'⟩, fun v H' y => ?_⟩
    obtain ⟨e, y⟩ := y
    subst e y
    exact hs i ys _ hlt p
  · have e : i = n := by omega
    subst e
    exact .inl ⟨Nat.le_refl _, by omega, hd ys H p⟩
theorem map_tup {x : Str} {xs : List V} {f : V → V} (hz : xs.length ≤ sizeLine) (hq : SqT K H a xs) (hs : ∀ v (Q : VK), v ∈ xs → Q (f v) H → te (some v :: σ) H Q) (hd : Fin (xs.map f) H) :
    CompW [x] (gName 0) tYes te σ (Itt K a) H Fin := by
  refine comp_tup (fun i ys H' => H' = H ∧ ys = (xs.take i).map f) hz ⟨rfl, rfl⟩ (fun i ys H' hi ⟨e, ey⟩ => ?_) (fun i v ys H' hv ⟨e, ey⟩ => ⟨keep_one, ?_⟩) (fun ys H' ⟨e, ey⟩ => ?_)
  · subst e ey
    exact ⟨hq, by simp; omega⟩
  · subst e ey
    refine yes_of (hs v _ (List.mem_of_getElem? hv) ⟨rfl, ?_⟩)
    rw [List.take_add_one, hv, List.map_append]
    rfl
  · subst e ey
    rw [List.take_length]
    exact hd
theorem map_list {x : Str} {xs : List V} {f : V → V} (hz : xs.length ≤ sizeLine) (hq : SqL K H a xs) (hs : ∀ v (Q : VK), v ∈ xs → Q (f v) H → te (some v :: σ) H Q) (hd : Fin (xs.map f) H) :
    CompW [x] (gName 0) tYes te σ (Itl K a) H Fin := by
  refine comp_list (fun i ys H' => H' = H ∧ ys = (xs.take i).map f) hz ⟨rfl, rfl⟩ (fun i ys H' hi ⟨e, ey⟩ => ?_) (fun i v ys H' hv ⟨e, ey⟩ => ⟨keep_one, ?_⟩) (fun ys H' ⟨e, ey⟩ => ?_)
  · subst e ey
    exact ⟨hq, by simp; omega⟩
  · subst e ey
    refine yes_of (hs v _ (List.mem_of_getElem? hv) ⟨rfl, ?_⟩)
    rw [List.take_add_one, hv, List.map_append]
    rfl
  · subst e ey
    rw [List.take_length]
    exact hd
theorem map_range {x : Str} {lo : Int} {n : Nat} {f : Nat → V} (hz : n ≤ sizeLine) (hs : ∀ i (Q : VK), i < n → Q (f i) H → te (some (.int (lo + (i : Nat))) :: σ) H Q) (hd : Fin ((List.range n).map f) H) :
    CompW [x] (gName 0) tYes te σ (Itr lo n) H Fin := by
  refine comp_range (fun i ys H' => H' = H ∧ ys = (List.range i).map f) hz ⟨rfl, rfl⟩ (fun i ys H' hi ⟨e, ey⟩ => ?_) (fun i ys H' hv ⟨e, ey⟩ => ⟨keep_one, ?_⟩) (fun ys H' ⟨e, ey⟩ => ?_)
  · subst e ey
    simp
  · subst e ey
    refine yes_of (hs i _ hv ⟨rfl, ?_⟩)
    rw [List.range_succ, List.map_append]
    rfl
  · subst e ey
    exact hd
end
end L2
namespace L2
open PySem PySem.Spec PyProof.Rows
inductive Dt where
  | non | int (i : Int) | str (x : Str) | lst (ds : List Dt) | tup (ds : List Dt)
inductive Rep (K : PySem.W.Frag) (H : Hp) : Nat → Dt → V → Prop where
  | non (n : Nat) : Rep K H n .non .non
  | int (n : Nat) (i : Int) : Rep K H n (.int i) (.int i)
  | str (n : Nat) (x : Str) : Rep K H n (.str x) (.str x)
  | lst {n : Nat} {ds : List Dt} {a : Addr} {xs : List V} (h : SqL K H a xs) (hl : xs.length = ds.length) (hi : ∀ (i : Nat) d v, ds[i]? = some d → xs[i]? = some v → Rep K H n d v) : Rep K H (n + 1) (.lst ds) (.ref a)
  | tup {n : Nat} {ds : List Dt} {a : Addr} {xs : List V} (h : SqT K H a xs) (hl : xs.length = ds.length) (hi : ∀ (i : Nat) d v, ds[i]? = some d → xs[i]? = some v → Rep K H n d v) : Rep K H (n + 1) (.tup ds) (.ref a)
theorem ext_items {α : Type} {xs ys : List α} (hl : xs.length = ys.length) (h : ∀ (i : Nat) a b, xs[i]? = some a → ys[i]? = some b → a = b) : xs = ys := by
  refine List.ext_getElem hl fun i h1 h2 => ?_
  exact h i _ _ (by simp [h1]) (by simp [h2])
theorem Same.sqt {K : PySem.W.Frag} {H H' : Hp} {a : Addr} {xs : List V} (e : Same H H') (h : SqT K H a xs) : SqT K H' a xs := by
  rcases h with (h | ⟨o, h⟩) | h
  · exact .inl (.inl (e _ _ h))
  · exact .inl (.inr ⟨o, e _ _ h⟩)
  · exact .inr h
theorem Rep.same {K : PySem.W.Frag} {H H' : Hp} (e : Same H H') {n : Nat} {d : Dt} {v : V} (r : Rep K H n d v) : Rep K H' n d v := by
  induction r with
  | non n => exact .non n
  | int n i => exact .int n i
  | str n x => exact .str n x
  | lst h hl _ ih => exact .lst (e.seq h) hl ih
  | tup h hl _ ih => exact .tup (e.sqt h) hl ih
section
variable {X : Cx} {pins : List (Addr × Obj)} {σ : St} {H : Hp} {s : Shared}
theorem noSqLT {a : Addr} {xs ys : List V} (I : Inv X pins σ H s) (h : SqL X.K H a xs) (h' : SqT X.K H a ys) : False := by
  obtain ⟨_, _, p, _⟩ := I.list h
  obtain ⟨_, _, q, _⟩ := I.tuple h'
  exact SeqAt.ne_of_list_tuple p.isList (show s.heap.IsTuple a _ from q) rfl
theorem rep_inj (I : Inv X pins σ H s) : ∀ (n : Nat) {d d' : Dt} {v : V}, Rep X.K H n d v → Rep X.K H n d' v → d = d' := by
  intro n
  induction n with
  | zero =>
    intro d d' v r r'
    cases r <;> cases r' <;> rfl
  | succ n ih =>
    intro d d' v r r'
    cases r with
    | non => cases r'; rfl
    | int => cases r'; rfl
    | str => cases r'; rfl
    | @lst _ ds a xs h hl hi =>
      cases r' with
      | @lst _ ds' _ xs' h' hl' hi' =>
        have e := I.list_inj h h'
        subst e
        refine congrArg Dt.lst (ext_items (hl.symm.trans hl') fun i d d' e1 e2 => ?_)
        have hlt : i < xs.length := by rw [hl]; exact (List.getElem?_eq_some_iff.mp e1).1
        exact ih (hi i d xs[i] e1 (List.getElem?_eq_getElem hlt)) (hi' i d' xs[i] e2 (List.getElem?_eq_getElem hlt))
      | tup h' _ _ => exact (noSqLT I h h').elim
    | @tup _ ds a xs h hl hi =>
      cases r' with
      | lst h' _ _ => exact (noSqLT I h' h).elim
      | @tup _ ds' _ xs' h' hl' hi' =>
        have e := I.tuple_inj h h'
        subst e
        refine congrArg Dt.tup (ext_items (hl.symm.trans hl') fun i d d' e1 e2 => ?_)
        have hlt : i < xs.length := by rw [hl]; exact (List.getElem?_eq_some_iff.mp e1).1
        exact ih (hi i d xs[i] e1 (List.getElem?_eq_getElem hlt)) (hi' i d' xs[i] e2 (List.getElem?_eq_getElem hlt))
theorem items_all {ds ds' : List Dt} (hl : ds.length = ds'.length) {e : Nat → Bool} {N : Nat} (hN : N = ds.length) (he : ∀ (j : Nat) d d', ds[j]? = some d → ds'[j]? = some d' → (e j = true ↔ d = d')) : ((List.range N).all e = true ↔ ds = ds') := by
  subst hN
  rw [List.all_eq_true]
  constructor
  · intro h
    refine ext_items hl fun i a b e1 e2 => ?_
    exact (he i a b e1 e2).mp (h i (List.mem_range.mpr (List.getElem?_eq_some_iff.mp e1).1))
  · intro h i hi
    have hi' := List.mem_range.mp hi
    subst h
    exact (he i ds[i] ds[i] (by simp [hi']) (by simp [hi'])).mpr rfl
theorem pick_items {P : Nat → Bool → Prop} (h : ∀ j, ∃ b, P j b) : ∃ e : Nat → Bool, ∀ j, P j (e j) := ⟨fun j => Classical.choose (h j), fun j => Classical.choose_spec (h j)⟩
theorem items_pick {A : Around} {its its' : List Value} {ds ds' : List Dt} (h1 : its.length = ds.length) (h2 : its'.length = ds'.length)
    (h : ∀ (j : Nat) u u' d d', its[j]? = some u → its'[j]? = some u' → ds[j]? = some d → ds'[j]? = some d' → ∃ b, SeqAt.EqAt A s u u' b ∧ (b = true ↔ d = d')) :
    ∃ e : Nat → Bool, (∀ j (g1 : j < its.toArray.size) (g2 : j < its'.toArray.size), SeqAt.EqAt A s its.toArray[j] its'.toArray[j] (e j)) ∧ ∀ (j : Nat) d d', ds[j]? = some d → ds'[j]? = some d' → (e j = true ↔ d = d') := by
  obtain ⟨e, he⟩ := pick_items (P := fun j b => (∀ u u', its[j]? = some u → its'[j]? = some u' → SeqAt.EqAt A s u u' b) ∧ ∀ d d', ds[j]? = some d → ds'[j]? = some d' → (b = true ↔ d = d')) fun j => by
    by_cases g : j < its.length ∧ j < its'.length
    · obtain ⟨b, h3, h4⟩ := h j its[j] its'[j] (ds[j]'(by omega)) (ds'[j]'(by omega)) (by simp [g.1]) (by simp [g.2]) (List.getElem?_eq_getElem _) (List.getElem?_eq_getElem _)
      refine ⟨b, fun u u' q q' => ?_, fun d d' q q' => ?_⟩
      · rw [List.getElem?_eq_getElem g.1] at q
        rw [List.getElem?_eq_getElem g.2] at q'
        cases q
        cases q'
        exact h3
      · rw [List.getElem?_eq_getElem (by omega)] at q
        rw [List.getElem?_eq_getElem (by omega)] at q'
        cases q
        cases q'
        exact h4
    · refine ⟨true, fun u u' q q' => absurd ⟨(List.getElem?_eq_some_iff.mp q).1, (List.getElem?_eq_some_iff.mp q').1⟩ g, fun d d' q q' => ?_⟩
      have q1 := (List.getElem?_eq_some_iff.mp q).1
      have q2 := (List.getElem?_eq_some_iff.mp q').1
      exact absurd ⟨by omega, by omega⟩ g
  refine ⟨e, fun j g1 g2 => ?_, fun j => (he j).2⟩
  simp only [List.size_toArray] at g1 g2
  exact (he j).1 _ _ (by simp [g1]) (by simp [g2])
theorem rc_rep (I : Inv X pins σ H s) {n : Nat} {A : Around} (hu : A.units < cLine) {d d' : Dt} {a a' : Addr} (r : Rep X.K H (n + 1) d (.ref a)) (r' : Rep X.K H (n + 1) d' (.ref a'))
    (ih : ∀ {d d' : Dt} {v v' : V} {u u' : Value}, Rep X.K H n d v → Rep X.K H n d' v' → RelV v u → RelV v' u' → ∃ b, SeqAt.EqAt A.in1 s u u' b ∧ (b = true ↔ d = d')) :
    ∃ b, SeqAt.RcAt A s (.ref a) (.ref a') b ∧ SeqAt.RcNeAt A s (.ref a) (.ref a') (!b) ∧ (b = true ↔ d = d') := by
  cases r with
  | @lst _ ds _ xs h hl hi =>
    obtain ⟨its, rv, p, _⟩ := I.list h
    have l1 := rv.length
    cases r' with
    | @lst _ ds' _ xs' h' hl' hi' =>
      obtain ⟨its', rv', p', _⟩ := I.list h'
      have l2 := rv'.length
      by_cases hs : ds.length = ds'.length
      · obtain ⟨e, e1, e2⟩ := items_pick (A := A.in1) (s := s) (its := its) (its' := its') (ds := ds) (ds' := ds') (by omega) (by omega) fun j u u' d d' q1 q2 q3 q4 => by
          have g1 := (List.getElem?_eq_some_iff.mp q3).1
          have g2 := (List.getElem?_eq_some_iff.mp q4).1
          have k1 : xs[j]? = some (xs[j]'(by omega)) := List.getElem?_eq_getElem _
          have k2 : xs'[j]? = some (xs'[j]'(by omega)) := List.getElem?_eq_getElem _
          obtain ⟨w1, z1, y1⟩ := rv.get k1
          obtain ⟨w2, z2, y2⟩ := rv'.get k2
          rw [q1] at z1
          rw [q2] at z2
          cases z1
          cases z2
          exact ih (hi j d _ q3 k1) (hi' j d' _ q4 k2) y1 y2
        have hz : its.toArray.size = its'.toArray.size := by simp only [List.size_toArray]; omega
        refine ⟨_, SeqAt.RcAt.lists p.isList p'.isList hz hu e1, SeqAt.RcNeAt.lists p.isList p'.isList hz hu e1, ?_⟩
        rw [items_all hs (by simp only [List.size_toArray]; omega) e2]
        exact ⟨fun z => by rw [z], fun z => by cases z; rfl⟩
      · have hz : (its.toArray.size != its'.toArray.size) = true := by
          rw [bne_iff_ne]
          simp only [List.size_toArray]
          omega
        refine ⟨false, SeqAt.RcAt.lists_lengths p.isList p'.isList hz hu, SeqAt.RcNeAt.lists_lengths p.isList p'.isList hz hu, ⟨fun z => (by cases z), fun z => ?_⟩⟩
        cases z
        exact absurd rfl hs
    | @tup _ ds' _ xs' h' hl' hi' =>
      obtain ⟨its', rv', p', _⟩ := I.tuple h'
      exact ⟨false, SeqAt.RcAt.list_tuple p.isList (show s.heap.IsTuple a' _ from p') hu, SeqAt.RcNeAt.list_tuple p.isList (show s.heap.IsTuple a' _ from p') hu, ⟨fun z => (by cases z), fun z => (by cases z)⟩⟩
  | @tup _ ds _ xs h hl hi =>
    obtain ⟨its, rv, p, _⟩ := I.tuple h
    have l1 := rv.length
    cases r' with
    | @lst _ ds' _ xs' h' hl' hi' =>
      obtain ⟨its', rv', p', _⟩ := I.list h'
      exact ⟨false, SeqAt.RcAt.tuple_list (show s.heap.IsTuple a _ from p) p'.isList hu, SeqAt.RcNeAt.tuple_list (show s.heap.IsTuple a _ from p) p'.isList hu, ⟨fun z => (by cases z), fun z => (by cases z)⟩⟩
    | @tup _ ds' _ xs' h' hl' hi' =>
      obtain ⟨its', rv', p', _⟩ := I.tuple h'
      have l2 := rv'.length
      obtain ⟨e, e1, e2⟩ := items_pick (A := A.in1) (s := s) (its := its) (its' := its') (ds := ds) (ds' := ds') (by omega) (by omega) fun j u u' d d' q1 q2 q3 q4 => by
          have g1 := (List.getElem?_eq_some_iff.mp q3).1
          have g2 := (List.getElem?_eq_some_iff.mp q4).1
          have k1 : xs[j]? = some (xs[j]'(by omega)) := List.getElem?_eq_getElem _
          have k2 : xs'[j]? = some (xs'[j]'(by omega)) := List.getElem?_eq_getElem _
          obtain ⟨w1, z1, y1⟩ := rv.get k1
          obtain ⟨w2, z2, y2⟩ := rv'.get k2
          rw [q1] at z1
          rw [q2] at z2
          cases z1
          cases z2
          exact ih (hi j d _ q3 k1) (hi' j d' _ q4 k2) y1 y2
      refine ⟨_, SeqAt.RcAt.tuples (show s.heap.IsTuple a _ from p) (show s.heap.IsTuple a' _ from p') hu e1, SeqAt.RcNeAt.tuples (show s.heap.IsTuple a _ from p) (show s.heap.IsTuple a' _ from p') hu e1, ?_⟩
      by_cases hs : ds.length = ds'.length
      · have hz : (its.toArray.size == its'.toArray.size) = true := by
          rw [beq_iff_eq]
          simp only [List.size_toArray]
          omega
        rw [hz, Bool.and_true, items_all hs (by simp only [List.size_toArray]; omega) e2]
        exact ⟨fun z => by rw [z], fun z => by cases z; rfl⟩
      · have hz : (its.toArray.size == its'.toArray.size) = false := by
          rw [beq_eq_false_iff_ne]
          simp only [List.size_toArray]
          omega
        rw [hz, Bool.and_false]
        refine ⟨fun z => (by cases z), fun z => ?_⟩
        cases z
        exact absurd rfl hs
theorem eq_flat {n m : Nat} {d d' : Dt} {v v' : V} (r : Rep X.K H n d v) (r' : Rep X.K H m d' v') (f : flatV v = true) (f' : flatV v' = true) : (eqV v v' = true ↔ d = d') := by
  cases r <;> first | (cases f; done) | skip
  all_goals (cases r' <;> first | (cases f'; done) | skip)
  all_goals first | exact ⟨fun _ => rfl, fun _ => rfl⟩ | exact ⟨fun z => Bool.noConfusion z, fun z => by cases z⟩ | exact ⟨fun z => congrArg Dt.int (eq_of_beq z), fun z => by injection z with z; exact beq_iff_eq.mpr z⟩ | exact ⟨fun z => congrArg Dt.str (eq_of_beq z), fun z => by injection z with z; exact beq_iff_eq.mpr z⟩
theorem eq_rep (I : Inv X pins σ H s) : ∀ (n : Nat) {A : Around}, A.units + n < cLine → ∀ {d d' : Dt} {v v' : V} {u u' : Value}, Rep X.K H n d v → Rep X.K H n d' v' → RelV v u → RelV v' u' → ∃ b, SeqAt.EqAt A s u u' b ∧ (b = true ↔ d = d') := by
  intro n
  induction n with
  | zero =>
    intro A hu d d' v v' u u' r r' q q'
    have f : flatV v = true := by cases r <;> rfl
    have f' : flatV v' = true := by cases r' <;> rfl
    exact ⟨_, eqAt_V q q' f f', eq_flat r r' f f'⟩
  | succ n ih =>
    intro A hu d d' v v' u u' r r' q q'
    by_cases f : flatV v = true
    · by_cases f' : flatV v' = true
      · exact ⟨_, eqAt_V q q' f f', eq_flat r r' f f'⟩
      · refine ⟨false, ?_, ⟨fun z => (by cases z), fun z => ?_⟩⟩
        · cases r' with
          | non => exact absurd rfl f'
          | int => exact absurd rfl f'
          | str => exact absurd rfl f'
          | @lst _ ds a xs h hl hi =>
            cases q'
            obtain ⟨its, _, p, _⟩ := I.list h
            cases r with
            | non => cases q; exact SeqAt.EqAt.none_list p.isList (by omega)
            | int _ i => obtain ⟨t, rfl⟩ := q; exact SeqAt.EqAt.int_list i t p.isList (by omega)
            | str _ x => obtain ⟨t, rfl⟩ := q; exact SeqAt.EqAt.str_list x t p.isList (by omega)
            | lst _ _ _ => cases f
            | tup _ _ _ => cases f
          | @tup _ ds a xs h hl hi =>
            cases q'
            obtain ⟨its, _, p, _⟩ := I.tuple h
            have p' : s.heap.IsTuple a its.toArray := p
            cases r with
            | non => cases q; exact SeqAt.EqAt.none_tuple p' (by omega)
            | int _ i => obtain ⟨t, rfl⟩ := q; exact SeqAt.EqAt.int_tuple i t p' (by omega)
            | str _ x => obtain ⟨t, rfl⟩ := q; exact SeqAt.EqAt.str_tuple x t p' (by omega)
            | lst _ _ _ => cases f
            | tup _ _ _ => cases f
        · subst z
          cases r <;> first | (cases f; done) | skip
          all_goals (cases r'; exact absurd rfl f')
    · by_cases f' : flatV v' = true
      · refine ⟨false, ?_, ⟨fun z => (by cases z), fun z => ?_⟩⟩
        · cases r with
          | non => exact absurd rfl f
          | int => exact absurd rfl f
          | str => exact absurd rfl f
          | @lst _ ds a xs h hl hi =>
            cases q
            obtain ⟨its, _, p, _⟩ := I.list h
            cases r' with
            | non => cases q'; exact SeqAt.EqAt.list_none p.isList (by omega)
            | int _ i => obtain ⟨t, rfl⟩ := q'; exact SeqAt.EqAt.list_int i t p.isList (by omega)
            | str _ x => obtain ⟨t, rfl⟩ := q'; exact SeqAt.EqAt.list_str x t p.isList (by omega)
            | lst _ _ _ => cases f'
            | tup _ _ _ => cases f'
          | @tup _ ds a xs h hl hi =>
            cases q
            obtain ⟨its, _, p, _⟩ := I.tuple h
            have p' : s.heap.IsTuple a its.toArray := p
            cases r' with
            | non => cases q'; exact SeqAt.EqAt.tuple_none p' (by omega)
            | int _ i => obtain ⟨t, rfl⟩ := q'; exact SeqAt.EqAt.tuple_int i t p' (by omega)
            | str _ x => obtain ⟨t, rfl⟩ := q'; exact SeqAt.EqAt.tuple_str x t p' (by omega)
            | lst _ _ _ => cases f'
            | tup _ _ _ => cases f'
        · subst z
          cases r' <;> first | (cases f'; done) | skip
          all_goals (cases r; exact absurd rfl f)
      · have ex : ∀ {m : Nat} {d : Dt} {v : V}, Rep X.K H m d v → ¬ flatV v = true → ∃ a, v = .ref a := fun {m d v} r f => by
          cases r <;> first | exact ⟨_, rfl⟩ | exact absurd rfl f
        obtain ⟨a, rfl⟩ := ex r f
        obtain ⟨a', rfl⟩ := ex r' f'
        cases q
        cases q'
        by_cases ha : a = a'
        · subst ha
          exact ⟨true, SeqAt.EqAt.same _, ⟨fun _ => rep_inj I (n + 1) r r', fun _ => rfl⟩⟩
        · obtain ⟨b, h1, _, h3⟩ := rc_rep I (A := A) (by omega) r r' fun r r' q q' => ih (A := A.in1) (by show A.units + 1 + n < cLine; omega) r r' q q'
          exact ⟨b, .of_refs ha h1, h3⟩
def rEqD (K : PySem.W.Frag) (neg : Bool) : R2 := fun x y H Q => ∃ a a' n d d', x = .ref a ∧ y = .ref a' ∧ Rep K H (n + 1) d (.ref a) ∧ Rep K H (n + 1) d' (.ref a') ∧ n ≤ 30 ∧ ∀ b, (b = true ↔ d = d') → Q (.bl (if neg then !b else b)) H
theorem op_eqD (hu : X.A.units + 64 < cLine) : OpR X (compareOp .Eq) (rEqD X.K false) := by
  intro pins s σ H x y v u Q I rx ry h
  obtain ⟨a, a', n, d, d', rfl, rfl, r, r', hn, q⟩ := h
  cases rx
  cases ry
  obtain ⟨b, h1, _, h3⟩ := rc_rep I (A := X.A) (by omega) r r' fun r r' q q' => eq_rep I n (A := X.A.in1) (by show X.A.units + 1 + n < cLine; omega) r r' q q'
  exact h1 _ _ _ _ ⟨.bl b, H, I, rfl, q b h3⟩
theorem op_neD (hu : X.A.units + 64 < cLine) : OpR X (compareOp .NotEq) (rEqD X.K true) := by
  intro pins s σ H x y v u Q I rx ry h
  obtain ⟨a, a', n, d, d', rfl, rfl, r, r', hn, q⟩ := h
  cases rx
  cases ry
  obtain ⟨b, _, h2, h3⟩ := rc_rep I (A := X.A) (by omega) r r' fun r r' q q' => eq_rep I n (A := X.A.in1) (by show X.A.units + 1 + n < cLine; omega) r r' q q'
  exact h2 _ _ _ _ ⟨.bl (!b), H, I, rfl, q b h3⟩
end
theorem rep_ints {K : PySem.W.Frag} {H : Hp} {n : Nat} {is : List Int} (i : Nat) (d : Dt) (v : V) (h1 : (is.map Dt.int)[i]? = some d) (h2 : (is.map V.int)[i]? = some v) : Rep K H n d v := by
  rw [List.getElem?_map] at h1 h2
  cases e : is[i]? with
  | none => rw [e] at h1; cases h1
  | some k =>
    rw [e] at h1 h2
    cases h1
    cases h2
    exact .int n k
theorem repT {K : PySem.W.Frag} {H : Hp} {n : Nat} {is : List Int} {a : Addr} (h : SqT K H a (is.map V.int)) : Rep K H (n + 1) (.tup (is.map Dt.int)) (.ref a) := .tup h (by simp) rep_ints
theorem map_inj {α β : Type} {f : α → β} (hf : ∀ a b, f a = f b → a = b) : ∀ {xs ys : List α}, xs.map f = ys.map f → xs = ys
  | [], [], _ => rfl
  | [], _ :: _, h => by simp at h
  | _ :: _, [], h => by simp at h
  | a :: xs, b :: ys, h => by
    simp only [List.map_cons, List.cons.injEq] at h
    rw [hf a b h.1, map_inj hf h.2]
def rangeV (n : Nat) : List V := (List.range n).map fun (i : Nat) => V.int (i : Int)
section
variable {X : Cx}
def rRange : List V → Hp → VK → Prop := fun xs H Q => ∃ j : Int, xs = [.int j] ∧ ∀ p, H p = none → Q (.ref p) (upd H p (.rng 0 j))
theorem call_rangeV : CallR X (.type "range") rRange := by
  intro pins s σ H xs us Q I r h
  obtain ⟨j, rfl, q⟩ := h
  obtain ⟨u, rfl, t, rfl⟩ := vals1 r
  refine call_range_1 ⟨.ref s.heap.objs.size, _, I.laid (t' := s.toks + 1 + 1) (fun b o e => Heap.get?_push_of_some _ e) (Nat.le_refl _) (show ObjOk X.prog X.w _ _ _ (.rng 0 j) from ⟨_, _, _, Heap.get?_push_size _ rfl⟩), rfl, q _ (I.hok.fresh (Nat.le_refl _))⟩
theorem items_range {n : Nat} {acc : Array Value} (h : ItemsOf (fun i v => ∃ t, v = Value.int ((0 : Int) + (i : Nat) * 1) t) acc n) : Vals (rangeV n) acc.toList := by
  obtain ⟨hs, hi⟩ := h
  have go : ∀ (xs : List V) (us : List Value), xs.length = us.length → (∀ (j : Nat) x u, xs[j]? = some x → us[j]? = some u → RelV x u) → Vals xs us := by
    intro xs
    induction xs with
    | nil => intro us hl _; cases us with
      | nil => exact .nil
      | cons => simp at hl
    | cons x xs ih =>
      intro us hl h
      cases us with
      | nil => simp at hl
      | cons u us => exact .cons (h 0 x u rfl rfl) (ih us (by simpa using hl) fun j a b e1 e2 => h (j + 1) a b (by simpa using e1) (by simpa using e2))
  refine go _ _ (by simp [rangeV, hs]) fun j x u e1 e2 => ?_
  obtain ⟨t, rfl⟩ := hi j u (by simpa using e2)
  unfold rangeV at e1
  rw [List.getElem?_map] at e1
  have hj : j < n := by
    have := (List.getElem?_eq_some_iff.mp e2).1
    simpa [hs] using this
  rw [List.getElem?_range hj] at e1
  cases e1
  refine ⟨t, ?_⟩
  congr 1
  omega
theorem range_small {j : Int} (h0 : 0 ≤ j) (h1 : j ≤ 1000000) : Builtin.Range.small 0 j 1 = true := small_one (by decide) (by decide) (by omega) (by omega)
theorem range_count {j : Int} (h0 : 0 ≤ j) : Builtin.Range.rangeSize 0 j 1 = (j.toNat : Nat) := by
  rw [rangeSize_one]
  split <;> omega
def rListRng : List V → Hp → VK → Prop := fun xs H Q => ∃ p j, xs = [.ref p] ∧ H p = some (.rng 0 j) ∧ 0 ≤ j ∧ j ≤ 1000000 ∧ ∀ l, H l = none → Q (.ref l) (upd H l (.lst (rangeV j.toNat)))
theorem call_list_rng (hc : X.calm = true) : CallR X (.type "list") rListRng := by
  intro pins s σ H xs us Q I r h
  obtain ⟨p, j, rfl, hp, h0, h1, q⟩ := h
  obtain ⟨u, rfl, rx⟩ := vals1 r
  cases rx
  obtain ⟨t1, t2, t3, e⟩ := I.hok p _ hp
  refine call_list_range (I.ok.hd hc) e (range_small h0 h1) (range_count h0) (by omega) fun h' tk acc c' kp e' hit => ?_
  have hv := items_range hit
  have e2 : h'.get? s.heap.objs.size = some { cls := .type "list", data := .seq acc.toList.toArray c' } := by simpa using e'
  exact ⟨.ref s.heap.objs.size, _, I.laid (t' := tk) kp (Nat.le_refl _) (show ObjOk X.prog X.w _ h' _ (.lst (rangeV j.toNat)) from ⟨by rw [sizeLine_eq]; simp [rangeV]; omega, acc.toList, c', hv, e2⟩), rfl, q _ (I.hok.fresh (Nat.le_refl _))⟩
end
section
open AutoSeq1 (wpAny_loadPart')
abbrev RngItems (j : Int) (acc : Array Value) : Prop := ItemsOf (fun i v => ∃ t, v = Value.int ((0 : Int) + (i : Nat) * 1) t) acc j.toNat
end
section
variable {X : Cx}
def rTupRng : List V → Hp → VK → Prop := fun xs H Q => ∃ p j, xs = [.ref p] ∧ H p = some (.rng 0 j) ∧ 0 ≤ j ∧ j ≤ 1000000 ∧ ∀ l, H l = none → Q (.ref l) (upd H l (.tup (rangeV j.toNat)))
def rIsi (K : PySem.W.Frag) : List V → Hp → VK → Prop := fun xs H Q => ∃ x n t b, xs = [x, .ty n] ∧ TyOf K H x t ∧ PySem.W.kitOne K t (.type n) = some b ∧ Q (.bl b) H
theorem call_isi : CallR X (.builtin "isinstance") (rIsi X.K) := by
  intro pins s σ H xs us Q I r h
  obtain ⟨x, n, t, b, rfl, ty, e, q⟩ := h
  obtain ⟨u, w', rfl, r1, r2⟩ := vals2 r
  cases r2
  exact isinst_ok I r1 ty e fun tk => ⟨.bl b, H, I.tok tk, rfl, q⟩
end
end L2
namespace L2
open PySem PySem.Spec PyProof.Rows
structure CompSc (N : List Str) (osc : Scope) (vs : List Str) (sc : Scope) : Prop where
  kind : sc.kind = .function
  cell : ∀ y ∈ sc.names, y.2 ≠ .cell
  locs : ∀ y ∈ sc.names, y.2 = .local → sc.names.lookup y.1 = some .local
  own : ∀ y ∈ N.map (hide vs), sc.names.lookup y ≠ some .local
  hid : ∀ y ∈ vs, sc.names.lookup (hideStr y) = none
  nd : (vs ++ N.map (hide vs)).Nodup
  free : ∀ y ∈ sc.names, y.2 = .free → osc.names.lookup y.1 = some .cell ∨ osc.names.lookup y.1 = some .free
theorem CompSc.to {X : Cx} {N : List Str} {osc : Scope} {vs : List Str} {sc : Scope} (h : CompSc N osc vs sc) (hN : X.N = N := by rfl) (hs : X.env.scope = osc := by rfl) : CompScope X vs sc := by
  subst hN hs
  exact ⟨h.kind, h.cell, h.locs, h.own, h.hid, h.nd, h.free⟩
def Callee (P : Program) (w : World) (K : PySem.W.Frag) (mg : Str → Option Value) (base : Heap) (x : Str) (k : Nat) (ps : List Str) (sp : Sp) : Prop :=
  ∃ f fd, FnOk P w K mg base CX0 k f fd ps sp ∧ mg x = some (.ref f) ∧ PySem.W.keepIn K (.ref f) = true ∧ Binds K fd ps []
theorem pe_callD {X : Cx} {x : Str} {k : Nat} {ps : List Str} {sp : Sp} {e : Expr} {es : List Expr} {t : TA} {p pos : Pos} (c : Callee X.prog X.w X.K X.mg X.base x k ps sp) (hr : Room k X.A) (hg : Gl X x) (ha : PA X (e :: es) t)
    (hd : (x == ("__debug__" : Str)) = false := by decide) (hs : starEach (e :: es) X.env = (false, eval e X.env) :: starEach es X.env := by rfl) (hp : (backTo pos (starEach es X.env)).any (·.1) = false := by rfl) :
    PE X (.Call (.Name x p) (e :: es) [] pos) (tCall sp [] E0 t) := by
  obtain ⟨f, fd, F, m, kp, b⟩ := c
  exact pe_call F hr hg m kp b .nil pass0 ha hd hs hp
theorem pe_ty {X : Cx} {x : Str} {n : String} {pos : Pos} (hg : Gl X x) (hm : X.mg x = none) (hv : bootBuiltins x = some (.type n)) (hn : x ≠ "__name__" := by decide) (hd : (x == ("__debug__" : Str)) = false := by decide) : PE X (.Name x pos) (tC (.ty n)) :=
  pe_bltn (v := .ty n) hg hm hv (show RelV (.ty n) (.type n) from rfl) hn hd
theorem IxR.k {X : Cx} {K : PySem.W.Frag} (r : PySem.W.Frag → R2) (h : IxR X (r X.K)) (hK : X.K = K) : IxR X (r K) := hK ▸ h
theorem OpR.k {X : Cx} {K : PySem.W.Frag} {f : Value → Value → Sem Value} (r : PySem.W.Frag → R2) (h : OpR X f (r X.K)) (hK : X.K = K) : OpR X f (r K) := hK ▸ h
theorem CallR.k {X : Cx} {K : PySem.W.Frag} {f : Value} (r : PySem.W.Frag → List V → Hp → VK → Prop) (h : CallR X f (r X.K)) (hK : X.K = K) : CallR X f (r K) := hK ▸ h
theorem SlR.k {X : Cx} {K : PySem.W.Frag} (r : PySem.W.Frag → V → Option Int → Option Int → Hp → VK → Prop) (h : SlR X (r X.K)) (hK : X.K = K) : SlR X (r K) := hK ▸ h
abbrev rLen (K : PySem.W.Frag) : List V → Hp → VK → Prop := fun xs H Q => ∃ p ys, xs = [.ref p] ∧ (SqL K H p ys ∨ SqT K H p ys) ∧ Q (.int ys.length) H
abbrev rListOf (K : PySem.W.Frag) : List V → Hp → VK → Prop := fun xs H Q => ∃ p ys, xs = [.ref p] ∧ (SqL K H p ys ∨ SqT K H p ys) ∧ ∀ l, H l = none → Q (.ref l) (upd H l (.lst ys))
abbrev rTupOf (K : PySem.W.Frag) : List V → Hp → VK → Prop := fun xs H Q => ∃ p ys, xs = [.ref p] ∧ ((SqL K H p ys ∧ ∀ l, H l = none → Q (.ref l) (upd H l (.tup ys))) ∨ (SqT K H p ys ∧ Q (.ref p) H))
theorem same_new {H : Hp} {p : Addr} (h : H p = none) (o : HO) : Same H (upd H p o) := fun b u q => by rw [upd_ne (ne_of_none q h)]; exact q
theorem small {n : Nat} (h : n ≤ 1000) : n ≤ sizeLine := Nat.le_of_lt (small1000 h)
abbrev nv (n : Nat) : V := .int (n : Int)
theorem nv_ints (xs : List Nat) : xs.map nv = (xs.map fun (n : Nat) => (n : Int)).map V.int := by rw [List.map_map]; rfl
theorem repTn {K : PySem.W.Frag} {H : Hp} {n : Nat} {is : List Nat} {a : Addr} (h : SqT K H a (is.map nv)) : Rep K H (n + 1) (.tup ((is.map fun (n : Nat) => (n : Int)).map Dt.int)) (.ref a) := repT (by rw [← nv_ints]; exact h)
theorem at_nv {xs : List Nat} {k : Nat} (h : k < xs.length) : atI (xs.map nv) (k : Int) = some (nv (xs.getD k 0)) := atI_nat (by rw [List.getElem?_map, List.getElem?_eq_getElem h, List.getD_eq_getElem?_getD, List.getElem?_eq_getElem h]; rfl)
def NewT (H : Hp) (xs : List V) (Q : VK) : Prop := ∀ r H', Same H H' → H' r = some (.tup xs) → Q (.ref r) H'
def NewL (H : Hp) (xs : List V) (Q : VK) : Prop := ∀ r H', Same H H' → H' r = some (.lst xs) → Q (.ref r) H'
def tCut (t : TS) : TS := fun D σ H => ∃ S : St → Hp → Prop, t { D with nx := S } σ H ∧ ∀ σ' H', S σ' H' → D.nx σ' H'
theorem ps_cut {X : Cx} {st : Stmt} {t : TS} (h : PS X st t) : PS X st (tCut t) := by
  intro pins s σ H D I q
  obtain ⟨S, q1, q2⟩ := q
  refine thn (h pins s σ H _ I q1) fun f s' z => ?_
  cases f with
  | next => obtain ⟨σ', H', I', z⟩ := z; exact ⟨σ', H', I', q2 σ' H' z⟩
  | brk => exact z
  | cont => exact z
  | ret u => exact z
theorem iteN2 {c A B : Prop} [Decidable c] (h1 : ¬ c → A) (h2 : c → B) : if (!decide c) = true then A else B := by
  by_cases h : c
  · rw [decide_eq_true h]
    exact iteF (h2 h)
  · rw [decide_eq_false h]
    exact iteT (h1 h)
theorem iteD {c A B : Prop} [Decidable c] (hc : c) (h : A) : if decide c = true then A else B := by
  rw [if_pos (decide_eq_true hc)]
  exact h
theorem iteDN {c A B : Prop} [Decidable c] (hc : ¬ c) (h : B) : if decide c = true then A else B := by
  rw [if_neg (by rw [decide_eq_false hc]; exact Bool.false_ne_true)]
  exact h
theorem iteND {c A B : Prop} [Decidable c] (hc : ¬ c) (h : A) : if (!decide c) = true then A else B := iteN2 (fun _ => h) (fun z => absurd z hc)
theorem same_upd {H H' : Hp} {l : Addr} {o : HO} (g : Same H H') (hl : H l = none) : Same H (upd H' l o) := fun b u e => by rw [upd_ne (ne_of_none e hl)]; exact g b u e
theorem at_int {cs : List Int} {k : Nat} (h : k < cs.length) : atI (cs.map V.int) (k : Int) = some (.int (cs.getD k 0)) := atI_nat (by rw [List.getElem?_map, List.getElem?_eq_getElem h, List.getD_eq_getElem?_getD, List.getElem?_eq_getElem h]; rfl)
theorem ixN_nat {n k : Nat} (h : k < n) : ixN n (k : Int) = some k := by
  unfold ixN
  rw [if_pos (by omega), if_pos (by omega), Int.toNat_natCast]
theorem mod_nv (c : Int) {n : Nat} (h : 1 ≤ n) : V.int (c % (n : Int)) = nv (c % (n : Int)).toNat ∧ (c % (n : Int)).toNat < n := by
  have h1 := Int.emod_nonneg c (by omega : (n : Int) ≠ 0)
  have h2 := Int.emod_lt_of_pos c (by omega : (0 : Int) < (n : Int))
  refine ⟨?_, by omega⟩
  show V.int _ = V.int (((c % (n : Int)).toNat : Nat) : Int)
  rw [Int.toNat_of_nonneg h1]
theorem set_nv (ys : List Nat) (j v : Nat) : (ys.map nv).set j (nv v) = (ys.set j v).map nv := (List.map_set).symm
theorem set_lt {ys : List Nat} {j v n : Nat} (h : ∀ y ∈ ys, y < n) (hv : v < n) : ∀ y ∈ ys.set j v, y < n := by
  intro y hy
  rcases List.mem_or_eq_of_mem_set hy with z | z
  · exact h y z
  · rw [z]; exact hv
theorem getD_lt {ys : List Nat} {j n : Nat} (h : ∀ y ∈ ys, y < n) (hj : j < ys.length) : ys.getD j 0 < n := by
  rw [List.getD_eq_getElem?_getD, List.getElem?_eq_getElem hj]
  exact h _ (List.getElem_mem hj)
theorem isi_int_int {K : PySem.W.Frag} : PySem.W.kitOne K (.type "int") (.type "int") = some true := by rfl
theorem isi_int_bool {K : PySem.W.Frag} : PySem.W.kitOne K (.type "int") (.type "bool") = some false := by rfl
theorem isi_tup_tup {K : PySem.W.Frag} : PySem.W.kitOne K (.type "tuple") (.type "tuple") = some true := by rfl
end L2
namespace L2
open PySem PySem.Spec PyProof.Rows
section
variable {X : Cx}
end
def nk (xs : List Nat) : List Key := xs.map fun (n : Nat) => (Sum.inl (n : Int) : Key)
theorem nk_inj {xs ys : List Nat} (h : nk xs = nk ys) : xs = ys := by
  unfold nk at h
  exact map_inj (fun a b e => by injection e with e; exact Int.ofNat.inj e) h
end L2
namespace L2
open PySem PySem.Spec PyProof.Rows
section
variable {X : Cx}
def rCatS (K : PySem.W.Frag) : R2 := fun x y H Q => ∃ l b xs zs, x = .ref l ∧ y = .ref b ∧ SqL K H l xs ∧ SqL K H b zs ∧ xs.length + zs.length ≤ sizeLine ∧ ∀ p, H p = none → Q (.ref p) (upd H p (.lst (xs ++ zs)))
theorem op_catS : OpR X (binaryOp .Add) (rCatS X.K) := by
  intro pins s σ H x y v u Q I rx ry h
  obtain ⟨l, b, xs, zs, rfl, rfl, hl, hb, hz, q⟩ := h
  cases rx
  cases ry
  obtain ⟨its, r, ⟨⟨c1, d1, k1, s1⟩, n, e, ec, ed, ek⟩, _⟩ := I.list hl
  obtain ⟨its2, r2, ⟨⟨c2, d2, k2, s2⟩, n2, e2, ec2, ed2, ek2⟩, _⟩ := I.list hb
  simp only at ec ed ek ec2 ed2 ek2
  subst ec ed ek ec2 ed2 ek2
  have l1 := r.length
  have l2 := r2.length
  have ea : its.toArray ++ its2.toArray = (its ++ its2).toArray := by simp
  refine concat_meets ⟨_, e, rfl⟩ ⟨_, e2, rfl⟩ noFill_list_add seq_list_add F.slot_list_add F.entry_list_add (F.args_list_add_2 _ _) (list_addW l b its.toArray its2.toArray n n2 none none s1 s2 (by simp only [List.size_toArray]; omega)) ⟨e, e2, ?_⟩
  rw [ea]
  exact ⟨.ref _, _, I.lnew (t' := s.toks) (r.append r2) (by rw [List.length_append]; omega), rfl, q _ I.fresh⟩
def rIndex (K : PySem.W.Frag) : V → List V → Hp → VK → Prop := fun x vs H Q => ∃ (l : Addr) (ns : List Int) (i : Int), x = .ref l ∧ vs = [.int i] ∧ SqL K H l (ns.map V.int) ∧ i ∈ ns ∧ Q (.int (ns.idxOf i : Nat)) H
end
end L2
namespace L2
open PySem PySem.Spec PyProof.Rows
section
variable {X : Cx}
def rSlA : V → Option Int → Option Int → Hp → VK → Prop := fun x lo hi H Q => ∃ a xs, x = .ref a ∧ H a = some (.tup xs) ∧ ∀ p H', Same H H' → H' p = some (.tup (cutV xs lo hi)) → Q (.ref p) H'
end
end L2
namespace L2
open PySem PySem.Spec PyProof.Rows
section
variable {X : Cx}
def rCatA : R2 := fun x y H Q => ∃ a b xs ys, x = .ref a ∧ y = .ref b ∧ H a = some (.tup xs) ∧ H b = some (.tup ys) ∧ xs.length + ys.length ≤ sizeLine ∧ ∀ p H', Same H H' → H' p = some (.tup (xs ++ ys)) → Q (.ref p) H'
end
end L2
namespace L2
open PySem PySem.Spec PyProof.Rows
open AutoSeq1 (wpAny_loadPart')
section
variable {X : Cx}
def rRepA : R2 := fun x y H Q => ∃ a xs k, x = .ref a ∧ y = .int ((k + 1 : Nat) : Int) ∧ H a = some (.tup xs) ∧ k ≤ 1000 ∧ xs.length ≤ 1000 ∧ ∀ p H', Same H H' → H' p = some (.tup (List.replicate (k + 1) xs).flatten) → Q (.ref p) H'
end
end L2
namespace L2
open PySem PySem.Spec PyProof.Rows
section
variable {X : Cx}
def rAll (K : PySem.W.Frag) : List V → Hp → VK → Prop := fun xs H Q => ∃ (p : Addr) (bs : List Bool), xs = [.ref p] ∧ SqL K H p (bs.map V.bl) ∧ Q (.bl (bs.all id)) H
theorem call_allL (hc : X.calm = true) : CallR X (.builtin "all") (rAll X.K) := by
  intro pins s σ H xs us Q I r h
  obtain ⟨p, bs, rfl, hp, q⟩ := h
  obtain ⟨u, rfl, ru⟩ := vals1 r
  cases ru
  obtain ⟨its, rv, pl, _⟩ := I.list hp
  have hl := pl.isList
  have hlt : p < s.heap.objs.size := pl.lt
  have hlen : its.length = bs.length := by rw [← rv.length, List.length_map]
  refine call_all_walk (wpAny_pyIter_list hl ⟨_, _, _, _, _, _, fun i => bs.getD i false, rfl, Walks.list (A := X.A.in1) (I.ok.hd hc) _ p (Nat.ne_of_lt hlt) its.toArray, ⟨⟨_, Heap.get?_push_size _ rfl, rfl, rfl⟩, hl.push _⟩, ?_, fun h' tk hk => ?_⟩)
  · intro i v s2 Q2 E2 hv hq
    have hv' : its[i]? = some v := by simpa using hv
    have hi : i < bs.length := by rw [← hlen]; exact (List.getElem?_eq_some_iff.mp hv').1
    obtain ⟨u2, e1, e2⟩ := rv.get (i := i) (x := .bl (bs.getD i false)) (by rw [List.getElem?_map, List.getElem?_eq_getElem hi, List.getD_eq_getElem?_getD, List.getElem?_eq_getElem hi]; rfl)
    rw [hv'] at e1
    cases e1
    cases (show v = Value.bool _ from e2)
    exact wpAny_truthy_bool hq
  · have e : (List.range its.toArray.size).all (fun i => bs.getD i false) = bs.all id := by
      rw [List.size_toArray, hlen]
      have : bs = (List.range bs.length).map fun i => bs.getD i false := by
        refine List.ext_getElem (by simp) fun i h1 h2 => ?_
        simp [List.getD_eq_getElem?_getD, h1]
      conv => rhs; rw [this, List.all_map]
      rfl
    rw [e]
    exact ⟨.bl (bs.all id), H, I.kept fun b o z => hk b o (by simp only [List.mem_singleton]; exact Nat.ne_of_lt (Heap.lt_size z)) (Heap.get?_push_of_some _ z), rfl, q⟩
abbrev TJ := Str → St → Hp → (Str → Hp → Prop) → Prop
def PJ (X : Cx) (vs : List Expr) (t : TJ) : Prop := ∀ (pins : List (Addr × Obj)) (s : Shared) (σ : St) (H : Hp) (out : Str) (Q : Str → Hp → Prop), Inv X pins σ H s → t out σ H Q →
  wpAny (model X.prog X.w) X.A (joinParts out (evalEach vs X.env)) (fun u s' => ∃ x H', Inv X pins σ H' s' ∧ RelV (.str x) u ∧ Q x H') X.xe s
def jNil : TJ := fun out _ H Q => out.length ≤ sizeLine ∧ Q out H
def jStr (x : Str) (t : TJ) : TJ := fun out σ H Q => (out ++ x).length ≤ sizeLine ∧ t (out ++ x) σ H Q
def jInt (te : TE) (t : TJ) : TJ := fun out σ H Q => te σ H fun v H1 => ∃ i : Int, v = .int i ∧ i.natAbs.log2 < 1920 ∧ (out ++ Str.ofString (toString i)).length ≤ sizeLine ∧ t (out ++ Str.ofString (toString i)) σ H1 Q
theorem pj_nil : PJ X [] jNil := fun pins s σ H out Q I h => joinParts_nil ⟨out, H, I.tok _, ⟨_, rfl⟩, h.2⟩ h.1
theorem pj_str {x : Str} {j : Nat} {pos : Pos} {vs : List Expr} {t : TJ} (hr : PJ X vs t) : PJ X (.Constant (.str x) j pos :: vs) (jStr x t) := by
  intro pins s σ H out Q I h
  show wpAny _ _ (joinParts out (eval (.Constant (.str x) j pos) X.env :: evalEach vs X.env)) _ _ s
  exact joinParts_cons (Calls.Constant_str ⟨h.1, hr pins _ σ H _ Q (I.tok _) h.2⟩)
theorem pj_int {e : Expr} {pos : Pos} {vs : List Expr} {te : TE} {t : TJ} (he : PE X e te) (hr : PJ X vs t) : PJ X (.FormattedValue e (-1) none pos :: vs) (jInt te t) := by
  intro pins s σ H out Q I h
  show wpAny _ _ (joinParts out (eval (.FormattedValue e (-1) none pos) X.env :: evalEach vs X.env)) _ _ s
  refine joinParts_cons (FormattedValue_plain (thn (he pins s σ H _ I h) fun v s1 ⟨y, H1, I1, r1, i, e1, hz, hl, q⟩ => ?_))
  subst e1
  obtain ⟨tk, rfl⟩ := r1
  exact formatField_int_small hz ⟨hl, hr pins _ σ H1 _ Q (I1.tok _) q⟩
theorem pe_fstr {v1 v2 : Expr} {vs : List Expr} {pos : Pos} {t : TJ} (h : PJ X (v1 :: v2 :: vs) t) : PE X (.JoinedStr (v1 :: v2 :: vs) pos) (fun σ H Q => t Str.empty σ H fun x H' => Q (.str x) H') := by
  intro pins s σ H Q I hq
  exact JoinedStr_many (thn (h pins s σ H Str.empty _ I hq) fun u s1 ⟨x, H1, I1, r, q⟩ => ⟨.str x, H1, I1, r, q⟩)
theorem strsAre_of {xs : List Str} : ∀ {us : List Value}, Vals (xs.map V.str) us → StrsAre us xs := by
  induction xs with
  | nil => intro us r; cases r; exact .nil
  | cons x xs ih =>
    intro us r
    cases r with
    | cons r1 r2 =>
      obtain ⟨t, rfl⟩ := r1
      exact .cons x t (ih r2)
def rJoin (K : PySem.W.Frag) : V → List V → Hp → VK → Prop := fun x vs H Q => ∃ (z : Str) (l : Addr) (ys : List Str), x = .str z ∧ vs = [.ref l] ∧ SqL K H l (ys.map V.str) ∧ z.length ≤ 16 ∧ (ys.map (·.length)).sum + ys.length ≤ 1048576 ∧ Q (.str (Txt.join z ys)) H
theorem mt_join : MtR X "str.join" (rJoin X.K) := by
  intro pins s σ H x vs v us Q I rx rv h
  obtain ⟨z, l, ys, rfl, rfl, hl, hz, hw, q⟩ := h
  obtain ⟨t, rfl⟩ := rx
  obtain ⟨u, rfl, ru⟩ := rv.one
  cases ru
  obtain ⟨its, r, pl, _⟩ := I.list hl
  exact join_listW pl.isList (by simpa using strsAre_of r) hz hw fun t' k => ⟨.str (Txt.join z ys), H, I.tok _, ⟨_, rfl⟩, q⟩
end
end L2
namespace L2
open PySem PySem.Spec PyProof.Rows
structure PL (X : Cx) (es : List Expr) (t : TA) : Prop where
  pa : PA X es t
structure QE (X : Cx) (e : Expr) (t : TE) : Prop where
  pe : PE X e t
structure QS (X : Cx) (st : Stmt) (t : TS) : Prop where
  ps : PS X st t
structure QSs (X : Cx) (b : List Stmt) (t : TS) : Prop where
  pss : PSs X b t
section
variable {X : Cx} {e a b : Expr} {es : List Expr} {te ta tb : TE} {t : TA} {pos : Pos}
theorem pl_nil : PL X [] tNil := ⟨pa_nil⟩
theorem pl_cons (ha : PE X e te) (hr : PL X es t) (hs : starEach (e :: es) X.env = (false, eval e X.env) :: starEach es X.env) : PL X (e :: es) (tCons te t) := ⟨pa_cons ha hr.pa hs⟩
theorem pl_at (h : PL X es t) : PA X es t := h.pa
theorem ql_cons (ha : QE X e te) (hr : PL X es t) (hs : starEach (e :: es) X.env = (false, eval e X.env) :: starEach es X.env) : PL X (e :: es) (tCons te t) := ⟨pa_cons ha.pe hr.pa hs⟩
theorem qe_of (h : PE X e te) : QE X e te := ⟨h⟩
theorem qe_at (h : QE X e te) : PE X e te := h.pe
theorem qe_op {op : Operator} {r : R2} (ho : OpR X (binaryOp op) r) (ha : QE X a ta) (hb : QE X b tb) : QE X (.BinOp a op b pos) (tOp r ta tb) := ⟨pe_op ho ha.pe hb.pe⟩
theorem qe_ix {r : R2} (hr : IxR X r) (ha : QE X a ta) (hb : QE X b tb) (hs : PlainIx b) : QE X (.Subscript a b pos) (tOp r ta tb) := ⟨pe_ix hr ha.pe hb.pe hs⟩
theorem qe_tup {x1} (h : PL X es t) : QE X (.Tuple es x1 pos) (tTup t) := ⟨pe_tup h.pa⟩
theorem qe_lst (h : PL X es t) : QE X (.List es pos) (tLst t) := ⟨pe_lst h.pa⟩
end
section
variable {X : Cx} {e : Expr} {te : TE} {st : Stmt} {rest : List Stmt} {t u : TS} {pos : Pos}
theorem qs_of (h : PS X st t) : QS X st t := ⟨h⟩
theorem qs_ret (he : QE X e te) : QS X (.Return (some e) pos) (tRet te) := ⟨ps_ret he.pe⟩
theorem qs_set {i : Nat} {x : Str} {pos' : Pos} (hN : X.N.Nodup) (hi : X.N[i]? = some x) (hx : Loc X.env.scope x) (he : QE X e te) (hs : swapsWith e (some (.Name x pos')) pos.line X.env = pure false) (hf : X.fn x = true ∨ X.env.scope.names.lookup x = some .local) :
    QS X (.Assign [.Name x pos'] e pos) (tAsg te (gName i)) := ⟨ps_set hN hi hx he.pe hs hf⟩
theorem qs_if {c : Expr} {a b : List Stmt} {tc : TT} (hc : PT X c tc) (ha : QSs X a t) (hb : QSs X b u) : QS X (.If c a b pos) (tIfS tc t u) := ⟨ps_if hc ha.pss hb.pss⟩
theorem qss_nil : QSs X [] tNext := ⟨pss_nil⟩
theorem qss_one (h1 : QS X st t) : QSs X [st] t := ⟨pss_one h1.ps⟩
theorem qss_cons (h1 : QS X st t) (h2 : QSs X rest u) : QSs X (st :: rest) (tSeq t u) := ⟨pss_cons h1.ps h2.pss⟩
theorem qss_at {b : List Stmt} (h : QSs X b t) : PSs X b t := h.pss
end
end L2
namespace PySem
def RI (M : Model) (Γ : Ctx) (p : Pos) (t : Sem Fin) (fs : List Frame) (s : Shared) (e : End) (s' : Shared) : Prop := match fs with
  | F :: fs => (∃ k h g l c₁ p₁ kp r s₁, F = .ret k h g l c₁ p₁ kp ∧ Runs M (Γ.over (F :: fs)) p t [] s (.ret r) s₁ ∧ Runs M (Γ.goto c₁) p₁ (k r) fs s₁ e s') ∨
    (∃ g k l c₁ p₁ r s₁, F = .gen g k l c₁ p₁ ∧ Runs M (Γ.over (F :: fs)) p t [] s (.ret r) s₁ ∧ Runs M (Γ.goto c₁) p₁ (k (End.ret r).result) fs (s₁.setGen g .finished) e s') ∨
    (∃ v g₀ l₀ k₀ c₀ p₀ fs₀, splitAtGen (F :: fs) = none ∧ Runs M (Γ.over (F :: fs)) p t [] s (.susp v g₀ l₀ k₀ c₀ p₀ fs₀) s' ∧ e = .susp v g₀ l₀ k₀ c₀ p₀ (fs₀ ++ F :: fs)) ∨
    (∃ pre g k c₁ p₁ rest v g₀ l₀ k₀ c₀ p₀ fs₀ s₁, splitAtGen (F :: fs) = some (pre, (g, k, c₁, p₁), rest) ∧ Runs M (Γ.over (F :: fs)) p t [] s (.susp v g₀ l₀ k₀ c₀ p₀ fs₀) s₁ ∧ Runs M (Γ.goto c₁) p₁ (k (.yielded v)) rest (s₁.setGen g (End.susp v g₀ l₀ k₀ c₀ p₀ (fs₀ ++ pre)).genState) e s')
  | [] => match t with
    | .pure (.done f) => e = .ret (.ok f) ∧ s' = s
    | .pure (.again c) => Runs M (Γ.goto c) p (M.den c) [] s e s'
    | .raise x => e = .ret (.error x) ∧ s' = s
    | .rule _ k => Runs M Γ p (k ()) [] s e s'
    | .at q k => Runs M Γ q (k ()) [] s e s'
    | .load a _ k => ∃ o, s.heap.get? a = some o ∧ Runs M Γ p (k o) [] s e s'
    | .update a _ f k => Runs M Γ p (k ()) [] { s with heap := s.heap.update a f } e s'
    | .loadIfAlive a k => Runs M Γ p (k (s.heap.get? a)) [] s e s'
    | .point _ k => Runs M Γ p (k ()) [] s e s'
    | .alloc o k => Runs M Γ p (k s.heap.objs.size) [] { s with heap := s.heap.push o } e s'
    | .fresh k => Runs M Γ p (k s.toks) [] { s with toks := s.toks + 1 } e s'
    | .ask k => Runs M Γ p (k { program := M.prog, params := M.w.params }) [] s e s'
    | .choose src n k => Runs M Γ p (k (M.w.draws src (s.drawn.get src) % n)) [] { s with drawn := s.drawn.bump src } e s'
    | .os q _ k => Runs M Γ p (k (Os.step s.os q).2) [] { s with os := (Os.step s.os q).1 } e s'
    | .handled own k => Runs M Γ p (k (if own then Γ.own else Γ.handled)) [] s e s'
    | .genState g k => ∃ st, s.gens[g]? = some st ∧ Runs M Γ p (k st.seen) [] s e s'
    | .stack k => Runs M Γ p (k ((Γ.code, p) :: Γ.below)) [] s e s'
    | .thread k => Runs M Γ p (k 0) [] s e s'
    | .newGen c k => Runs M Γ p (k s.gens.size) [] { s with gens := s.gens.push (.fresh c) } e s'
    | .call c h g l k => (∃ r s₁, Runs M (Γ.enter c h p) p (M.den c) [] s (.ret r) s₁ ∧ Runs M Γ p (k r) [] s₁ e s') ∨ ∃ v g₀ l₀ k₀ c₀ p₀ fs, Runs M (Γ.enter c h p) p (M.den c) [] s (.susp v g₀ l₀ k₀ c₀ p₀ fs) s' ∧ e = .susp v g₀ l₀ k₀ c₀ p₀ (fs ++ [.ret k h g l Γ.code p []])
    | .yield v g l k => e = .susp v g l k Γ.code p [] ∧ s' = s
    | .resume g r _ k => ∃ st, s.gens[g]? = some st ∧ match st, r with
      | .fresh c, .send v => (v = .none ∧ ∃ e₁ s₁, Runs M (Γ.wake c p) p (M.den c) [] (s.setGen g .running) e₁ s₁ ∧ Runs M Γ p (k e₁.result) [] (s₁.setGen g e₁.genState) e s') ∨ (v ≠ .none ∧ Runs M Γ p (k .justStarted) [] s e s')
      | .fresh _, .throw x => Runs M Γ p (k (.raised x)) [] (s.setGen g .finished) e s'
      | .suspended k₀ _ c₀ p₀ fs _, r => ∃ e₁ s₁, Runs M (Γ.wake c₀ p) p₀ (k₀ r) fs (s.setGen g .running) e₁ s₁ ∧ Runs M Γ p (k e₁.result) [] (s₁.setGen g e₁.genState) e s'
      | .running, _ => Runs M Γ p (k .running) [] s e s'
      | .finished, _ => Runs M Γ p (k .finished) [] s e s'
    | _ => False
theorem Runs.inv {M : Model} {Γ : Ctx} {p : Pos} {t : Sem Fin} {fs : List Frame} {s : Shared} {e : End} {s' : Shared} (h : Runs M Γ p t fs s e s') : RI M Γ p t fs s e s' := by
  cases h with
  | done => exact ⟨rfl, rfl⟩
  | raise => exact ⟨rfl, rfl⟩
  | yield => exact ⟨rfl, rfl⟩
  | again q h => exact h
  | rule h | «at» h | loadIfAlive h | point h | alloc h | fresh h | ask h | os h | handled h | stack h | thread h | newGen h => exact h
  | load e h => exact ⟨_, e, h⟩
  | genState e h => exact ⟨_, e, h⟩
  | update e h => exact h
  | choose e h => exact h
  | call a b => exact .inl ⟨_, _, a, b⟩
  | callSusp a => exact .inr ⟨_, _, _, _, _, _, _, a, rfl⟩
  | resumeFresh g a q b => exact ⟨_, g, .inl ⟨rfl, _, _, a, b⟩⟩
  | resumeSuspended g a q b => exact ⟨_, g, _, _, a, b⟩
  | resumeJustStarted g v a => exact ⟨_, g, .inr ⟨v, a⟩⟩
  | resumeThrowFresh g a => exact ⟨_, g, a⟩
  | resumeRunning g a => exact ⟨_, g, a⟩
  | resumeFinished g a => exact ⟨_, g, a⟩
  | segRet a b => exact .inl ⟨_, _, _, _, _, _, _, _, _, rfl, a, b⟩
  | segGen a b => exact .inr (.inl ⟨_, _, _, _, _, _, _, rfl, a, b⟩)
  | segSuspOut q a => exact .inr (.inr (.inl ⟨_, _, _, _, _, _, _, q, a, rfl⟩))
  | segSuspGen q a q2 b => exact .inr (.inr (.inr ⟨_, _, _, _, _, _, _, _, _, _, _, _, _, _, q, a, b⟩))
theorem Runs.det {M : Model} {Γ : Ctx} {p : Pos} {t : Sem Fin} {fs : List Frame} {s : Shared} {e : End} {s' : Shared} (h1 : Runs M Γ p t fs s e s') : ∀ {e2 : End} {s2 : Shared}, Runs M Γ p t fs s e2 s2 → e = e2 ∧ s' = s2 := by
  induction h1 with
  | done | raise | yield => exact fun h2 => ⟨h2.inv.1.symm, h2.inv.2.symm⟩
  | rule h ih | «at» h ih | loadIfAlive h ih | point h ih | alloc h ih | fresh h ih | ask h ih | os h ih | handled h ih | stack h ih | thread h ih | newGen h ih | again q h ih | update e h ih | choose e h ih => exact fun h2 => ih h2.inv
  | load e h ih | genState e h ih =>
    intro e2 s2 h2
    obtain ⟨_, e', a⟩ := h2.inv
    cases e.symm.trans e'
    exact ih a
  | call h k ih1 ih2 =>
    intro e2 s2 h2
    rcases h2.inv with ⟨_, _, a, b⟩ | ⟨_, _, _, _, _, _, _, a, b⟩
    · obtain ⟨e1, e3⟩ := ih1 a
      cases e1
      cases e3
      exact ih2 b
    · cases (ih1 a).1
  | callSusp h ih =>
    intro e2 s2 h2
    rcases h2.inv with ⟨_, _, a, b⟩ | ⟨_, _, _, _, _, _, _, a, rfl⟩
    · cases (ih a).1
    · obtain ⟨e1, e3⟩ := ih a
      cases e1
      exact ⟨rfl, e3⟩
  | resumeFresh g h q k ih1 ih2 =>
    intro e2 s2 h2
    obtain ⟨_, e', a⟩ := h2.inv
    cases g.symm.trans e'
    rcases a with ⟨_, _, _, a, b⟩ | ⟨v, _⟩
    · obtain ⟨e1, e3⟩ := ih1 a
      cases e1
      cases e3
      exact ih2 b
    · exact absurd rfl v
  | resumeSuspended g h q k ih1 ih2 =>
    intro e2 s2 h2
    obtain ⟨_, e', a⟩ := h2.inv
    cases g.symm.trans e'
    obtain ⟨_, _, a, b⟩ := a
    obtain ⟨e1, e3⟩ := ih1 a
    cases e1
    cases e3
    exact ih2 b
  | resumeJustStarted g v k ih =>
    intro e2 s2 h2
    obtain ⟨_, e', a⟩ := h2.inv
    cases g.symm.trans e'
    rcases a with ⟨a, _⟩ | ⟨_, a⟩
    · exact absurd a v
    · exact ih a
  | resumeThrowFresh g k ih | resumeRunning g k ih | resumeFinished g k ih =>
    intro e2 s2 h2
    obtain ⟨_, e', a⟩ := h2.inv
    cases g.symm.trans e'
    exact ih a
  | segRet h k ih1 ih2 =>
    intro e2 s2 h2
    rcases h2.inv with ⟨_, _, _, _, _, _, _, _, _, e, a, b⟩ | ⟨_, _, _, _, _, _, _, e, a, b⟩ | ⟨_, _, _, _, _, _, _, _, a, _⟩ | ⟨_, _, _, _, _, _, _, _, _, _, _, _, _, _, _, a, _⟩
    · cases e
      obtain ⟨e1, e3⟩ := ih1 a
      cases e1
      cases e3
      exact ih2 b
    · cases e
    · cases (ih1 a).1
    · cases (ih1 a).1
  | segGen h k ih1 ih2 =>
    intro e2 s2 h2
    rcases h2.inv with ⟨_, _, _, _, _, _, _, _, _, e, a, b⟩ | ⟨_, _, _, _, _, _, _, e, a, b⟩ | ⟨_, _, _, _, _, _, _, _, a, _⟩ | ⟨_, _, _, _, _, _, _, _, _, _, _, _, _, _, _, a, _⟩
    · cases e
    · cases e
      obtain ⟨e1, e3⟩ := ih1 a
      cases e1
      cases e3
      exact ih2 b
    · cases (ih1 a).1
    · cases (ih1 a).1
  | segSuspOut q h ih =>
    intro e2 s2 h2
    rcases h2.inv with ⟨_, _, _, _, _, _, _, _, _, _, a, b⟩ | ⟨_, _, _, _, _, _, _, _, a, b⟩ | ⟨_, _, _, _, _, _, _, _, a, rfl⟩ | ⟨_, _, _, _, _, _, _, _, _, _, _, _, _, _, q', a, _⟩
    · cases (ih a).1
    · cases (ih a).1
    · obtain ⟨e1, e3⟩ := ih a
      cases e1
      exact ⟨rfl, e3⟩
    · cases q.symm.trans q'
  | segSuspGen q h q2 k ih1 ih2 =>
    intro e2 s2 h2
    rcases h2.inv with ⟨_, _, _, _, _, _, _, _, _, _, a, b⟩ | ⟨_, _, _, _, _, _, _, _, a, b⟩ | ⟨_, _, _, _, _, _, _, q', a, _⟩ | ⟨_, _, _, _, _, _, _, _, _, _, _, _, _, _, q', a, b⟩
    · cases (ih1 a).1
    · cases (ih1 a).1
    · cases q.symm.trans q'
    · cases q.symm.trans q'
      obtain ⟨e1, e3⟩ := ih1 a
      cases e1
      cases e3
      exact ih2 b
theorem Wakes.det {M : Model} {Γ : Ctx} {p : Pos} {g : Nat} {r : Resume} {s : Shared} {res res2 : GenResult} {s' s2 : Shared} (h1 : Wakes M Γ p g r s res s') (h2 : Wakes M Γ p g r s res2 s2) : res = res2 ∧ s' = s2 := by
  have ex : ∀ {Γ' : Ctx} {p' : Pos} {tr : Sem Fin} {fs : List Frame} {t0 : Shared}, (∃ e₁ s₁, Runs M Γ' p' tr fs t0 e₁ s₁ ∧ e₁.quiet = true ∧ res = e₁.result ∧ s' = s₁.setGen g e₁.genState) → (∃ e₁ s₁, Runs M Γ' p' tr fs t0 e₁ s₁ ∧ e₁.quiet = true ∧ res2 = e₁.result ∧ s2 = s₁.setGen g e₁.genState) → res = res2 ∧ s' = s2 := by
    intro _ _ _ _ _ ⟨e1, s1, a1, _, a3, a4⟩ ⟨f1, t1, b1, _, b3, b4⟩
    obtain ⟨z1, z2⟩ := a1.det b1
    subst z1 z2
    exact ⟨a3.trans b3.symm, a4.trans b4.symm⟩
  unfold Wakes at h1 h2
  cases e : s.gens[g]? with
  | none => rw [e] at h1; exact h1.elim
  | some st =>
    rw [e] at h1 h2
    cases st with
    | fresh c =>
      cases r with
      | send v => cases v <;> first | exact ex h1 h2 | exact ⟨h1.1.trans h2.1.symm, h1.2.trans h2.2.symm⟩
      | throw x => exact ⟨h1.1.trans h2.1.symm, h1.2.trans h2.2.symm⟩
    | suspended k0 l0 c0 p0 fs cl => exact ex h1 h2
    | running => exact ⟨h1.1.trans h2.1.symm, h1.2.trans h2.2.symm⟩
    | finished => exact ⟨h1.1.trans h2.1.symm, h1.2.trans h2.2.symm⟩
theorem Sem.wp_and {α : Type} {M : Model} {Γ : Ctx} {t : Sem α} {Q Q2 : α → Pos → Shared → Prop} {E E2 : Value → Pos → Shared → Prop} : ∀ {p : Pos} {s : Shared}, Sem.wp M Γ t Q E p s → Sem.wp M Γ t Q2 E2 p s → Sem.wp M Γ t (fun a p s => Q a p s ∧ Q2 a p s) (fun e p s => E e p s ∧ E2 e p s) p s := by
  induction t with
  | pure x => intro p s h1 h2; exact ⟨h1, h2⟩
  | raise v => intro p s h1 h2; exact ⟨h1, h2⟩
  | unsupported | finish | yield | fork | await | register => intro p s h1 _; exact h1
  | rule _ k ih | «at» _ k ih | alloc _ k ih | loadIfAlive _ k ih | point _ k ih | fresh k ih | ask k ih | os _ _ k ih | handled _ k ih | newGen _ k ih | stack k ih | thread k ih => intro p s h1 h2; exact ih _ h1 h2
  | load a _ k ih | genState a k ih =>
    intro p s ⟨o, h, h1⟩ ⟨o2, h', h2⟩
    rw [h] at h'
    cases h'
    exact ⟨o, h, ih _ h1 h2⟩
  | update a _ f k ih | choose _ _ k ih => intro p s ⟨h, h1⟩ ⟨_, h2⟩; exact ⟨h, ih _ h1 h2⟩
  | call c h g l k ih =>
    intro p s ⟨r, s', a, h1⟩ ⟨r2, s2, b, h2⟩
    obtain ⟨e1, e2⟩ := Runs.det a b
    cases e1
    cases e2
    exact ⟨r, s', a, ih _ h1 h2⟩
  | resume g r l k ih =>
    intro p s ⟨res, s', a, h1⟩ ⟨res2, s2, b, h2⟩
    obtain ⟨e1, e2⟩ := a.det b
    cases e1
    cases e2
    exact ⟨res, s', a, ih _ h1 h2⟩
theorem wpAny_and {α : Type} {M : Model} {A : Around} {t : Sem α} {Q Q2 : α → Shared → Prop} {E E2 : Value → Shared → Prop} {s : Shared} (h1 : wpAny M A t Q E s) (h2 : wpAny M A t Q2 E2 s) : wpAny M A t (fun a s => Q a s ∧ Q2 a s) (fun e s => E e s ∧ E2 e s) s :=
  fun Γ p i => Sem.wp_and (h1 Γ p i) (h2 Γ p i)
end PySem
namespace L2
open PySem PySem.Spec PyProof.Rows
def DictAt (e : Addr) (dc : Option Addr) (h : Heap) : Prop := ∃ o, h.get? e = some o ∧ o.dict = dc
section
variable {M : Model} {A : Around} {E : Value → Shared → Prop} {s : Shared}
theorem entry_D {base : Heap} {env : Env} {outer : List Env} {L e : Addr} {oe : Obj} {vs : Array Value} {head : Value} {hadNext : Bool} {Q : Unit → Shared → Prop} (hfr : A.frames = some (env :: outer)) (hl : s.heap.FunFrames base (env :: outer)) (hf : env.frame = some L)
    (he : s.heap.get? e = some oe) (hd : oe.data = .fields vs) (hsz : 1 < vs.size)
    (h : ∀ (h' : Heap) (o : Obj) (ws : Array Value) (T : Addr) (oT : Obj) (ts : Array Value), h'.get? e = some o → o.dict = oe.dict → o.data = .fields ws → ws[1]? = some (.ref T) → T ≠ e → h'.get? T = some oT → oT.data = .fields ts → 3 < ts.size → Q () { s with heap := h' }) :
    wpAny M A (do let a ← frameOf env; let pl ← entryPlaceOf L hadNext; let b ← EntryCells.newEntry head a .none (rawInt L) .none pl; setField (.ref e) 1 b) Q E s := by
  have hene : e ∉ (env :: outer).filterMap (·.frame) := fun hm => by
    obtain ⟨_, o, ho, hnf⟩ := hl.mem hm
    rw [he] at ho
    cases ho
    exact hnf vs hd
  refine wpAny_bind (wpAny_frameOf_fun hfr hl hf fun h1 hs => wpAny_bind (wpAny_entryPlaceOf fun pl hpl => ?_))
  unfold EntryCells.newEntry newFields
  refine wpAny_bind (wpAny_newObj_type ?_ (hpl.sizeOk5 _ _ _ _ _))
  have he1 : h1.get? e = some oe := (hs.2.1 e hene).trans he
  have ne : h1.objs.size ≠ e := Nat.ne_of_gt (Heap.lt_size he1)
  refine wpAny_setField (Heap.get?_push_of_some _ he1) hd hsz (h _ _ _ h1.objs.size _ _ (Heap.get?_update_self _ (Heap.get?_push_of_some _ he1) (Obj.isFreed_of_fields (Obj.data_mapFields hd _))) ?_ (Obj.data_mapFields hd _) (by simp [hsz]) ne ((Heap.get?_update_other _ _ (Ne.symm ne)).trans (Heap.get?_push_size h1 rfl)) rfl ?_)
  · obtain ⟨oc, od, odt, osl⟩ := oe
    cases hd
    rfl
  · simp only [List.size_toArray, List.length_append, List.length_cons, List.length_nil]
    omega
theorem flight_D {e T : Addr} {o oT : Obj} {ws ts : Array Value} {Q : Unit → Shared → Prop} (he : s.heap.get? e = some o) (hd : o.data = .fields ws) (h1 : ws[1]? = some (.ref T)) (ne : T ≠ e) (hT : s.heap.get? T = some oT) (hdT : oT.data = .fields ts) (h3 : 3 < ts.size)
    (h : ∀ h', DictAt e o.dict h' → Q () { s with heap := h' }) : wpAny M A (setFlight (.ref e) none) Q E s := by
  unfold setFlight
  refine wpAny_bind (wpAny_field he hd h1 ?_)
  rw [if_pos (show (Value.ref T != Value.none) = true from by simp)]
  exact wpAny_setField hT hdT h3 (h _ ⟨o, (Heap.get?_update_other _ _ ne).trans he, rfl⟩)
theorem note_D {base : Heap} {env : Env} {outer : List Env} {L e : Addr} {cls a0 : Value} {dc : Option Addr} {Q : Unit → Shared → Prop} (hfr : A.frames = some (env :: outer)) (hf : env.frame = some L) (fl : Heap.FlyingW base (env :: outer) e cls a0 s.heap) (hdc : DictAt e dc s.heap)
    (h : ∀ (h' : Heap) (o : Obj) (ws : Array Value) (T : Addr) (oT : Obj) (ts : Array Value), h'.get? e = some o → o.dict = dc → o.data = .fields ws → ws[1]? = some (.ref T) → T ≠ e → h'.get? T = some oT → oT.data = .fields ts → 3 < ts.size → Q () { s with heap := h' }) : wpAny M A (noteFrame (.ref e) env) Q E s := by
  obtain ⟨_, _, hl, oe, vs, T, oT, ts, he, _, hd, h1, _, hTe, hT, hdT, h3⟩ := fl
  obtain ⟨o', ho, hdc⟩ := hdc
  rw [he] at ho
  cases ho
  unfold noteFrame
  simp only [hf]
  refine wpAny_bind (wpAny_field he hd h1 ?_)
  rw [if_pos (show (Value.ref T != Value.none) = true from by simp)]
  refine wpAny_bind (wpAny_field hT hdT h3 ?_)
  rw [if_neg (show ¬ ((Value.none == rawInt L) = true) from by simp [rawInt])]
  refine wpAny_bind (wpAny_setField hT hdT (Array.getElem?_eq_some_iff.mp h3).1 ?_)
  have other : ∀ b, b ≠ T → (s.heap.update T (Obj.mapFields (·.setIfInBounds 3 Value.none))).get? b = s.heap.get? b := fun b hb => Heap.get?_update_other _ _ (Ne.symm hb)
  have nT : ∀ b o, s.heap.get? b = some o → (∀ vs, o.data ≠ .fields vs) → b ≠ T := fun b o hb hnf q => by
    rw [q, hT] at hb
    cases hb
    exact hnf ts hdT
  refine entry_D hfr (hl.of_keeps fun b o hb hnf => ⟨o, (other b (nT b o hb hnf)).trans hb, rfl⟩) hf ((other e (Ne.symm hTe)).trans he) hd (Array.getElem?_eq_some_iff.mp h1).1 fun h' o ws T' oT' ts' q1 q2 => h h' o ws T' oT' ts' q1 (q2.trans hdc)
theorem leave_firstD {base : Heap} {env : Env} {outer : List Env} {L e : Addr} {oe : Obj} {vs : Array Value} {a0 : Value} {Q : Unit → Shared → Prop} (hfr : A.frames = some (env :: outer)) (hl : s.heap.FunFrames base (env :: outer)) (hf : env.frame = some L)
    (he : s.heap.get? e = some oe) (hkb : base.StaysIn s.heap) (hen : base.get? e = none) (hd : oe.data = .fields vs) (h1 : vs[1]? = some .none) (h0 : vs[0]? = some a0)
    (h : ∀ h', Heap.LeftW base (env :: outer) e oe.cls a0 s.heap h' → DictAt e oe.dict h' → Q () { s with heap := h' }) : wpAny M A (leaving env (.ref e)) Q E s := by
  refine wpAny_mono (wpAny_and (wpAny_leaving_firstW (Q := fun _ s' => ∃ h', s' = { s with heap := h' } ∧ Heap.LeftW base (env :: outer) e oe.cls a0 s.heap h') (E := E) hfr hl hf he hkb hen hd h1 h0 fun h' q => ⟨h', rfl, q⟩) (Q2 := fun _ s' => DictAt e oe.dict s'.heap) (E2 := fun _ _ => True) ?_) (fun _ s' ⟨⟨h', e1, q⟩, d⟩ => by subst e1; exact h h' q d) fun _ _ z => z.1
  unfold leaving noteFrame
  simp only [hf]
  refine wpAny_bind (wpAny_bind (wpAny_field he hd h1 ?_))
  rw [if_neg (by decide)]
  exact entry_D hfr hl hf he hd (Array.getElem?_eq_some_iff.mp h1).1 fun h' o ws T oT ts q1 q2 q3 q4 q5 q6 q7 q8 => flight_D (s := { s with heap := h' }) q1 q3 q4 q5 q6 q7 q8 fun h'' d => q2 ▸ d
theorem leave_onD {base : Heap} {env : Env} {outer : List Env} {L e : Addr} {cls a0 : Value} {dc : Option Addr} {Q : Unit → Shared → Prop} (hfr : A.frames = some (env :: outer)) (hf : env.frame = some L) (fl : Heap.FlyingW base (env :: outer) e cls a0 s.heap) (hdc : DictAt e dc s.heap)
    (h : ∀ h', Heap.FlyingW base outer e cls a0 h' → s.heap.UpToSlots h' → DictAt e dc h' → Q () { s with heap := h' }) : wpAny M A (leaving env (.ref e)) Q E s := by
  refine wpAny_mono (wpAny_and (wpAny_leaves_onW (Q := fun _ s' => ∃ h', s' = { s with heap := h' } ∧ Heap.FlyingW base outer e cls a0 h' ∧ s.heap.UpToSlots h') (E := E) hfr hf fl fun h' q u => ⟨h', rfl, q, u⟩) (Q2 := fun _ s' => DictAt e dc s'.heap) (E2 := fun _ _ => True) ?_) (fun _ s' ⟨⟨h', e1, q, u⟩, d⟩ => by subst e1; exact h h' q u d) fun _ _ z => z.1
  unfold leaving
  exact wpAny_bind (note_D hfr hf fl hdc fun h' o ws T oT ts q1 q2 q3 q4 q5 q6 q7 q8 => flight_D (s := { s with heap := h' }) q1 q3 q4 q5 q6 q7 q8 fun h'' d => q2 ▸ d)
theorem looks_onD {base : Heap} {env : Env} {outer : List Env} {L e : Addr} {cls a0 : Value} {dc : Option Addr} {Q : Unit → Shared → Prop} (hfr : A.frames = some (env :: outer)) (hf : env.frame = some L) (fl : Heap.FlyingW base (env :: outer) e cls a0 s.heap) (hdc : DictAt e dc s.heap)
    (h : ∀ h', Heap.HeldW base (env :: outer) e cls a0 L h' → s.heap.UpToSlots h' → DictAt e dc h' → Q () { s with heap := h' }) : wpAny M A (noteFrame (.ref e) env) Q E s :=
  wpAny_mono (wpAny_and (wpAny_looks_onW (Q := fun _ s' => ∃ h', s' = { s with heap := h' } ∧ Heap.HeldW base (env :: outer) e cls a0 L h' ∧ s.heap.UpToSlots h') (E := E) hfr hf fl fun h' q u => ⟨h', rfl, q, u⟩) (note_D (Q := fun _ s' => DictAt e dc s'.heap) (E := fun _ _ => True) hfr hf fl hdc fun h' o ws T oT ts q1 q2 _ _ _ _ _ _ => ⟨o, q1, q2⟩))
    (fun _ s' ⟨⟨h', e1, q, u⟩, d⟩ => by subst e1; exact h h' q u d) fun _ _ z => z.1
theorem landsD {base : Heap} {l : List Env} {e L : Addr} {cls a0 : Value} {dc : Option Addr} {Q : Unit → Shared → Prop} (hh : Heap.HeldW base l e cls a0 L s.heap) (hdc : DictAt e dc s.heap)
    (h : ∀ h', Heap.FlyingW base l e cls a0 h' → s.heap.UpToSlots h' → DictAt e dc h' → Q () { s with heap := h' }) : wpAny M A (setFlight (.ref e) none) Q E s := by
  obtain ⟨_, _, _, oe, vs, T, oT, ts, he, _, hd, h1, _, hTe, hT, hdT, h3⟩ := id hh
  obtain ⟨o', ho, hdc⟩ := hdc
  rw [he] at ho
  cases ho
  exact wpAny_mono (wpAny_and (wpAny_landsW (Q := fun _ s' => ∃ h', s' = { s with heap := h' } ∧ Heap.FlyingW base l e cls a0 h' ∧ s.heap.UpToSlots h') (E := E) hh fun h' q u => ⟨h', rfl, q, u⟩) (flight_D (Q := fun _ s' => DictAt e dc s'.heap) (E := fun _ _ => True) he hd h1 hTe hT hdT (Array.getElem?_eq_some_iff.mp h3).1 fun h' d => hdc ▸ d))
    (fun _ s' ⟨⟨h', e1, q, u⟩, d⟩ => by subst e1; exact h h' q u d) fun _ _ z => z.1
theorem lands_againD {base : Heap} {l : List Env} {e : Addr} {cls a0 : Value} {dc : Option Addr} {Q : Unit → Shared → Prop} (hh : Heap.FlyingW base l e cls a0 s.heap) (hdc : DictAt e dc s.heap)
    (h : ∀ h', Heap.FlyingW base l e cls a0 h' → s.heap.UpToSlots h' → DictAt e dc h' → Q () { s with heap := h' }) : wpAny M A (setFlight (.ref e) none) Q E s := by
  obtain ⟨_, _, _, oe, vs, T, oT, ts, he, _, hd, h1, _, hTe, hT, hdT, h3⟩ := id hh
  obtain ⟨o', ho, hdc⟩ := hdc
  rw [he] at ho
  cases ho
  exact wpAny_mono (wpAny_and (lands_againW (Q := fun _ s' => ∃ h', s' = { s with heap := h' } ∧ Heap.FlyingW base l e cls a0 h' ∧ s.heap.UpToSlots h') (E := E) hh fun h' q u => ⟨h', rfl, q, u⟩) (flight_D (Q := fun _ s' => DictAt e dc s'.heap) (E := fun _ _ => True) he hd h1 hTe hT hdT (Array.getElem?_eq_some_iff.mp h3).1 fun h' d => hdc ▸ d))
    (fun _ s' ⟨⟨h', e1, q, u⟩, d⟩ => by subst e1; exact h h' q u d) fun _ _ z => z.1
end
end L2
namespace L2
open PySem PySem.Spec PyProof.Rows
section
variable {P : Program} {w : World} {H H' : Hp} {h h' : Heap} {a : Addr} {o : HO}
theorem ObjOk.has (x : ObjOk P w H h a o) : ∃ ob, h.get? a = some ob := by
  induction o with
  | lst xs => obtain ⟨_, _, _, _, e⟩ := x; exact ⟨_, e⟩
  | tup xs => obtain ⟨_, _, _, ob, e, _⟩ := x; exact ⟨ob, e⟩
  | dK kvs => obtain ⟨_, _, _, _, ob, _, _, e, _⟩ := x; exact ⟨ob, e⟩
  | dT kvs => obtain ⟨_, _, _, _, ob, _, _, e, _⟩ := x; exact ⟨ob, e⟩
  | set S n => obtain ⟨ob, _, _, _, e, _⟩ := x; exact ⟨ob, e⟩
  | ins C dx fs => obtain ⟨_, _, _, e, _⟩ := x; exact ⟨_, e⟩
  | own y => exact x
  | xd fs => obtain ⟨_, ⟨ob, _, _, e, _⟩, _⟩ := x; exact ⟨ob, e⟩
  | rng lo hi => obtain ⟨_, _, _, e⟩ := x; exact ⟨_, e⟩
  | frz ob u _ => obtain ⟨e, _⟩ := x; exact ⟨_, e⟩
  | tbl ps => exact ⟨_, x⟩
  | met f y => exact ⟨_, x⟩
  | ext φ => exact x.2.1
theorem HOk.gone (x : HOk P w H h) (e : h.get? a = none) : H a = none := by
  cases q : H a with
  | none => rfl
  | some u =>
    obtain ⟨ob, z⟩ := (x a u q).has
    rw [e] at z
    cases z
end
structure Fl (h0 : Heap) (H : Hp) (h : Heap) (e : Addr) (cls : Value) (d : Option Addr) : Prop where
  ne : h0.get? e = none
  fe : H e = none
  ex : ∃ oe vs T oT ts a0, h.get? e = some oe ∧ oe.cls = cls ∧ oe.dict = d ∧ oe.data = .fields vs ∧ vs[0]? = some a0 ∧ vs[1]? = some (.ref T) ∧ h0.get? T = none ∧ H T = none ∧ T ≠ e ∧ h.get? T = some oT ∧ oT.data = .fields ts ∧ ts[3]? = some .none
def CX1 (P : Program) (w : World) : CXT := fun outer H s E v s' => ∃ e C d H', v = .ref e ∧ s'.os = s.os ∧ AllBare s'.gens ∧ Un (frs outer) [] H H' s.heap s'.heap ∧ HOk P w H' s'.heap ∧ Fl s.heap H' s'.heap e (.ref C) d ∧ E (.ref C) d H'
section
variable {X : Cx} {pins : List (Addr × Obj)} {σ : St} {H H' : Hp} {s : Shared}
theorem stk_sup (ok : X.Ok) : ∀ b ∈ frs X.outer, b ∈ frs X.stack := fun b hb => by
  rcases ok.stk with e | ⟨e, hf⟩
  · rw [e]; exact hb
  · rw [e]
    unfold frs
    rw [List.filterMap_cons, hf]
    exact List.mem_cons_of_mem _ hb
theorem leave_keep {g h'' : Heap} {S : List Addr} (I : Inv X pins σ H s) (hex : X.ex = []) (u : Un (frs X.stack) [] H H' s.heap g) (hok : HOk X.prog X.w H' g)
    (keep : ∀ b o, g.get? b = some o → b ∉ frs X.stack → b ∉ S → h''.get? b = some o) (slot : ∀ b o, g.get? b = some o → b ∈ frs X.stack → ∃ sl, h''.get? b = some { o with slots := sl })
    (hS : ∀ b ∈ S, s.heap.get? b = none ∧ H' b = none) : Un (frs X.outer) [] X.H₀ H' X.s₀.heap h'' ∧ HOk X.prog X.w H' h'' := by
  have hx : ∀ b : Addr, b ∉ X.ex := fun b z => by rw [hex] at z; cases z
  have nn : ∀ b : Addr, b ∉ ([] : List Addr) := fun b z => by cases z
  have frH : ∀ b ∈ frs X.stack, H' b = none := fun b hb => by
    obtain ⟨_, ob, ho, _⟩ := I.stack.mem hb
    exact u.free b ob ho (I.stkFree b hb) (nn b)
  have neL : ∀ b o, X.s₀.heap.get? b = some o → b ≠ X.env.locals := fun b o e => Nat.ne_of_lt (Nat.lt_of_lt_of_le (Heap.lt_size e) I.ok.above)
  have nst : ∀ b o, X.s₀.heap.get? b = some o → b ∉ frs X.outer → b ∉ frs X.stack := fun b o e n z => by
    rcases List.mem_cons.mp (I.stkSub b z) with q | q
    · exact neL b o e q
    · exact n q
  have nS : ∀ b o, s.heap.get? b = some o → b ∉ S := fun b o e z => by
    have := (hS b z).1
    rw [e] at this
    cases this
  refine ⟨⟨fun b o e n hb _ => ?_, fun b o e n hb _ => ?_, fun b o e n _ => ?_, fun b o e _ => ?_, fun b xs e => u.tups b xs (I.base.tups b xs e), fun b o xs e => u.frzs b o xs (I.base.frzs b o xs e), fun b ps e => ?_⟩, fun b o e => ?_⟩
  · have e1 := I.base.keep b o e n hb (hx b)
    have e2 := u.keep b o e1 (I.base.free b o e n (hx b)) (nst b o e hb) (nn b)
    exact keep b o e2 (nst b o e hb) (nS b o e1)
  · obtain ⟨sl, e1⟩ := I.base.slot b o e n hb (hx b)
    obtain ⟨sl2, e2⟩ := u.slot b _ e1 (I.base.free b o e n (hx b)) (stk_sup I.ok b hb) (nn b)
    obtain ⟨sl3, e3⟩ := slot b _ e2 (stk_sup I.ok b hb)
    exact ⟨sl3, e3⟩
  · obtain ⟨o', e1⟩ := I.base.there b o e (hx b)
    exact u.free b o' e1 (I.base.free b o e n (hx b)) (nn b)
  · obtain ⟨o', e1⟩ := I.base.there b o e (hx b)
    obtain ⟨o2, e2⟩ := u.there b o' e1 (nn b)
    by_cases hb : b ∈ frs X.stack
    · obtain ⟨sl, e3⟩ := slot b o2 e2 hb
      exact ⟨_, e3⟩
    · exact ⟨o2, keep b o2 e2 hb (nS b o' e1)⟩
  · obtain ⟨m1, e1⟩ := I.base.tbls b ps e
    obtain ⟨m2, e2⟩ := u.tbls b _ e1
    exact ⟨m1 ++ m2, by rw [e2, Array.append_assoc]⟩
  · have tr : ∀ c v, H' c = some v → c ∉ frs X.stack ∧ c ∉ S := fun c v q => ⟨fun z => (by rw [frH c z] at q; cases q), fun z => (by rw [(hS c z).2] at q; cases q)⟩
    refine (hok b o e).stay (fun c v hc q => ?_) (fun _ q => q) fun _ _ q => q
    rcases hc with z | z
    · rw [z] at q ⊢
      exact keep b v q (tr b o e).1 (tr b o e).2
    · exact keep c v q (tr c _ z).1 (tr c _ z).2
theorem frames_in : ∀ {l : List Env}, ∀ env ∈ l, ∀ b, env.frame = some b → b ∈ frs l := fun {l} env he b hb => List.mem_filterMap.mpr ⟨env, he, hb⟩
theorem trace_new {h0 h h1 : Heap} {l : List Env} {T : Addr} {oT : Obj} {ts : Array Value} (hf : h0.FunFrames h0 l ∨ True) (up : ∀ b o, h0.get? b = some o → b ∈ frs l → ∃ sl, h.get? b = some { o with slots := sl }) (nf : ∀ b ∈ frs l, ∃ o, h0.get? b = some o ∧ ∀ vs, o.data ≠ .fields vs)
    (hn : (PySem.W.hideAll h0 (frs l)).get? T = none) (hT : h.get? T = some oT) (hd : oT.data = .fields ts) : h0.get? T = none := by
  cases q : h0.get? T with
  | none => rfl
  | some o =>
    by_cases z : T ∈ frs l
    · obtain ⟨o', e1, e2⟩ := nf T z
      obtain ⟨sl, e3⟩ := up T o' e1 z
      rw [hT] at e3
      cases e3
      exact absurd hd (e2 ts)
    · rw [PySem.W.hideAll_get _ q z] at hn
      cases hn
theorem hide_none {h : Heap} {l : List Addr} {b : Addr} (hn : h.get? b = none) : (PySem.W.hideAll h l).get? b = none := by
  cases q : (PySem.W.hideAll h l).get? b with
  | none => rfl
  | some o =>
    have := PySem.W.of_hideAll _ q
    rw [hn] at this
    cases this
theorem leave_made {M : Model} {E1 : Value → Shared → Prop} {E : XK} {e C : Addr} {vs : List Value} {h' : Heap} (I : Inv X pins σ H s) (hex : X.ex = []) (hst : X.stack = X.env :: X.outer) (hf : X.env.frame = some X.env.locals)
    (hx : Heap.MadeExcOf s.heap h' e (.ref C) vs) (hE : E (.ref C) none H) : wpAny M X.A (leaving X.env (.ref e)) (fun _ s'' => CX1 X.prog X.w X.outer X.H₀ X.s₀ E (.ref e) s'') E1 { s with heap := h' } := by
  have fst := I.stack
  obtain ⟨tt, hobj, _, _⟩ := hx.there
  refine leave_firstD (base := PySem.W.hideAll s.heap (frs X.stack)) (s := { s with heap := h' }) (a0 := .ref tt) (by rw [I.ok.frames, hst]) ((show s.heap.FunFrames (PySem.W.hideAll s.heap (frs X.stack)) (X.env :: X.outer) by rw [← hst]; exact PySem.W.funFrames_hide fst frames_in).of_keeps fun b o hb _ => ⟨o, hx.keeps b o hb, rfl⟩) hf hobj (fun b o q => hx.keeps b o (PySem.W.of_hideAll _ q)) (hide_none hx.new) rfl rfl rfl fun h'' fl dc => ?_
  obtain ⟨st, _, ⟨oe, ws, T, oT, ts, he, ⟨hc, h0⟩, hd, h1, hT, hTe, hT', hdT, h3⟩, up⟩ := fl
  obtain ⟨oe', heo, hdc⟩ := dc
  rw [he] at heo
  cases heo
  have slot : ∀ b o, s.heap.get? b = some o → b ∈ frs X.stack → ∃ sl, h''.get? b = some { o with slots := sl } := fun b o q hb => by
    obtain ⟨_, o', e1, e2⟩ := fst.mem hb
    rw [q] at e1
    cases e1
    exact up b o (hx.keeps b o q) e2
  obtain ⟨u, hk⟩ := leave_keep (S := []) (g := s.heap) I hex Un.refl I.hok (fun b o q hb _ => st b o (PySem.W.hideAll_get _ q hb)) slot fun b z => by cases z
  have nT : s.heap.get? T = none := trace_new (l := X.stack) (h1 := s.heap) (.inr trivial) slot (fun b hb => (fst.mem hb).2) hT hT' hdT
  have n0 : ∀ b, s.heap.get? b = none → X.s₀.heap.get? b = none := fun b q => by
    cases z : X.s₀.heap.get? b with
    | none => rfl
    | some o =>
      obtain ⟨o', e1⟩ := I.base.there b o z (by rw [hex]; intro y; cases y)
      rw [q] at e1
      cases e1
  exact ⟨e, C, none, H, rfl, I.os, I.bare, u, hk, ⟨n0 e hx.new, I.hok.gone hx.new, oe, ws, T, oT, ts, _, he, hc, hdc, hd, h0, h1, n0 T nT, I.hok.gone nT, hTe, hT', hdT, h3⟩, hE⟩
theorem flies {E : XK} {v : Value} {s' : Shared} (I : Inv X pins σ H s) (hx : CX1 X.prog X.w X.stack H s E v s') : ∃ e C d H' T a0, v = .ref e ∧ s'.os = s.os ∧ AllBare s'.gens ∧ Un (frs X.stack) [] H H' s.heap s'.heap ∧ HOk X.prog X.w H' s'.heap ∧ E (.ref C) d H' ∧ DictAt e d s'.heap ∧
    s.heap.get? e = none ∧ H' e = none ∧ s.heap.get? T = none ∧ H' T = none ∧ Heap.FlyingW (PySem.W.hideAll s'.heap (e :: T :: frs X.stack)) X.stack e (.ref C) a0 s'.heap := by
  obtain ⟨e, C, d, H', rfl, os, bare, u, hok, ⟨ne, fe, oe, ws, T, oT, ts, a0, he, hc, hdc, hd, h0, h1, nT, fT, hTe, hT', hdT, h3⟩, hE⟩ := hx
  refine ⟨e, C, d, H', T, a0, rfl, os, bare, u, hok, hE, ⟨oe, he, hdc⟩, ne, fe, nT, fT, fun b o q => PySem.W.of_hideAll _ q, PySem.W.hideAll_none _ (.head _), ?_, oe, ws, T, oT, ts, he, ⟨hc, h0⟩, hd, h1, PySem.W.hideAll_none _ (.tail _ (.head _)), hTe, hT', hdT, h3⟩
  refine PySem.W.funFrames_hide (base := X.base) ?_ fun env henv b hb => .tail _ (.tail _ (frames_in env henv b hb))
  have all : ∀ (l : List Env), (∀ b ∈ frs l, b ∈ frs X.stack) → s.heap.FunFrames X.base l → s'.heap.FunFrames X.base l := by
    intro l
    induction l with
    | nil => intro _ _; trivial
    | cons env r ih =>
      intro hs hl
      obtain ⟨hk, ⟨L, o, hf, hn, ho, hd⟩, hr⟩ := hl
      have hL : L ∈ frs X.stack := hs L (by unfold frs; rw [List.filterMap_cons, hf]; exact List.mem_cons_self)
      obtain ⟨sl, e1⟩ := u.slot L o ho (I.stkFree L hL) hL (by intro z; cases z)
      exact ⟨hk, ⟨L, _, hf, hn, e1, hd⟩, ih (fun b hb => hs b (by unfold frs; rw [List.filterMap_cons, hf]; exact List.mem_cons_of_mem _ hb)) hr⟩
  exact all X.stack (fun _ hb => hb) I.stack
end
end L2
namespace L2
open PySem PySem.Spec PyProof.Rows
section
variable {X : Cx} {pins : List (Addr × Obj)} {σ : St} {H H' : Hp} {s : Shared}
theorem leave_on {M : Model} {E1 : Value → Shared → Prop} {E : XK} {v : Value} {s' : Shared} (I : Inv X pins σ H s) (hex : X.ex = []) (hst : X.stack = X.env :: X.outer) (hf : X.env.frame = some X.env.locals) (hx : CX1 X.prog X.w X.stack H s E v s') :
    wpAny M X.A (leaving X.env v) (fun _ s'' => CX1 X.prog X.w X.outer X.H₀ X.s₀ E v s'') E1 s' := by
  obtain ⟨e, C, d, H', T, a0, rfl, os, bare, u, hok, hE, dc, ne, fe, nT, fT, fl⟩ := flies I hx
  have hfr : ∀ b ∈ frs X.stack, ∃ o, s'.heap.get? b = some o ∧ ∀ ws, o.data ≠ .fields ws := fun b hb => (fl.2.2.1.mem hb).2
  have fl' := fl
  rw [hst] at fl'
  refine leave_onD (by rw [I.ok.frames, hst]) hf fl' dc fun h'' fl2 up dc2 => ?_
  obtain ⟨st, _, _, oe, ws, T2, oT, ts, he, ⟨hc, h0⟩, hd, h1, hT, hTe, hT', hdT, h3⟩ := fl2
  obtain ⟨oe', heo, hdc⟩ := dc2
  rw [he] at heo
  cases heo
  rw [← hst] at st hT
  have slot : ∀ b o, s'.heap.get? b = some o → b ∈ frs X.stack → ∃ sl, h''.get? b = some { o with slots := sl } := fun b o q hb => by
    obtain ⟨o', e1, e2⟩ := hfr b hb
    rw [q] at e1
    cases e1
    exact up b o q e2
  obtain ⟨u2, hk⟩ := leave_keep (S := [e, T]) (g := s'.heap) I hex u hok (fun b o q hb hS => st b o (PySem.W.hideAll_get _ q fun z => by
      rcases List.mem_cons.mp z with y | z
      · exact hS (by rw [y]; exact .head _)
      · rcases List.mem_cons.mp z with y | z
        · exact hS (by rw [y]; exact .tail _ (.head _))
        · exact hb z)) slot fun b z => by
    rcases List.mem_cons.mp z with y | z
    · rw [y]; exact ⟨ne, fe⟩
    · rw [List.mem_singleton.mp z]; exact ⟨nT, fT⟩
  have n0 : ∀ b, s.heap.get? b = none → X.s₀.heap.get? b = none := fun b q => by
    cases z : X.s₀.heap.get? b with
    | none => rfl
    | some o =>
      obtain ⟨o', e1⟩ := I.base.there b o z (by rw [hex]; intro y; cases y)
      rw [q] at e1
      cases e1
  have nT2 : s.heap.get? T2 = none ∧ H' T2 = none := by
    by_cases z : T2 = T
    · rw [z]; exact ⟨nT, fT⟩
    · have g2 : s'.heap.get? T2 = none := by
        cases q : s'.heap.get? T2 with
        | none => rfl
        | some o =>
          by_cases y : T2 ∈ frs X.stack
          · obtain ⟨o', e1, e2⟩ := hfr T2 y
            obtain ⟨sl, e3⟩ := slot T2 o' e1 y
            rw [hT'] at e3
            cases e3
            exact absurd hdT (e2 ts)
          · rw [PySem.W.hideAll_get _ q (fun r => by
              rcases List.mem_cons.mp r with p | r
              · exact hTe p
              · rcases List.mem_cons.mp r with p | r
                · exact z p
                · exact y r)] at hT
            cases hT
      refine ⟨?_, hok.gone g2⟩
      cases q : s.heap.get? T2 with
      | none => rfl
      | some o =>
        obtain ⟨o', e1⟩ := u.there T2 o q (by intro y; cases y)
        rw [g2] at e1
        cases e1
  exact ⟨e, C, d, H', rfl, os.trans I.os, bare, u2, hk, ⟨n0 e ne, fe, oe, ws, T2, oT, ts, a0, he, hc, hdc, hd, h0, h1, n0 T2 nT2.1, nT2.2, hTe, hT', hdT, h3⟩, hE⟩
end
def Throws (X : Cx) (E : XK) : Prop := ∀ (pins : List (Addr × Obj)) (σ : St) (H : Hp) (s : Shared) (e C : Addr) (vs : List Value) (h' : Heap), Inv X pins σ H s → Heap.MadeExcOf s.heap h' e (.ref C) vs → E (.ref C) none H → X.xe (.ref e) { s with heap := h' }
section
variable {P : Program} {w : World} {K : PySem.W.Frag} {mg : Str → Option Value} {base : Heap}
theorem throws_def {N : List Str} {qual : Str} {scope : Scope} {f : Addr} {cd : Value} {A : Around} {outer : List Env} {s : Shared} {H : Hp} {E : XK} : Throws (cxOf (CX1 P w) P w K mg base N qual scope f cd A outer s H E) E :=
  fun _ _ _ _ _ _ _ _ I hx hE => leave_made I rfl rfl rfl hx hE
theorem passes_def {N : List Str} {qual : Str} {scope : Scope} {f : Addr} {cd : Value} {A : Around} {outer : List Env} {s : Shared} {H : Hp} {E : XK} : Passes (CX1 P w) (cxOf (CX1 P w) P w K mg base N qual scope f cd A outer s H E) E :=
  fun _ _ _ _ _ _ I hx => leave_on I rfl rfl rfl hx
theorem Fun.okX {x qual : Str} {st : Stmt} {f : Addr} {fd : FuncData} {N ps : List Str} {k : Nat} {sp : Sp} (F : Fun K x qual st f fd) (S : FnScope N ps (defScope st)) (len : ∀ vs H Q E, sp vs H Q E → vs.length = ps.length)
    (body : ∀ (cdv : Value) (A : Around) (outer : List Env) (s : Shared) (H : Hp) (vs : List V) (Q : VK) (E : XK), Room k (A.deeper (envOfC qual (defScope st) s.heap.objs.size f cdv)) → sp vs H Q E →
      ∃ t, PSs (cxOf (CX1 P w) P w K mg base N qual (defScope st) f cdv A outer s H E) (defBody st) t ∧ t { nx := fun _ H' => Q .non H', rt := Q } (start N vs) H) : FnOk P w K mg base (CX1 P w) (k + 1) f fd ps sp := by
  obtain ⟨oc, od, kV, doc, pm, an, cdv, ct, osl, rfl, lk, hcd⟩ := F.ex
  exact fn_of lk hcd S len fun A outer s H vs Q E hr hsp => body cdv A outer s H vs Q E hr hsp
end
abbrev veMro : List Value := [.type "ValueError", .type "Exception", .type "BaseException", .type "object"]
def ErrC (K : PySem.W.Frag) (C : Addr) : Prop := PySem.W.excIn K C veMro "ValueError.__new__" = true
theorem ErrC.obj {K : PySem.W.Frag} {h : Heap} {C : Addr} (X : K.In h) (q : ErrC K C) : ∃ bm N nm qn bs hdct sn sub ab col dd k0 k1 k2 k3 k5 mN,
    h.get? C = some (excClassObj nm qn C N bs bm hdct sn sub ab col dd k0 k1 k2 k3 k5 "ValueError.__new__") ∧ h.Ns N mN ∧ mN "__init__" = none ∧ OwnTail h veMro bm ∧ K.lookup C = some (excClassObj nm qn C N bs bm hdct sn sub ab col dd k0 k1 k2 k3 k5 "ValueError.__new__") := by
  unfold ErrC PySem.W.excIn at q
  split at q
  · rename_i dd cd sl lk
    split at q
    · rename_i C' bm k0 k1 k2 k3 n k5 hm hs
      simp only [Bool.and_eq_true, beq_iff_eq, Bool.not_eq_true'] at q
      obtain ⟨⟨⟨⟨⟨rfl, rfl⟩, nd⟩, tl⟩, ok⟩, ni⟩ := q
      obtain ⟨nm, bs, mro, ns, qn, hd, sn, sub, ab, col, del⟩ := cd
      dsimp only at hm nd ok ni
      subst hm nd
      have es : sl = #[k0, k1, k2, k3, some (.builtin "ValueError.__new__"), k5] := by
        obtain ⟨l⟩ := sl
        simp only at hs
        rw [hs]
      subst es
      exact ⟨bm, ns, nm, qn, bs, hd, sn, sub, ab, col, dd, k0, k1, k2, k3, k5, h.nsMap ns, X _ _ lk, .of_isNs (PySem.W.isNs_of_in X ok), PySem.W.nsMap_none_of_in X ok ni, PySem.W.tail_of_in X tl, lk⟩
    · cases q
  · cases q
def tRaise (C : Addr) (E : XK) (t : TA) : TS := fun _ σ H => t σ H fun vs H1 => vs.length ≤ sizeLine ∧ E (.ref C) none H1
theorem ps_raise {X : Cx} {x : Str} {C : Addr} {e : Expr} {es : List Expr} {t : TA} {E : XK} {np cpos pos : Pos} (hc : X.calm = true) (th : Throws X E) (hg : Gl X x) (hm : X.mg x = some (.ref C)) (q : ErrC X.K C) (ha : PA X (e :: es) t)
    (hdb : (x == ("__debug__" : Str)) = false := by decide) (he : starEach (e :: es) X.env = (false, eval e X.env) :: starEach es X.env := by rfl) (hpl : (backTo cpos (starEach es X.env)).any (·.1) = false := by rfl) :
    PS X (.Raise (some (.Call (.Name x np) (e :: es) [] cpos)) none pos) (tRaise C E t) := by
  intro pins s σ H D I h
  obtain ⟨bm, N, nm, qn, bs, hdct, sn, sub, ab, col, dd, k0, k1, k2, k3, k5, mN, hC, hN, hni, T, _⟩ := q.obj I.mod.kin
  have hb : veMro.contains (.type "BaseException") = true := by rfl
  have hB : veMro.contains (.type "ValueError") = true := by rfl
  refine wpAny_Raise_call_subU (C := C) (nm := nm) (q := qn) (N := N) (bs := bs) (bm := bm) (hdct := hdct) (sn := sn) (sub := sub) (ab := ab) (col := col) (dd := dd) (k0 := k0) (k1 := k1) (k2 := k2) (k3 := k3) (k5 := k5) F.excBase_ValueError hB F.excBase_ValueError (mN := mN)
    (T.hasType hb) (I.ok.hd hc) (by rw [he]; show (false || (backTo cpos (starEach es X.env)).any (·.1)) = false; rw [hpl]; rfl) hni (ld_glob I hg hm ⟨rfl, ?_⟩ hdb)
  have hA := ha cpos pins s σ H _ I h
  rw [he] at hA ⊢
  refine Calls.evalArgs_plain (thn hA fun us s1 ⟨vs, H1, I1, r, z, hE⟩ => ⟨rfl, ?_, I1.bk _ _ hC, hN.keeps I1.bk, T.keeps I1.bk, fun h' e' hx => th pins σ H1 s1 e' C us h' I1 hx hE⟩)
  show us.length ≤ sizeLine
  rw [← r.length]
  exact z
end L2
namespace L2
open PySem PySem.Spec PyProof.Rows
section
variable {X : Cx} {pins : List (Addr × Obj)} {σ : St} {H H' : Hp} {s : Shared}
abbrev Cx.caught (X : Cx) (e : Addr) : Cx := { X with A := X.A.mark (some (.ref e)), calm := false }
theorem Inv.caught (I : Inv X pins σ H s) (e : Addr) : Inv (X.caught e) pins σ H s :=
  ⟨⟨I.ok.mod, I.ok.kind, I.ok.glob, I.ok.blt, I.ok.above, I.ok.inj, I.ok.has, I.ok.cab, (fun z => by cases z), I.ok.frames, I.ok.stk, I.ok.exf, I.ok.bs, I.ok.bsz, I.ok.noex, I.ok.exfs, I.ok.funs, I.ok.frf⟩,
    I.os, I.bare, I.base, I.loc, I.cell, I.free, I.freeC, I.pin, I.hok, I.len⟩
theorem Inv.uncaught {e : Addr} (ok : X.Ok) (I : Inv (X.caught e) pins σ H s) : Inv X pins σ H s := ⟨ok, I.os, I.bare, I.base, I.loc, I.cell, I.free, I.freeC, I.pin, I.hok, I.len⟩
def PEx (X : Cx) (e : Expr) (t : XK → TE) : Prop := ∀ (pins : List (Addr × Obj)) (s : Shared) (σ : St) (H : Hp) (Q : VK) (E : XK) (Ex : Value → Shared → Prop), Inv X pins σ H s → t E σ H Q →
  (∀ H1 s1 v s', Inv X pins σ H1 s1 → CX1 X.prog X.w X.stack H1 s1 E v s' → Ex v s') → wpAny (model X.prog X.w) X.A (eval e X.env) (EP X pins σ Q) Ex s
def PSx (X : Cx) (b : List Stmt) (t : XK → TS) : Prop := ∀ (pins : List (Addr × Obj)) (s : Shared) (σ : St) (H : Hp) (D : Ends) (E : XK) (Ex : Value → Shared → Prop), Inv X pins σ H s → t E D σ H →
  (∀ H1 s1 v s', Inv X pins σ H1 s1 → CX1 X.prog X.w X.stack H1 s1 E v s' → Ex v s') → wpAny (model X.prog X.w) X.A (execs b X.env) (SP X pins D) Ex s
theorem pex_call {k : Nat} {f : Addr} {fd : FuncData} {ps : List Str} {sp : Sp} {x : Str} {p pos : Pos} {e : Expr} {es : List Expr} {t : TA} (F : FnOk X.prog X.w X.K X.mg X.base (CX1 X.prog X.w) k f fd ps sp) (hr : Room k X.A) (hg : Gl X x) (hm : X.mg x = some (.ref f))
    (hk : PySem.W.keepIn X.K (.ref f) = true) (hb : Binds X.K fd ps []) (ha : PA X.nox (e :: es) t) (hdb : (x == ("__debug__" : Str)) = false := by decide) (he : starEach (e :: es) X.env = (false, eval e X.env) :: starEach es X.env := by rfl)
    (hpl : (backTo pos (starEach es X.env)).any (·.1) = false := by rfl) : PEx X (.Call (.Name x p) (e :: es) [] pos) (fun E => tCall sp [] E t) := by
  intro pins s σ H Q E Ex I h hx
  refine wpAny_Call_Name_kw (ld_glob I hg hm ?_ hdb)
  refine PySem.W.callWith_K (h₀ := X.base) I.ok.mod.kin hk (wpAny_mono (ha pos pins s σ H _ (I.wish _) h) (fun us s1 ⟨vs, H1, I1, r, q⟩ => ?_) fun _ _ z => False.elim z) he hpl
  have I1 := I1.unwish
  refine ⟨I1.kIn, ?_⟩
  have hl : us.length = ps.length := by
    have := F.len _ _ _ _ q
    rw [List.append_nil] at this
    rw [← r.length]
    exact this
  have hbb := hb s1 us I1.kIn (by rw [List.append_nil]; exact hl)
  rw [List.append_nil] at hbb
  have q : sp vs H1 Q E := by
    have q' : sp (vs ++ []) H1 Q E := q
    rwa [List.append_nil] at q'
  refine wpAny_call (codeAny_mono (F.run X.A X.stack s1 H1 ⟨us, []⟩ us vs Q E hr I1.env0 hbb r q) fun r s' hq => ?_)
  cases r with
  | error v => exact hx H1 s1 v s' I1 hq
  | ok fl =>
    cases fl with
    | ret u => exact I1.after hq
    | next => exact False.elim hq
    | brk => exact False.elim hq
    | cont => exact False.elim hq
theorem psx_set {i : Nat} {x : Str} {e : Expr} {te : XK → TE} {pos pos' : Pos} (hN : X.N.Nodup) (hi : X.N[i]? = some x) (hl : Loc X.env.scope x) (he : PEx X e te) (hs : swapsWith e (some (.Name x pos')) pos.line X.env = pure false := by rfl)
    (hf : X.fn x = true ∨ X.env.scope.names.lookup x = some .local := by first | exact .inl rfl | exact .inr rfl) : PSx X [.Assign [.Name x pos'] e pos] (fun E => tAsg (te E) (gName i)) := by
  intro pins s σ H D E Ex I h hx
  refine wpAny_execs_cons (wpAny_Assign_Name (thn (he pins s σ H _ E Ex I h hx) fun v s1 ⟨y, H1, I1, r1, q1⟩ => ?_) hs)
  exact store_ok I1 hN hi hl r1 (fun s2 I2 => wpAny_execs_nil ⟨_, H1, I2, q1⟩) hf
theorem stay_keep {g h'' : Heap} {S : List Addr} (I : Inv X pins σ H s) (u : Un (frs X.stack) [] H H' s.heap g) (hok : HOk X.prog X.w H' g)
    (keep : ∀ b o, g.get? b = some o → b ∉ frs X.stack → b ∉ S → h''.get? b = some o) (slot : ∀ b o, g.get? b = some o → b ∈ frs X.stack → ∃ sl, h''.get? b = some { o with slots := sl })
    (hS : ∀ b ∈ S, s.heap.get? b = none ∧ H' b = none) : Un (frs X.stack) [] H H' s.heap h'' ∧ HOk X.prog X.w H' h'' := by
  have nn : ∀ b : Addr, b ∉ ([] : List Addr) := fun b z => by cases z
  have frH : ∀ b ∈ frs X.stack, H' b = none := fun b hb => by
    obtain ⟨_, ob, ho, _⟩ := I.stack.mem hb
    exact u.free b ob ho (I.stkFree b hb) (nn b)
  have nS : ∀ b o, s.heap.get? b = some o → b ∉ S := fun b o e z => by
    have := (hS b z).1
    rw [e] at this
    cases this
  refine ⟨⟨fun b o e n hb _ => keep b o (u.keep b o e n hb (nn b)) hb (nS b o e), fun b o e n hb _ => ?_, u.free, fun b o e _ => ?_, u.tups, u.frzs, u.tbls⟩, fun b o e => ?_⟩
  · obtain ⟨sl, e1⟩ := u.slot b o e n hb (nn b)
    obtain ⟨sl2, e2⟩ := slot b _ e1 hb
    exact ⟨sl2, e2⟩
  · obtain ⟨o', e1⟩ := u.there b o e (nn b)
    by_cases hb : b ∈ frs X.stack
    · obtain ⟨sl, e3⟩ := slot b o' e1 hb
      exact ⟨_, e3⟩
    · exact ⟨o', keep b o' e1 hb (nS b o e)⟩
  · have tr : ∀ c v, H' c = some v → c ∉ frs X.stack ∧ c ∉ S := fun c v q => ⟨fun z => (by rw [frH c z] at q; cases q), fun z => (by rw [(hS c z).2] at q; cases q)⟩
    refine (hok b o e).stay (fun c v hc q => ?_) (fun _ q => q) fun _ _ q => q
    rcases hc with z | z
    · rw [z] at q ⊢
      exact keep b v q (tr b o e).1 (tr b o e).2
    · exact keep c v q (tr c _ z).1 (tr c _ z).2
def ExcAt (e C : Addr) (d : Option Addr) (h : Heap) : Prop := ∃ o, h.get? e = some o ∧ o.cls = .ref C ∧ o.dict = d ∧ ∃ ws, o.data = .fields ws
theorem exc_at {B h : Heap} {l : List Env} {e C : Addr} {a0 : Value} {d : Option Addr} (fl : Heap.FlyingW B l e (.ref C) a0 h) (dc : DictAt e d h) : ExcAt e C d h := by
  obtain ⟨_, _, _, oe, ws, _, _, _, he, ⟨hc, _⟩, hd, _⟩ := fl
  obtain ⟨o, ho, hdc⟩ := dc
  rw [he] at ho
  cases ho
  exact ⟨oe, he, hc, hdc, ws, hd⟩
theorem excAt_ok {P : Program} {w : World} {h : Heap} {e C : Addr} {d : Option Addr} (x : ExcAt e C d h) : ObjOk P w H h e (.ext (ExcAt e C d)) := by
  obtain ⟨o, h1, h2⟩ := x
  exact ⟨⟨o, h1, h2⟩, ⟨o, h1⟩, fun g1 g2 ⟨o', q1, q2⟩ k => ⟨o', k o' q1, q2⟩⟩
theorem Inv.takeIn {e C : Addr} {d : Option Addr} (I : Inv X pins σ H s) (he : ExcAt e C d s.heap) (hn : H e = none) (h0 : X.s₀.heap.get? e = none) (h1 : e ≠ X.env.locals) (h2 : ∀ x c, X.env.cells.lookup x = some c → c ≠ e) (h3 : ∀ p ∈ X.pn ++ pins, p.1 ≠ e) (h4 : e ∉ X.ex) :
    Inv X pins σ (upd H e (.ext (ExcAt e C d))) s := by
  have nd : ∀ b u, H b = some u → b ≠ e := fun b u q z => by rw [z, hn] at q; cases q
  have n0 : ∀ b o, X.s₀.heap.get? b = some o → b ≠ e := fun b o q z => by rw [z, h0] at q; cases q
  refine ⟨I.ok, I.os, I.bare, ⟨I.base.keep, I.base.slot, fun b o q n hx => ?_, I.base.there, fun b xs q => ?_, fun b o xs q => ?_, fun b ps q => ?_⟩, I.loc, I.cell, ?_, fun x c q => ?_, fun p hp => ?_, fun b u q => ?_, I.len⟩
  · rw [upd_ne (n0 b o q)]
    exact I.base.free b o q n hx
  · rw [upd_ne (nd b _ (I.base.tups b xs q))]
    exact I.base.tups b xs q
  · rw [upd_ne (nd b _ (I.base.frzs b o xs q))]
    exact I.base.frzs b o xs q
  · obtain ⟨m, e1⟩ := I.base.tbls b ps q
    exact ⟨m, by rw [upd_ne (nd b _ e1)]; exact e1⟩
  · rw [upd_ne (Ne.symm h1)]
    exact I.free
  · rw [upd_ne (h2 x c q)]
    exact I.freeC x c q
  · obtain ⟨a1, a2, a3⟩ := I.pin p hp
    exact ⟨a1, by rw [upd_ne (h3 p hp)]; exact a2, a3⟩
  · by_cases hb : b = e
    · subst hb
      rw [upd_same] at q
      cases q
      exact excAt_ok he
    · rw [upd_ne hb] at q
      exact (I.hok b u q).stay (fun _ _ _ z => z) (fun c z => by rw [upd_ne (nd c _ z)]; exact z) fun c xs z => by rw [upd_ne (nd c _ z)]; exact z
end
def SubC (K : PySem.W.Frag) (C D : Addr) : Prop := ∃ c dd cd sl, K.lookup C = some ⟨c, dd, .cls cd, sl⟩ ∧ cd.mro.contains (.ref D) = true
theorem match_own {M : Model} {A : Around} {E : Value → Shared → Prop} {K : PySem.W.Frag} {s : Shared} {e C D : Addr} {oe : Obj} {Q : Bool → Shared → Prop} (X : K.In s.heap) (qC : ErrC K C) (qD : ErrC K D) (sub : SubC K C D) (he : s.heap.get? e = some oe) (hc : oe.cls = .ref C) (hq : Q true s) :
    wpAny M A (excMatches (.ref e) (.ref D)) Q E s := by
  obtain ⟨bm, N, nm, qn, bs, hdct, sn, sb, ab, col, dd, k0, k1, k2, k3, k5, mN, hC, _, _, T, lk⟩ := qC.obj X
  obtain ⟨bm', N', nm', qn', bs', hdct', sn', sb', ab', col', dd', k0', k1', k2', k3', k5', mN', hD, _, _, T', _⟩ := qD.obj X
  obtain ⟨c, d2, cd, sl, lk2, hm⟩ := sub
  have hb : veMro.contains (.type "BaseException") = true := by rfl
  have hB : (Value.ref D :: bm').contains (.type "BaseException") = true := by rw [List.contains_cons, T'.hasType hb, Bool.or_true]
  have hS : (Value.ref C :: bm).contains (.ref D) = true := by
    rw [lk] at lk2
    cases lk2
    exact hm
  have nt := tc_notTuple
  obtain ⟨hp, g, d, tk, os⟩ := s
  unfold excMatches
  repeat (first | (with_reducible refine wpAny_loadPart_at he ?_; rw [hc]) | with_reducible refine wpAny_loadPart_at hD ?_ | (with_reducible refine wpAny_isSubtype_exc hD ?_; rw [hB]) | (with_reducible refine wpAny_isSubtype_exc hC ?_; rw [hS]) | wp_step)
  exact hq
end L2
namespace L2
open PySem PySem.Spec PyProof.Rows
section
variable {X : Cx}
theorem name_gone {M : Model} {A : Around} {E : Value → Shared → Prop} {pins : List (Addr × Obj)} {σ : St} {H : Hp} {s : Shared} {i : Nat} {n : Str} {pos : Pos} {Q : Unit → Shared → Prop} (I : Inv X pins σ H s) (hi : X.N[i]? = some n) (hN : X.N.Nodup) (hl : X.env.scope.names.lookup n = some .local)
    (h : ∀ s', Inv X pins (σ.set i none) H s' → Q () s') : wpAny M A (do bindName X.env n .none; unbindBehindTheSuite X.env n pos) Q E s := by
  obtain ⟨m, hn, hlk⟩ := id I.loc
  have hcls : (X.env.scope.kind == .class || (X.env.scope.kind == .module && X.env.locals != X.env.globals)) = false := by rw [I.ok.kind]; rfl
  obtain ⟨oL, _, _, hoL, _⟩ := id hn
  refine wpAny_nameGoes_keeps hl hn hcls fun h' v hn' hs => h _ ⟨I.ok, I.os, I.bare, ⟨fun b o e n hb hx => ?_, fun b o e n hb hx => ?_, I.base.free, fun b o e hx => ?_, I.base.tups, I.base.frzs, I.base.tbls⟩, ⟨_, hn', fun j y v' e1 e2 e3 => ?_⟩, fun y c e => ?_, I.free, I.freeC, fun p hp => ?_, fun b ob e => ?_, by simpa using I.len⟩
  · exact (hs.2 b (Nat.ne_of_lt (Nat.lt_of_lt_of_le (Heap.lt_size e) I.ok.above))).trans (I.base.keep b o e n hb hx)
  · obtain ⟨sl, e1⟩ := I.base.slot b o e n hb hx
    exact ⟨sl, (hs.2 b (Nat.ne_of_lt (Nat.lt_of_lt_of_le (Heap.lt_size e) I.ok.above))).trans e1⟩
  · obtain ⟨o', e1⟩ := I.base.there b o e hx
    exact ⟨o', (hs.2 b (Nat.ne_of_lt (Nat.lt_of_lt_of_le (Heap.lt_size e) I.ok.above))).trans e1⟩
  · by_cases hj : j = i
    · subst hj
      rw [List.getElem?_set] at e2
      split at e2
      · split at e2 <;> cases e2
      · rename_i z
        exact absurd rfl z
    · rw [List.getElem?_set_ne (Ne.symm hj)] at e2
      obtain ⟨u', r', q⟩ := hlk j y v' e1 e2 e3
      refine ⟨u', r', ?_⟩
      rcases q with ⟨k, e⟩ | ⟨k, c, e, z⟩
      · refine .inl ⟨k, ?_⟩
        have : y ≠ n := fun e => hj (nodup_ix hN e1 (e ▸ hi))
        simp [this, e]
      · exact .inr ⟨k, c, e, z.sameBut hs (I.cne y c e)⟩
  · obtain ⟨w', z⟩ := I.cell y c e
    exact ⟨w', z.sameBut hs (I.cne y c e)⟩
  · obtain ⟨e, n, ne, nf, d⟩ := I.pin p hp
    exact ⟨(hs.2 p.1 ne).trans e, n, ne, nf, d⟩
  · refine (I.hok b ob e).stay (fun c w' hc q => (hs.2 c ?_).trans q) (fun _ q => q) fun _ _ q => q
    rintro rfl
    rcases hc with hc | hc
    · rw [← hc, I.free] at e; cases e
    · rw [I.free] at hc; cases hc
def gone (i : Nat) (D : Ends) : Ends := { nx := fun σ' H' => D.nx (σ'.set i none) H', rt := D.rt, bk := fun σ' H' => D.bk (σ'.set i none) H', ct := fun σ' H' => D.ct (σ'.set i none) H' }
def tTry (i : Nat) (K : PySem.W.Frag) (D' : Addr) (tb : XK → TS) (ts : TS) : TS := fun D σ H => ∃ E : XK, tb E D σ H ∧ ∀ C d H1, E (.ref C) d H1 → ErrC K C ∧ SubC K C D' ∧ ∀ e, H1 e = none →
  ts (gone i D) (σ.set i (some (.ref e))) (upd H1 e (.ext (ExcAt e C d)))
theorem ps_try {i : Nat} {x n : Str} {D' : Addr} {body : List Stmt} {b0 : Stmt} {suite : List Stmt} {tb : XK → TS} {ts : TS} {np hpos pos : Pos} (hex : X.ex = []) (hst : X.stack = X.env :: X.outer) (hf : X.env.frame = some X.env.locals)
    (hN : X.N.Nodup) (hi : X.N[i]? = some n) (hl : X.env.scope.names.lookup n = some .local) (hg : Gl X x) (hm : X.mg x = some (.ref D')) (qD : ErrC X.K D') (hb : PSx X body tb) (hs : ∀ e, PSs (X.caught e).nox (b0 :: suite) ts) (hdb : (x == ("__debug__" : Str)) = false := by decide) :
    PS X (.Try body [.ExceptHandler (some (.Name x np)) (some n) (b0 :: suite) hpos] [] [] pos) (tTry i X.K D' tb ts) := by
  intro pins s σ H D I h
  obtain ⟨E, h1, hc⟩ := h
  refine wpAny_Try_except (thn (hb pins s σ H D E _ I h1 fun H1 s1 v s' I1 hx => ?_) fun f s1 q => ?_)
  rotate_left
  · cases f with
    | next => exact wpAny_execs_nil q
    | brk => exact q
    | cont => exact q
    | ret u => exact q
  obtain ⟨e, C, d, H', T, a0, rfl, os, bare, u, hok, hE, dc, ne, fe, nT, fT, fl⟩ := flies I1 hx
  obtain ⟨qC, sub, go⟩ := hc C d H' hE
  have stB : ∀ b o, s'.heap.get? b = some o → b ∉ frs X.stack → b ∉ [e, T] → (PySem.W.hideAll s'.heap (e :: T :: frs X.stack)).get? b = some o := fun b o q hb hS => PySem.W.hideAll_get _ q fun z => by
    rcases List.mem_cons.mp z with y | z
    · exact hS (by rw [y]; exact .head _)
    · rcases List.mem_cons.mp z with y | z
      · exact hS (by rw [y]; exact .tail _ (.head _))
      · exact hb z
  have hfr : ∀ b ∈ frs X.stack, ∃ o, s'.heap.get? b = some o ∧ ∀ ws, o.data ≠ .fields ws := fun b hb => (fl.2.2.1.mem hb).2
  generalize PySem.W.hideAll s'.heap (e :: T :: frs X.stack) = B at fl stB
  rw [hst] at fl
  have hS : ∀ b ∈ [e, T], s1.heap.get? b = none ∧ H' b = none := fun b z => by
    rcases List.mem_cons.mp z with y | z
    · rw [y]; exact ⟨ne, fe⟩
    · rw [List.mem_singleton.mp z]; exact ⟨nT, fT⟩
  have mk : ∀ h5, Heap.FlyingW B (X.env :: X.outer) e (.ref C) a0 h5 → s'.heap.UpToSlots h5 → Inv X pins σ H' { s' with heap := h5 } := fun h5 f5 up => by
    obtain ⟨u5, ok5⟩ := stay_keep (S := [e, T]) (g := s'.heap) I1 u hok (fun b o q hb hS => f5.1 b o (stB b o q hb hS)) (fun b o q hb => by
      obtain ⟨o', e1, e2⟩ := hfr b hb
      rw [q] at e1
      cases e1
      exact up b o q e2) hS
    exact I1.call' (s' := { s' with heap := h5 }) (ch := []) os u5 ok5 bare fun b z => by cases z
  refine looks_onD (by rw [I1.ok.frames, hst]) hf fl dc fun h4 held4 up4 dc4 => ?_
  refine landsD held4 dc4 fun h5 fl5 up5 dc5 => ?_
  have I5 := mk h5 fl5 (up4.trans up5)
  refine wpAny_handleBy_cons (codeAny_handlers_test (ld_glob (X := X.caught e) (I5.caught e) hg hm ?_ hdb)) (by intro q; cases q)
  obtain ⟨oe, heo, hco⟩ := fl5.there
  refine match_own I5.kIn qC qD sub heo hco ?_
  refine codeAny_handlers_suite_as (lands_againD fl5 dc5 fun h6 fl6 up6 dc6 => ?_)
  have I6 := mk h6 fl6 ((up4.trans up5).trans up6)
  have n0 : X.s₀.heap.get? e = none := by
    cases z : X.s₀.heap.get? e with
    | none => rfl
    | some o =>
      obtain ⟨o', e1⟩ := I1.base.there e o z (by rw [hex]; intro y; cases y)
      rw [ne] at e1
      cases e1
  have at6 : ExcAt e C d h6 := exc_at fl6 dc6
  have I6' := I6.takeIn (C := C) at6 fe n0 (fun z => by
      obtain ⟨m, ⟨oL, _, _, hoL, _⟩, _⟩ := I1.loc
      rw [← z, ne] at hoL
      cases hoL) (fun y c q z => by
      obtain ⟨w', oc, hoc, _⟩ := I1.cell y c q
      rw [z, ne] at hoc
      cases hoc) (fun p hp z => by
      have := (I1.pin p hp).1
      rw [z, ne] at this
      cases this) (by rw [hex]; intro y; cases y)
  refine store_ok (X := X.caught e) (v := .ref e) (I6'.caught e) hN hi (.inl hl) rfl (fun s7 I7 => ?_) (.inr hl)
  refine wpAny_mono (hs e pins s7 _ _ _ (I7.wish _) (go e fe)) (fun f s8 q => ?_) fun _ _ z => False.elim z
  cases f with
  | next =>
    obtain ⟨σ', H8, I8, q⟩ := q
    exact name_gone (I8.unwish.uncaught I.ok) hi hN hl fun s9 I9 => ⟨_, H8, I9, q⟩
  | brk =>
    obtain ⟨σ', H8, I8, q⟩ := q
    exact name_gone (I8.unwish.uncaught I.ok) hi hN hl fun s9 I9 => ⟨_, H8, I9, q⟩
  | cont =>
    obtain ⟨σ', H8, I8, q⟩ := q
    exact name_gone (I8.unwish.uncaught I.ok) hi hN hl fun s9 I9 => ⟨_, H8, I9, q⟩
  | ret u =>
    obtain ⟨v, σ', H8, I8, r, q⟩ := q
    exact name_gone (I8.unwish.uncaught I.ok) hi hN hl fun s9 I9 => ⟨v, _, H8, I9, r, q⟩
end
end L2
namespace L2
open PySem PySem.Spec PyProof.Rows
structure ErrA (K : PySem.W.Frag) (C : Addr) : Prop where
  err : ErrC K C
  ga : PySem.W.findIn K (.ref C) "__getattribute__" = some (some (.builtin "BaseException.__getattribute__"))
  gt : PySem.W.findIn K (.ref C) "__getattr__" = some none
  cl : PySem.W.findIn K (.ref C) "__class__" = some (some (.builtin "object.__class__"))
section
variable {P : Program} {w : World} {A : Around} {E : Value → Shared → Prop} {h : Heap} {g : Array GenState} {d : Drawn} {t : Nat} {os : OsState} {e C : Addr} {o : Obj} {K : PySem.W.Frag}
theorem ErrC.sub (X : K.In h) (q : ErrC K C) {B : String} (hB : veMro.contains (.type B) = true) : ∃ bm N nm qn bs hdct sn sub ab col dd k0 k1 k2 k3 k5,
    h.get? C = some (excClassObj nm qn C N bs bm hdct sn sub ab col dd k0 k1 k2 k3 k5 "ValueError.__new__") ∧ (Value.ref C :: bm).contains (.type B) = true := by
  obtain ⟨bm, N, nm, qn, bs, hdct, sn, sub, ab, col, dd, k0, k1, k2, k3, k5, mN, hC, _, _, T, _⟩ := q.obj X
  exact ⟨bm, N, nm, qn, bs, hdct, sn, sub, ab, col, dd, k0, k1, k2, k3, k5, hC, by rw [List.contains_cons, T.hasType hB, Bool.or_true]⟩
theorem find_wp {M : Model} {tv : Value} {nm : Str} {r : Option Value} {Q : Option Value → Shared → Prop} (X : K.In h) (e : PySem.W.findIn K tv nm = some r) (hq : Q r ⟨h, g, d, t, os⟩) : wpAny M A (typeLookup tv nm) Q E ⟨h, g, d, t, os⟩ :=
  PySem.W.looks_findIn X e _ _ _ _ (fun _ _ z => z) hq
theorem cls_get {R : Result → Shared → Prop} (X : K.In h) (q : ErrC K C) (he : h.get? e = some o) (hc : o.cls = .ref C) (hq : R (.ok (.ret (.ref C))) ⟨h, g, d, t, os⟩) :
    codeAny (model P w) A (.call (.builtin "getset_descriptor.__get__") ⟨[.builtin "object.__class__", .ref e, .ref C], []⟩) R ⟨h, g, d, t, os⟩ := by
  have ty : (⟨h, g, d, t, os⟩ : Shared).TypeIs (.builtin "object.__class__") "getset_descriptor" := F.typeOf_object_class
  obtain ⟨bm, N, nm, qn, bs, hdct, sn, sub, ab, col, dd, k0, k1, k2, k3, k5, hC, hS⟩ := q.sub X (B := "object") (by rfl)
  have hB : (Value.ref C :: bm).contains (.type (".".intercalate ("object.__class__".cutAt '.').dropLast)) = true := by rw [F.owner_object_class]; exact hS
  refine codeAny_call_builtin F.slot_gs_get.plain F.entry_gs_get (F.slot_gs_get.check _ _ _ _ _ _ _ _ ty (F.args_gs_get _ _ _) ?_)
  repeat (any_goals (first | assumption | (with_reducible refine wpAny_loadPart_at he ?_; rw [hc]) | (with_reducible refine wpAny_isSubtype_exc hC ?_; rw [hB]) | wp_step))
  refine ⟨Code.quiet_builtin _ (by decide +kernel), codeAny_builtin F.entry_object_class ?_⟩
  repeat (any_goals (first | assumption | (with_reducible refine wpAny_loadPart_at he ?_; rw [hc]) | wp_step))
theorem cls_entry {tk : Tok} {Q : Fin → Shared → Prop} (X : K.In h) (q : ErrA K C) (he : h.get? e = some o) (hc : o.cls = .ref C) (hq : Q (.done (.ret (.ref C))) ⟨h, g, d, t, os⟩) :
    wpAny (model P w) A (Builtin.«object.__getattribute__» ⟨[.ref e, .str "__class__" tk], []⟩) Q E ⟨h, g, d, t, os⟩ := by
  have ty : (⟨h, g, d, t, os⟩ : Shared).TypeIs (.builtin "object.__class__") "getset_descriptor" := F.typeOf_object_class
  have f5 := F.typeOf_object_class
  have f6 := F.slot_gs_get.lookup
  have f7 := F.slot_gs_set.lookup
  repeat (any_goals (first | assumption | (with_reducible refine wpAny_loadPart_at he ?_; rw [hc]) | with_reducible refine find_wp X q.cl ?_ | wp_step))
  refine cls_get X q.err he hc ?_
  repeat (any_goals (first | assumption | wp_step))
theorem cls_check {M : Model} {nameV : Value} {Q : Unit → Shared → Prop} (X : K.In h) (q : ErrC K C) (he : h.get? e = some o) (hc : o.cls = .ref C) (hq : Q () ⟨h, g, d, t, os⟩) :
    wpAny M A (checkBuiltinCall "BaseException.__getattribute__" ⟨[.ref e, nameV], []⟩) Q E ⟨h, g, d, t, os⟩ := by
  have kd : builtinKind "BaseException.__getattribute__" = some .slot := by decide +kernel
  have sp : splitId "BaseException.__getattribute__" = some ("BaseException", "__getattribute__") := by decide +kernel
  obtain ⟨bm, N, nm, qn, bs, hdct, sn, sub, ab, col, dd, k0, k1, k2, k3, k5, hC, hS⟩ := q.sub X (B := "BaseException") (by rfl)
  have ha := F.args_bexc_ga (.ref e) nameV
  simp only [checkBuiltinCall, kd, sp]
  refine wpAny_bind ?_
  unfold isInstance
  repeat (first | (with_reducible refine wpAny_loadPart_at he ?_; rw [hc]) | (with_reducible refine wpAny_isSubtype_exc hC ?_; rw [hS]) | wp_step)
  exact hq
theorem cls_by {tk : Tok} {Q : Value → Shared → Prop} (X : K.In h) (q : ErrA K C) (he : h.get? e = some o) (hc : o.cls = .ref C) (hq : Q (.ref C) ⟨h, g, d, t, os⟩) :
    wpAny (model P w) A (getAttrBy (.ref e) (.str "__class__" tk) false) Q E ⟨h, g, d, t, os⟩ := by
  have f3 := F.excAttr_ValueError.ga.bind (.ref e)
  have x2 : (Value.builtin "BaseException.__getattribute__" == Value.builtin "object.__getattribute__") = false := by decide +kernel
  have x1 : (onTheHeap (Value.ref C) && Value.builtin "BaseException.__getattribute__" == Value.builtin "object.__getattribute__") = false := by rw [x2]; rfl
  repeat (any_goals (first | assumption | (with_reducible refine wpAny_loadPart_at he ?_; rw [hc]) | with_reducible refine find_wp X q.ga ?_ | with_reducible refine find_wp X q.gt ?_ | wp_step))
  refine codeAny_call_builtin F.excAttr_ValueError.ga.plain F.entry_bexc_ga (cls_check X q.err he hc (cls_entry X q he hc ?_))
  repeat (any_goals (first | assumption | wp_step))
theorem cls_attr {Q : Option Value → Shared → Prop} (X : K.In h) (q : ErrA K C) (he : h.get? e = some o) (hc : o.cls = .ref C) (hq : Q (some (.ref C)) ⟨h, g, d, t + 1, os⟩) : wpAny (model P w) A (getAttr? (.ref e) "__class__") Q E ⟨h, g, d, t, os⟩ := by
  unfold getAttr? getAttrBy?
  repeat (any_goals (first | assumption | with_reducible apply cls_by X q he hc | wp_step))
theorem kitx_exc {dc : Option Addr} (q : ErrA K C) : PySem.W.KitX K (.ref e) (.ref C) (ExcAt e C dc) where
  ty := fun M h _ ⟨o, h1, h2, _⟩ => h2 ▸ (PySem.W.Looks.ld h1).andThen .now
  it := fun M h X _ => by
    obtain ⟨bm, N, nm, qn, bs, hdct, sn, sub, ab, col, dd, k0, k1, k2, k3, k5, hC, _⟩ := q.err.sub X (B := "object") (by rfl)
    intro A' Q' E' s' k z
    unfold isType loadHead
    exact wpAny_bind (wpAny_loadPart (k _ _ hC) (wpAny_pure z))
  ne := fun h tp dd its n sl X htp => by
    obtain ⟨bm, N, nm, qn, bs, hdct, sn, sub, ab, col, dd, k0, k1, k2, k3, k5, hC, _⟩ := q.err.sub X (B := "object") (by rfl)
    refine Bool.eq_false_iff.mpr fun z => ?_
    have e : C = tp := Value.ref.inj (beq_iff_eq.mp z)
    subst e
    rw [hC] at htp
    have z := congrArg Obj.cls (Option.some.inj htp)
    exact absurd z (by intro y; injection y with y; exact absurd y (by decide))
  ca := fun {_ _ _ _ _ s} X ⟨o, h1, h2, _⟩ k => by
    obtain ⟨h, g, d, t, os⟩ := s
    exact cls_attr X q h1 h2 k
end
def rIsiE (K : PySem.W.Frag) (c : V → Value → Prop) : List V → Hp → VK → Prop := fun xs H Q => ∃ e C d cv u b, xs = [.ref e, cv] ∧ c cv u ∧ H e = some (.ext (ExcAt e C d)) ∧ ErrA K C ∧ PySem.W.kitOne K (.ref C) u = some b ∧ Q (.bl b) H
theorem call_isiE {X : Cx} : CallR X (.builtin "isinstance") (rIsiE X.K fun v u => RelV v u ∧ (∀ u', RelV v u' → u' = u)) := by
  intro pins s σ H xs us Q I r h
  obtain ⟨e, C, d, cv, u, b, rfl, ⟨_, hu⟩, he, qA, hk, q⟩ := h
  obtain ⟨v1, v2, rfl, r1, r2⟩ := vals2 r
  cases r1
  cases hu v2 r2
  exact PySem.W.kia_one (kitx_exc qA) I.kIn (I.hok e _ he).1 hk (fun z => nomatch z) fun tk => ⟨.bl b, H, I.tok tk, rfl, q⟩
end L2
namespace L2
open PySem PySem.Spec PyProof.Rows
section
variable {X : Cx} {pins : List (Addr × Obj)} {σ : St} {H H' : Hp} {s : Shared}
theorem leave_keepC {g h'' : Heap} {S : List Addr} (I : Inv X pins σ H s) (hex : X.ex = []) (u : Un (frs X.stack) [] H H' s.heap g) (hok : HOk X.prog X.w H' g)
    (keep : ∀ b o, g.get? b = some o → b ∉ frs X.stack → b ∉ S → h''.get? b = some o) (slot : ∀ b o, g.get? b = some o → b ∈ frs X.stack → ∃ sl, h''.get? b = some { o with slots := sl })
    (hS : ∀ b ∈ S, X.s₀.heap.get? b = none ∧ H' b = none) : Un (frs X.outer) [] X.H₀ H' X.s₀.heap h'' ∧ HOk X.prog X.w H' h'' := by
  have hx : ∀ b : Addr, b ∉ X.ex := fun b z => by rw [hex] at z; cases z
  have nn : ∀ b : Addr, b ∉ ([] : List Addr) := fun b z => by cases z
  have frH : ∀ b ∈ frs X.stack, H' b = none := fun b hb => by
    obtain ⟨_, ob, ho, _⟩ := I.stack.mem hb
    exact u.free b ob ho (I.stkFree b hb) (nn b)
  have neL : ∀ b o, X.s₀.heap.get? b = some o → b ≠ X.env.locals := fun b o e => Nat.ne_of_lt (Nat.lt_of_lt_of_le (Heap.lt_size e) I.ok.above)
  have nst : ∀ b o, X.s₀.heap.get? b = some o → b ∉ frs X.outer → b ∉ frs X.stack := fun b o e n z => by
    rcases List.mem_cons.mp (I.stkSub b z) with q | q
    · exact neL b o e q
    · exact n q
  have nS : ∀ b o, X.s₀.heap.get? b = some o → b ∉ S := fun b o e z => by
    have := (hS b z).1
    rw [e] at this
    cases this
  refine ⟨⟨fun b o e n hb _ => ?_, fun b o e n hb _ => ?_, fun b o e n _ => ?_, fun b o e _ => ?_, fun b xs e => u.tups b xs (I.base.tups b xs e), fun b o xs e => u.frzs b o xs (I.base.frzs b o xs e), fun b ps e => ?_⟩, fun b o e => ?_⟩
  · have e1 := I.base.keep b o e n hb (hx b)
    have e2 := u.keep b o e1 (I.base.free b o e n (hx b)) (nst b o e hb) (nn b)
    exact keep b o e2 (nst b o e hb) (nS b o e)
  · obtain ⟨sl, e1⟩ := I.base.slot b o e n hb (hx b)
    obtain ⟨sl2, e2⟩ := u.slot b _ e1 (I.base.free b o e n (hx b)) (stk_sup I.ok b hb) (nn b)
    obtain ⟨sl3, e3⟩ := slot b _ e2 (stk_sup I.ok b hb)
    exact ⟨sl3, e3⟩
  · obtain ⟨o', e1⟩ := I.base.there b o e (hx b)
    exact u.free b o' e1 (I.base.free b o e n (hx b)) (nn b)
  · obtain ⟨o', e1⟩ := I.base.there b o e (hx b)
    obtain ⟨o2, e2⟩ := u.there b o' e1 (nn b)
    by_cases hb : b ∈ frs X.stack
    · obtain ⟨sl, e3⟩ := slot b o2 e2 hb
      exact ⟨_, e3⟩
    · exact ⟨o2, keep b o2 e2 hb (nS b o e)⟩
  · obtain ⟨m1, e1⟩ := I.base.tbls b ps e
    obtain ⟨m2, e2⟩ := u.tbls b _ e1
    exact ⟨m1 ++ m2, by rw [e2, Array.append_assoc]⟩
  · have tr : ∀ c v, H' c = some v → c ∉ frs X.stack ∧ c ∉ S := fun c v q => ⟨fun z => (by rw [frH c z] at q; cases q), fun z => (by rw [(hS c z).2] at q; cases q)⟩
    refine (hok b o e).stay (fun c v hc q => ?_) (fun _ q => q) fun _ _ q => q
    rcases hc with z | z
    · rw [z] at q ⊢
      exact keep b v q (tr b o e).1 (tr b o e).2
    · exact keep c v q (tr c _ z).1 (tr c _ z).2
def Out (X : Cx) (E : XK) : Prop := ∀ v s, wpAny (model X.prog X.w) X.A (leaving X.env v) (fun _ s'' => CX1 X.prog X.w X.outer X.H₀ X.s₀ E v s'') (fun _ _ => False) s → X.xe v s
theorem note_frame {e : Value} {env env' : Env} (h : env'.frame = env.frame) : noteFrame e env' = noteFrame e env := by
  unfold noteFrame PySem.frameOf
  rw [h]
theorem note_comp {E : XK} {v : Value} {s' : Shared} {Cc : Addr} {oc : Obj} {env' : Env} {E1 : Value → Shared → Prop} (I : Inv X pins σ H s) (out : Out X E) (hex : X.ex = []) (hst : X.stack = X.env :: X.outer) (hf : X.env.frame = some X.env.locals) (hx : CX1 X.prog X.w X.stack H s E v s')
    (hc : s.heap.get? Cc = some oc) (cH : H Cc = none) (cD : ∀ ws, oc.data ≠ .fields ws) (cF : Cc ∉ frs X.stack) (c0 : X.s₀.heap.get? Cc = none) (fr : env'.frame = X.env.frame) :
    wpAny (model X.prog X.w) X.A (noteFrame v env') (fun _ s2 => (∃ sl, s2.heap.get? Cc = some { oc with slots := sl }) ∧ ∀ h', Heap.SameBut Cc s2.heap h' → ∀ {α : Type} {Q : α → Shared → Prop} (what : String) (env2 : Env), env2.frame = X.env.frame → wpAny (model X.prog X.w) X.A (PySem.passOn what v env2 : Sem α) Q X.xe { s2 with heap := h' }) E1 s' := by
  obtain ⟨e, C, d, H', T, a0, rfl, os, bare, u, hok, hE, dc, ne, fe, nT, fT, fl⟩ := flies I hx
  have hfr : ∀ b ∈ frs X.stack, ∃ o, s'.heap.get? b = some o ∧ ∀ ws, o.data ≠ .fields ws := fun b hb => (fl.2.2.1.mem hb).2
  have cH' : H' Cc = none := u.free Cc oc hc cH (by intro z; cases z)
  have eC : e ≠ Cc := fun z => by rw [z, hc] at ne; cases ne
  have TC : T ≠ Cc := fun z => by rw [z, hc] at nT; cases nT
  have cs' : s'.heap.get? Cc = some oc := u.keep Cc oc hc cH cF (by intro z; cases z)
  rw [note_frame fr]
  have fl' := fl
  rw [hst] at fl'
  refine looks_onD (by rw [I.ok.frames, hst]) hf fl' dc fun h4 held4 up4 dc4 => ?_
  refine ⟨up4 Cc oc cs' cD, ?_⟩
  intro h5 sb α Q what env2 fr2
  obtain ⟨st4, _, _, oe, vs, T2, oT, ts, he4, ⟨hcls, h0⟩, hd, h1, bT2, hTe, hT4, hdT, h3⟩ := held4
  have hsz3 : 3 < ts.size := (Array.getElem?_eq_some_iff.mp h3).1
  have T2C : T2 ≠ Cc := fun z => by
    obtain ⟨sl, e1⟩ := up4 Cc oc cs' cD
    rw [z, e1] at hT4
    cases hT4
    exact cD ts hdT
  have he5 : h5.get? e = some oe := (sb.2 e eC).trans he4
  have hT5 : h5.get? T2 = some oT := (sb.2 T2 T2C).trans hT4
  have ub : ∀ (h : Heap) (f : Obj → Obj) (b : Addr), b ≠ T2 → (h.update T2 f).get? b = h.get? b := fun h f b hb => Heap.get?_update_other _ _ (Ne.symm hb)
  unfold PySem.passOn
  refine wpAny_bind (wpAny_field he5 hd h1 ?_)
  rw [if_neg (show ¬ ((Value.ref T2 == Value.none) = true) from by simp)]
  refine wpAny_bind ?_
  rw [fr2, hf]
  unfold setFlight
  refine wpAny_bind (wpAny_field he5 hd h1 ?_)
  rw [if_pos (show (Value.ref T2 != Value.none) = true from by simp)]
  refine wpAny_setField hT5 hdT hsz3 (wpAny_throw (out _ _ ?_))
  dsimp only
  have hd6 := Obj.data_mapFields hdT (·.setIfInBounds 3 ((some X.env.locals).elim Value.none fun f => rawInt f))
  have hT6 := Heap.get?_update_self (Obj.mapFields (·.setIfInBounds 3 ((some X.env.locals).elim Value.none fun f => rawInt f))) hT5 (Obj.isFreed_of_fields hd6)
  have he6 : (h5.update T2 (Obj.mapFields (·.setIfInBounds 3 ((some X.env.locals).elim Value.none fun f => rawInt f)))).get? e = some oe := (ub _ _ e (Ne.symm hTe)).trans he5
  have ub6 : ∀ b, b ≠ T2 → (h5.update T2 (Obj.mapFields (·.setIfInBounds 3 ((some X.env.locals).elim Value.none fun f => rawInt f)))).get? b = h5.get? b := ub _ _
  have h36 : (ts.setIfInBounds 3 ((some X.env.locals).elim Value.none fun f => rawInt f))[3]? = some (rawInt X.env.locals) := by simp [hsz3]
  generalize h5.update T2 (Obj.mapFields (·.setIfInBounds 3 ((some X.env.locals).elim Value.none fun f => rawInt f))) = h6 at hT6 he6 ub6 ⊢
  generalize Obj.mapFields (·.setIfInBounds 3 ((some X.env.locals).elim Value.none fun f => rawInt f)) oT = oT6 at hd6 hT6
  generalize ts.setIfInBounds 3 ((some X.env.locals).elim Value.none fun f => rawInt f) = ts6 at hd6 h36
  have hsz6 : 3 < ts6.size := (Array.getElem?_eq_some_iff.mp h36).1
  unfold leaving
  refine wpAny_bind (wpAny_noteFrame_againW hf ⟨oe, vs, T2, oT6, ts6, he6, ⟨hcls, h0⟩, hd, h1, bT2, hTe, hT6, hd6, h36⟩ ?_)
  unfold setFlight
  refine wpAny_bind (wpAny_field he6 hd h1 ?_)
  rw [if_pos (show (Value.ref T2 != Value.none) = true from by simp)]
  refine wpAny_setField hT6 hd6 hsz6 ?_
  dsimp only
  have hd7 := Obj.data_mapFields hd6 (·.setIfInBounds 3 ((none : Option Addr).elim Value.none fun f => rawInt f))
  have hT7 := Heap.get?_update_self (Obj.mapFields (·.setIfInBounds 3 ((none : Option Addr).elim Value.none fun f => rawInt f))) hT6 (Obj.isFreed_of_fields hd7)
  have ub7 : ∀ b, b ≠ T2 → (h6.update T2 (Obj.mapFields (·.setIfInBounds 3 ((none : Option Addr).elim Value.none fun f => rawInt f)))).get? b = h6.get? b := ub _ _
  have h37 : (ts6.setIfInBounds 3 ((none : Option Addr).elim Value.none fun f => rawInt f))[3]? = some .none := by simp [hsz6]
  generalize h6.update T2 (Obj.mapFields (·.setIfInBounds 3 ((none : Option Addr).elim Value.none fun f => rawInt f))) = h7 at hT7 ub7 ⊢
  generalize Obj.mapFields (·.setIfInBounds 3 ((none : Option Addr).elim Value.none fun f => rawInt f)) oT6 = oT7 at hd7 hT7
  generalize ts6.setIfInBounds 3 ((none : Option Addr).elim Value.none fun f => rawInt f) = ts7 at hd7 h37
  have far : ∀ b, b ≠ T2 → b ≠ Cc → h7.get? b = h4.get? b := fun b b1 b2 => (ub7 b b1).trans ((ub6 b b1).trans (sb.2 b b2))
  have he7 : h7.get? e = some oe := (far e (Ne.symm hTe) eC).trans he4
  obtain ⟨oe', heo, hdc⟩ := dc4
  rw [he4] at heo
  cases heo
  rw [← hst] at bT2
  have notT2 : ∀ b o, h4.get? b = some o → (∀ ws, o.data ≠ .fields ws) → b ≠ T2 := fun b o q n z => by
    rw [z, hT4] at q
    cases q
    exact n ts hdT
  have slot : ∀ b o, s'.heap.get? b = some o → b ∈ frs X.stack → ∃ sl, h7.get? b = some { o with slots := sl } := fun b o q hb => by
    obtain ⟨o', e1, e2⟩ := hfr b hb
    rw [q] at e1
    cases e1
    obtain ⟨sl, e3⟩ := up4 b o q e2
    exact ⟨sl, (far b (notT2 b _ e3 e2) fun z => cF (z ▸ hb)).trans e3⟩
  have gone2 : T2 ≠ T → s'.heap.get? T2 = none := fun z => by
    cases q : s'.heap.get? T2 with
    | none => rfl
    | some o =>
      by_cases y : T2 ∈ frs X.stack
      · obtain ⟨o', e1, e2⟩ := hfr T2 y
        obtain ⟨sl, e3⟩ := up4 T2 o' e1 e2
        exact absurd rfl (notT2 T2 _ e3 e2)
      · rw [PySem.W.hideAll_get _ q (fun r => by
          rcases List.mem_cons.mp r with p | r
          · exact hTe p
          · rcases List.mem_cons.mp r with p | r
            · exact z p
            · exact y r)] at bT2
        cases bT2
  have n0 : ∀ b, s.heap.get? b = none → X.s₀.heap.get? b = none := fun b q => by
    cases z : X.s₀.heap.get? b with
    | none => rfl
    | some o =>
      obtain ⟨o', e1⟩ := I.base.there b o z (by rw [hex]; intro y; cases y)
      rw [q] at e1
      cases e1
  have nT2 : s.heap.get? T2 = none ∧ H' T2 = none := by
    by_cases z : T2 = T
    · rw [z]; exact ⟨nT, fT⟩
    · have g2 := gone2 z
      refine ⟨?_, hok.gone g2⟩
      cases q : s.heap.get? T2 with
      | none => rfl
      | some o =>
        obtain ⟨o', e1⟩ := u.there T2 o q (by intro y; cases y)
        rw [g2] at e1
        cases e1
  obtain ⟨u2, hk⟩ := leave_keepC (S := [e, T, Cc]) (g := s'.heap) (h'' := h7) I hex u hok (fun b o q hb hS => by
      have b1 : b ≠ e := fun z => hS (by rw [z]; exact .head _)
      have b2 : b ≠ T := fun z => hS (by rw [z]; exact .tail _ (.head _))
      have b3 : b ≠ Cc := fun z => hS (by rw [z]; exact .tail _ (.tail _ (.head _)))
      have e4 := st4 b o (PySem.W.hideAll_get _ q fun z => by
        rcases List.mem_cons.mp z with y | z
        · exact b1 y
        · rcases List.mem_cons.mp z with y | z
          · exact b2 y
          · exact hb (by rw [hst]; exact z))
      refine (far b (fun z => ?_) b3).trans e4
      subst z
      by_cases y : b = T
      · exact b2 y
      · rw [gone2 y] at q
        cases q) slot fun b z => by
    rcases List.mem_cons.mp z with y | z
    · rw [y]; exact ⟨n0 e ne, fe⟩
    · rcases List.mem_cons.mp z with y | z
      · rw [y]; exact ⟨n0 T nT, fT⟩
      · rw [List.mem_singleton.mp z]; exact ⟨c0, cH'⟩
  exact ⟨e, C, d, H', rfl, os.trans I.os, bare, u2, hk, ⟨n0 e ne, fe, oe, vs, T2, oT7, ts7, a0, he7, hcls, hdc, hd, h0, h1, n0 T2 nT2.1, nT2.2, hTe, hT7, hd7, h37⟩, hE⟩
end
theorem thf {α : Type} {t : Sem α} {Q Q' : α → Shared → Prop} {M : Model} {A : Around} {E : Value → Shared → Prop} {s : Shared} (h : wpAny M A t Q (fun _ _ => False) s) (hQ : ∀ a s, Q a s → Q' a s) : wpAny M A t Q' E s := wpAny_mono h hQ fun _ _ z => z.elim
theorem comp_loopX {prog : Program} {w : World} {A : Around} {R : Result → Shared → Prop} {s : Shared} {elt tg iter : Expr} {ifs : List Expr} {sc : Scope} {pos : Pos} {it acc : Value} {env : Env} (Iv : Nat → Shared → Prop)
    (turn : ∀ n s, Iv n s → wpAny (model prog w) A (pyNext it) (fun r s1 => match r with
      | none => R (.ok .next) s1
      | some v => wpAny (model prog w) A (letOwnedTupleGo tg it v) (fun _ s1 => wpAny (model prog w) A (assign tg env v) (fun _ s2 =>
          wpAny (model prog w) A (forIn ifs true fun c r => if r = true then do let ok ← isTrue c env (eval c env); pure (ForInStep.yield ok) else pure (ForInStep.yield r)) (fun ok s3 =>
            if ok = true then wpAny (model prog w) A (eval elt env) (fun y s4 => wpAny (model prog w) A (call (.builtin "list.append") [acc, y]) (fun _ s5 => ∃ m, m < n ∧ Iv m s5) (fun _ _ => False) s4) (notedBy (model prog w) A env fun x s' => R (.error x) s') s3
            else ∃ m, m < n ∧ Iv m s3) (fun _ _ => False) s2) (fun _ _ => False) s1) (fun _ _ => False) s1) (fun _ _ => False) s)
    (n : Nat) (h : Iv n s) : codeAny (model prog w) A (.compLoop (.ListComp elt [⟨tg, iter, ifs, 0⟩] sc pos) 0 it acc env) R s := by
  refine codeAny_loop rfl Iv (fun n s hI => ?_) n h
  show wpAny _ A ((compTurn (.ListComp elt [⟨tg, iter, ifs, 0⟩] sc pos) 0 it acc env).onRaise (fun x => do noteFrame x env; theTreesLotGoes x)) _ _ s
  refine wpAny_noted ?_
  rw [compTurn_list]
  refine wpAny_bind (wpAny_standAt (wpAny_bind (thf (turn n s hI) fun r s1 h1 => ?_)))
  cases r with
  | none => exact wpAny_pure h1
  | some v =>
    refine wpAny_bind (thf h1 fun _ s2 h2 => wpAny_bind (thf h2 fun _ s3 h3 => wpAny_bind (thf h3 fun ok s4 h4 => ?_)))
    cases ok with
    | false => exact wpAny_pure ⟨rfl, h4⟩
    | true => exact wpAny_bind (wpAny_bind (thn h4 fun y s5 h5 => wpAny_bind (thf h5 fun _ s6 h6 => wpAny_pure (wpAny_pure ⟨rfl, h6⟩))))
section
variable {X : Cx} {pins : List (Addr × Obj)} {σ : St} {H : Hp} {s : Shared} {vs : List Str} {sc : Scope} {tg elt iter : Expr} {ifs : List Expr} {pos : Pos} {g : TG} {tt : TT} {te : XK → TE}
theorem comp_blockX {J : It} {fp : List Addr} {it : Addr} {tn : Nat → Heap → Prop} {E : Value → Shared → Prop} {RR : Value → Addr → Result → Shared → Prop} {Fin : List V → Hp → Prop} {E0x : XK}
    (S : CompScope X vs sc) (hc : X.calm = true) (hg : ∀ C s H fp, PG (cxC X vs sc C s H fp) tg g) (ht : ∀ C s H fp, PTs (cxC X vs sc C s H fp) ifs tt) (he : ∀ C s H fp, PEx (cxC X vs sc C s H fp) elt te) (out : Out X E0x) (hex : X.ex = []) (hst : X.stack = X.env :: X.outer) (hfl : X.env.frame = some X.env.locals)
    (I : Inv X pins σ H s) (T : Turn X.prog X.w X.K tg J fp it tn) (st : tn 0 s.heap) (hf : ∀ b ∈ fp, FpOk X pins H b) (hW : CompW vs g tt (te E0x) σ J H Fin)
    (hRR : ∀ D C s' H' ys m', Inv X pins σ (upd H' D (.lst ys)) s' → H' D = none → FpOk X pins (upd H' D (.lst ys)) C → s'.heap.Ns C m' → Fin ys H' → RR (.ref D) C (.ok .next) s')
    (hRE : ∀ D C v s' m', s'.heap.Ns C m' → (∀ h', Heap.SameBut C s'.heap h' → ∀ {α : Type} {Q : α → Shared → Prop} (what : String) (env2 : Env), env2.frame = X.env.frame → wpAny (model X.prog X.w) X.A (PySem.passOn what v env2 : Sem α) Q X.xe { s' with heap := h' }) → RR D C (.error v) s') :
    wpAny (model X.prog X.w) X.A (newList []) (fun acc s3 => wpAny (model X.prog X.w) X.A (newFunctionEnv sc X.env.globals (clOf X.env sc) [] X.env.qual none .none (some X.env)) (fun cenv s4 =>
      codeAny (model X.prog X.w) X.A (.compStart (.ListComp elt [⟨tg, iter, ifs, 0⟩] sc pos) 0 (.ref it) acc { cenv with scope := relabel sc X.env }) (RR acc cenv.locals) s4) E s3) E s := by
  obtain ⟨W, ⟨m0, w0⟩, turn⟩ := hW
  refine wpAny_newObj_type (wpAny_newFunctionEnv S.cell (by intro y hy; simp at hy) (fun h1 hns hsb => ?_) S.kind)
  dsimp only at hns hsb ⊢
  generalize hH2 : s.heap.push { cls := .type "list", dict := none, data := .seq ([] : List Value).toArray } = H2 at hns hsb ⊢
  have hC : H2.objs.size = s.heap.objs.size + 1 := by rw [← hH2, Heap.size_push]
  generalize hCe : H2.objs.size = C at hns hsb hC ⊢
  generalize hDe : s.heap.objs.size = D at hC ⊢
  have hDC : D ≠ C := by omega
  have below : ∀ b o, s.heap.get? b = some o → b ≠ D ∧ b ≠ C := fun b o e => by
    have z : b < s.heap.objs.size := Heap.lt_size e
    rw [hDe] at z
    exact ⟨Nat.ne_of_lt z, Nat.ne_of_lt (by rw [hC]; exact Nat.lt_succ_of_lt z)⟩
  have old : ∀ b o, s.heap.get? b = some o → h1.get? b = some o := fun b o e => hsb.extBut b o (below b o e).2 (Heap.get?_push_of_some _ (hH2 ▸ Heap.get?_push_of_some _ e))
  have hD1 : h1.get? D = some { cls := .type "list", data := .seq ([] : List Value).toArray } :=
    hsb.extBut _ _ hDC (Heap.get?_push_of_some _ (by rw [← hH2, ← hDe]; exact Heap.get?_push_size _ rfl))
  have hobj : ∀ b ∈ fp, ∃ o, s.heap.get? b = some o := fun b hb => let ⟨o, e, _⟩ := T.obj 0 _ st b hb; ⟨o, e⟩
  have fne : ∀ b ∈ fp, b ≠ D ∧ b ≠ C := fun b hb => let ⟨o, e⟩ := hobj b hb; below b o e
  -- the frame facts of D and C, from the state ahead
  have fD : ∀ H', H' D = none → FpOk X pins H' D := fun H' n => I.fpOk (by omega) n
  have fC : ∀ H', H' C = none → FpOk X pins H' C := fun H' n => I.fpOk (by omega) n
  have Dpn : ∀ p ∈ X.pn ++ pins, p.1 ≠ D := fun p hp => (below _ _ (I.pin p hp).1).1
  have cells : ∀ y c, (clOf X.env sc).lookup y = some c → c ≠ D := fun y c e => by
    have e' := cl_sound sc.names [] (fun y c e => by simp at e) y c e
    obtain ⟨v, z⟩ := I.cell y c e'
    have z' : c < s.heap.objs.size := z.lt
    rw [hDe] at z'
    exact Nat.ne_of_lt z'
  have nfs : ∀ b, b ∈ frs X.stack → ∃ o, s.heap.get? b = some o := fun b hb => let ⟨_, o, ho, _⟩ := I.stack.mem hb; ⟨o, ho⟩
  have Dfs : D ∉ frs X.stack := fun z => let ⟨o, e⟩ := nfs D z; (below _ _ e).1 rfl
  -- an iterator's objects, in the block
  have fpC : ∀ {pl : List (Addr × Obj)} {H' : Hp}, (∀ p ∈ pl, p.1 = D) → (∀ b ∈ fp, H' b = none) → ∀ b ∈ fp, FpOk (cxC X vs sc C s H fp) (pins ++ pl) H' b := fun {pl H'} hpl hn b hb => by
    obtain ⟨_, q1, q2, q3, q4, q5⟩ := hf b hb
    refine ⟨hn b hb, (fne b hb).2, fun z => ?_, .inl hb, fun y c e => q4 y c (cl_sound sc.names [] (fun y c e => by simp at e) y c e), fun p hp => ?_⟩
    · rcases List.mem_cons.mp (I.stkSub b z) with y | y
      · exact q1 y
      · exact q2 y
    · rcases List.mem_append.mp hp with z | z
      · exact q5 p (List.mem_append_left _ z)
      · rcases List.mem_append.mp z with y | y
        · exact q5 p (List.mem_append_right _ y)
        · rw [hpl p y]; exact Ne.symm (fne b hb).1
  have loop : ∀ s3 : Shared, s3 = { s with heap := h1, toks := s.toks + ([] : List (Str × Value)).length } →
      codeAny (model X.prog X.w) X.A (.compLoop (.ListComp elt [⟨tg, iter, ifs, 0⟩] sc pos) 0 (.ref it) (.ref D) (compEnvC sc (clOf X.env sc) C X.env)) (RR (.ref D) C) s3 := by
    rintro s3 rfl
    have I0 : Inv (cxC X vs sc C s H fp) pins (compSt vs σ) H { s with heap := h1, toks := s.toks + ([] : List (Str × Value)).length } := comp_inv S I hf hobj old hns (by omega)
    refine comp_loopX (fun n s' => ∃ i ys its no H', Inv (cxC X vs sc C s H fp) pins (compSt vs σ) H' s' ∧ tn i s'.heap ∧ (∀ b ∈ fp, H' b = none) ∧ H' D = none ∧
      s'.heap.get? D = some { cls := .type "list", data := .seq its.toArray no } ∧ Vals ys its ∧ W i n ys H') ?_ m0
      ⟨0, [], [], 0, H, I0, T.keep 0 _ _ st fun b hb o e => old b o e, fun b hb => (hf b hb).1, I.hok.fresh (by omega), hD1, .nil, w0⟩
    rintro n s' ⟨i, ys, its, no, H', I1, st1, fr1, dn1, dl1, va1, w1⟩
    -- the list is pinned through the turn
    have pinD : Inv (cxC X vs sc C s H fp) (pins ++ [(D, { cls := .type "list", data := .seq its.toArray no })]) (compSt vs σ) H' s' := I1.pins_of fun p hp => by
      rcases List.mem_append.mp hp with z | z
      · exact I1.pin p (List.mem_append_right _ z)
      · have e : p = (D, { cls := .type "list", data := .seq its.toArray no }) := by simpa using z
        subst e
        exact ⟨dl1, dn1, hDC, Dfs, fun v z => by have z' : Data.seq _ _ = Data.cell v := z; cases z'⟩
    have onlyD : ∀ p ∈ [((D, { cls := .type "list", data := .seq its.toArray no }) : Addr × Obj)], p.1 = D := fun p hp => by
      have e : p = (D, { cls := .type "list", data := .seq its.toArray no }) := by simpa using hp
      rw [e]
    rcases turn i n ys H' w1 with ⟨stop, hz, fin⟩ | ⟨go, hz, N, hN, step⟩
    · refine thn (T.done (cxC X vs sc C s H fp) rfl rfl rfl hc i _ s' _ H' (fun _ _ => False) pinD (fpC onlyD fr1) st1 stop) fun r s4 ⟨hr, I4⟩ => ?_
      subst hr
      have d4 : s4.heap.get? D = some { cls := .type "list", data := .seq its.toArray no } := (I4.pin (D, _) (List.mem_append_right _ (List.mem_append_right _ (List.mem_cons_self ..)))).1
      have Io : Inv X pins σ H' s4 := I.call' (H' := H') (ch := fp) I4.os I4.base I4.hok I4.bare fun b hb => by
        obtain ⟨_, q1, _, q3, q4, q5⟩ := hf b hb
        exact ⟨q3, q1, q4, q5⟩
      obtain ⟨_, a1, _, a3, a4, a5⟩ := fD H' dn1
      have Ia := Io.adopt hz va1 dn1 d4 (Nat.le_trans I.sz (by omega)) a1 a4 a5
      obtain ⟨m4, ns4, _⟩ := I4.loc
      refine hRR D C s4 H' ys m4 Ia dn1 (fC _ ?_) ns4 fin
      rw [upd_ne (Ne.symm hDC)]
      exact I4.free
    · refine thn (T.item (cxC X vs sc C s H fp) rfl rfl rfl hc i _ s' _ H' (fun _ _ => False) pinD (fpC onlyD fr1) st1 go) fun r s4 ⟨u, hr, h4⟩ => ?_
      subst hr
      refine thn h4 fun _ s5 ⟨x, H5, I5, r5, y5, st5, fr5⟩ => ?_
      have I5' := I5.pinned (fpC onlyD fr5) (T.obj _ _ st5)
      refine thn (hg C s H fp _ s5 _ H5 x u _ I5' r5 (step x H5 y5)) fun _ s6 ⟨σ6, H6, I6, k6, q6⟩ => ?_
      refine thn (ht C s H fp _ s6 σ6 H6 _ I6 q6) fun ok s7 ⟨H7, I7, q7⟩ => ?_
      -- back at the head of the loop
      have len6 : (compSt vs σ).length = σ6.length := by rw [I1.len, I6.len]
      have pinned : ∀ {H8 : Hp} {s8 : Shared}, Inv (cxC X vs sc C s H fp) (pins ++ [(D, { cls := .type "list", data := .seq its.toArray no })] ++ pinsAt fp s5.heap) σ6 H8 s8 →
          tn (i + 1) s8.heap ∧ (∀ b ∈ fp, H8 b = none) ∧ H8 D = none ∧ s8.heap.get? D = some { cls := .type "list", data := .seq its.toArray no } := fun {H8 s8} I8 => by
        refine ⟨T.keep _ _ _ st5 fun b hb o e => (I8.pin (b, o) (List.mem_append_right _ (List.mem_append_right _ (mem_pinsAt hb e)))).1, fun b hb => ?_, ?_, ?_⟩
        · obtain ⟨o, e, d⟩ := T.obj _ _ st5 b hb
          exact (I8.pin (b, o) (List.mem_append_right _ (List.mem_append_right _ (mem_pinsAt hb e)))).2.1
        · exact (I8.pin (D, _) (List.mem_append_right _ (List.mem_append_left _ (List.mem_append_right _ (List.mem_cons_self ..))))).2.1
        · exact (I8.pin (D, _) (List.mem_append_right _ (List.mem_append_left _ (List.mem_append_right _ (List.mem_cons_self ..))))).1
      cases ok with
      | false =>
        rw [if_neg (by decide)] at q7 ⊢
        obtain ⟨m', hm, w7⟩ := hN _ _ q7
        obtain ⟨a1, a2, a3, a4⟩ := pinned I7
        exact ⟨m', hm, i + 1, ys, its, no, H7, (I7.unpinned.unpinned).weak len6 k6, a1, a2, a3, a4, va1, w7⟩
      | true =>
        rw [if_pos rfl] at q7 ⊢
        refine thn (he C s H fp _ s7 σ6 H7 _ E0x _ I7 q7 fun H9 s9 v s' I9 hx => ?_) fun yv s8 ⟨y, H8, I8, r8, n8⟩ => ?_
        · have Io : Inv X pins σ H9 s9 := I.call' (H' := H9) (ch := fp) I9.os I9.base I9.hok I9.bare fun b hb => by
            obtain ⟨_, q1, _, q3, q4, q5⟩ := hf b hb
            exact ⟨q3, q1, q4, q5⟩
          obtain ⟨m9, ⟨o9, es9, ep9, ho9, hd9, sk9, fn9⟩, _⟩ := I9.loc
          have c0 : X.s₀.heap.get? C = none := by
            cases z : X.s₀.heap.get? C with
            | none => rfl
            | some o => exact absurd (Heap.lt_size z) (Nat.not_lt.mpr (Nat.le_trans I.sz (by omega)))
          exact thn (note_comp (E1 := fun x s' => RR (.ref D) C (.error x) s') Io out hex hst hfl hx ho9 I9.free (fun ws z => by rw [hd9] at z; cases z) (fun z => let ⟨o, e⟩ := nfs C z; (below _ _ e).2 rfl) c0 rfl) fun _ s2 ⟨⟨sl, e2⟩, go⟩ => hRE _ C v s2 m9 ⟨_, es9, ep9, e2, hd9, sk9, fn9⟩ go
        obtain ⟨m', hm, w8⟩ := hN _ _ n8
        obtain ⟨a1, a2, a3, a4⟩ := pinned I8
        have szI : its.toArray.size ≤ sizeLine := by
          have := va1.length
          rw [List.size_toArray]
          omega
        refine wpAny_list_append_plain ⟨no, a4⟩ (fun h' pl sb => ?_) szI
        obtain ⟨no', pl'⟩ := pl
        have I9 : Inv (cxC X vs sc C s H fp) pins σ6 H8 { s8 with heap := h' } := (I8.unpinned.unpinned).turned (t' := s8.toks) (it := D) (fun b o hb e => (sb.2 b hb).trans e) a3 hDC (.inr (Nat.le_of_eq hDe)) cells Dpn
        refine ⟨m', hm, i + 1, ys ++ [y], its ++ [yv], no', H8, I9.weak len6 k6, T.keep _ _ _ a1 fun b hb o e => (sb.2 b (fne b hb).1).trans e, a2, a3, ?_, va1.append (.cons r8 .nil), w8⟩
        rw [pl']
        simp
  exact codeAny_compStart_list (loop _ rfl) (T.self _ 0 _ _ _ (T.keep 0 _ _ st fun b hb o e => old b o e) (loop _ rfl))
theorem ps_setCX {E0x : XK} {wi : TI} {j : Nat} {y : Str} {py spos : Pos} (S : CompScope X vs sc) (out : Out X E0x) (hex : X.ex = []) (hst : X.stack = X.env :: X.outer) (hfl : X.env.frame = some X.env.locals) (hc : X.calm = true) (hN : X.N.Nodup) (hj : X.N[j]? = some y) (hy : X.env.scope.names.lookup y = some .local) (hi : PI X tg iter wi) (hg : ∀ C s H fp, PG (cxC X vs sc C s H fp) tg g) (ht : ∀ C s H fp, PTs (cxC X vs sc C s H fp) ifs tt)
    (he : ∀ C s H fp, PEx (cxC X vs sc C s H fp) elt te) (hfree : ∀ x ∈ sc.names, x.2 ≠ .free) (hcl : clOf X.env sc = [] := by rfl) (hrl : relabel sc X.env = sc := by rfl) (hsw : swapsWith (.ListComp elt [⟨tg, iter, ifs, 0⟩] sc pos) (some (.Name y py)) spos.line X.env = pure true := by rfl) (hs : ∀ x, foldedSetIterable iter X.env x = pure x := by intro _; rfl) :
    PS X (.Assign [.Name y py] (.ListComp elt [⟨tg, iter, ifs, 0⟩] sc pos) spos) (tAsg (tComp vs wi g tt (te E0x)) (gName j)) := by
  intro pins s σ H D I h
  rw [exec_Assign_Name_used _ _ _ _ hsw]
  refine wpAny_bind (wpAny_standAt (wpAny_bind ?_))
  show wpAny _ X.A (do let _ ← comprehension (.ListComp elt [⟨tg, iter, ifs, 0⟩] sc pos) sc X.env _ (newList []) false (eval iter X.env) (some (assign (.Name y py) X.env))) _ _ s
  refine wpAny_bind (wpAny_mono (wpAny_comprehension_use (u := assign (.Name y py) X.env) (Q := fun _ s' => SP X pins D .next s') rfl hs hfree S.kind S.locs ?_) (fun _ s' hq => wpAny_pure (wpAny_pure hq)) fun _ _ e => e)
  refine thn (hi pins s σ H _ I h) fun v s1 h1 => thn h1 fun itv s2 h2 => ?_
  obtain ⟨it, fp, tn, J, H2, e, I2, T, st2, f2, hW⟩ := h2
  subst e
  have blk := comp_blockX (elt := elt) (iter := iter) (pos := pos) (E := X.xe) (RR := fun acc C r s' => match r with
    | .ok _ => wpAny (model X.prog X.w) X.A (assign (.Name y py) X.env acc) (fun _ s'' => ∃ m, s''.heap.Ns C m ∧ ∀ h', Heap.SameBut C s''.heap h' → SP X pins D .next { s'' with heap := h' }) X.xe s'
    | .error x => ∃ m, s'.heap.Ns C m ∧ ∀ h', Heap.SameBut C s'.heap h' → ∀ env2 : Env, env2.frame = X.env.frame → wpAny (model X.prog X.w) X.A (PySem.passOn "comprehension.variables-let-go" x env2 : Sem Value) (fun _ s' => SP X pins D .next s') X.xe { s' with heap := h' })
    S hc hg ht he out hex hst hfl I2 T st2 f2 hW (fun D' C s' H' ys m' I' hD fC ns fin => ?_) fun D' C v s' m' ns go => ⟨m', ns, fun h' sb env2 fr => go h' sb _ env2 fr⟩
  · rw [hcl, hrl] at blk
    refine thn blk fun acc s3 h3 => ?_
    refine wpAny_mono (wpAny_and h3 (wpAny_newFunctionEnv (Q := fun cenv _ => cenv.frame = X.env.frame) (E := fun _ _ => True) S.cell (by intro y hy; simp at hy) (fun h1 hns hsb => rfl) S.kind)) (fun cenv s4 ⟨h4, fr⟩ => codeAny_mono h4 fun r s' hr => ?_) fun _ _ z => z.1
    cases r with
    | ok f => exact hr
    | error x =>
      obtain ⟨m, ns, go⟩ := hr
      exact ⟨m, ns, fun h' sb => go h' sb _ fr⟩
  · obtain ⟨c0, c1, c2, c3, c4, c5⟩ := fC
    show wpAny _ X.A (assign (.Name y py) X.env (.ref D')) _ _ _
    refine wpAny_assign_Name (store_ok2 (v := .ref D') I' hN hj (.inl hy) (show RelV (.ref D') (.ref D') from rfl) (fun s3 I3 ⟨a, sb, ha⟩ => ?_) (.inr hy))
    have hac : a ≠ C := by
      rcases ha with z | z
      · rw [z]; exact Ne.symm c1
      · exact c4 y a z
    refine ⟨m', ns.sameBut sb (Ne.symm hac), fun h' sb' => ⟨_, _, I3.turned (t' := s3.toks) (it := C) (fun b o hb e => (sb'.2 b hb).trans e) c0 c1 c3 c4 c5, fin D' hD⟩⟩
end
section
variable {X : Cx}
theorem pex_tup2 {e1 e2 : Expr} {t1 : TE} {t2 : XK → TE} {x1} {pos : Pos} (h1 : PE X.nox e1 t1) (h2 : PEx X e2 t2) (hs : starEach [e1, e2] X.env = [(false, eval e1 X.env), (false, eval e2 X.env)] := by rfl) : PEx X (.Tuple [e1, e2] x1 pos) (fun E => tTup (tCons t1 (tCons (t2 E) tNil))) := by
  intro pins s σ H Q E Ex I h hx
  refine wpAny_Tuple_spliced ?_
  rw [hs]
  show wpAny _ _ (spliced ((false, eval e1 X.env) :: backTo pos [(false, eval e2 X.env)])) _ _ s
  refine Calls.spliced_cons (wpAny_mono (h1 pins s σ H _ (I.wish _) h) (fun u s1 ⟨x, H1, I1, r1, q1⟩ => ?_) fun _ _ z => False.elim z)
  have I1 := I1.unwish
  show wpAny _ _ (spliced ((false, eval e2 X.env) :: backTo pos [])) _ _ s1
  refine Calls.spliced_cons (thn (h2 pins s1 σ H1 _ E Ex I1 q1 hx) fun u2 s2 ⟨x2, H2, I2, r2, z, q⟩ => ?_)
  refine Calls.spliced_nil ⟨z, ?_⟩
  have hf : H2 s2.heap.objs.size = none := I2.hok.fresh (Nat.le_refl _)
  refine ⟨.ref s2.heap.objs.size, upd H2 s2.heap.objs.size (.tup [x, x2]), I2.laid (t' := s2.toks) (fun b u e => Heap.get?_push_of_some _ e) (Nat.le_refl _) ?_, rfl, q _ hf⟩
  exact ⟨z, [u, u2], .cons r1 (.cons r2 .nil), ⟨_, Heap.get?_push_size _ rfl, rfl, _, rfl, rfl⟩⟩
end
section
variable {P : Program} {w : World} {K : PySem.W.Frag} {mg : Str → Option Value} {base : Heap}
theorem out_def {N : List Str} {qual : Str} {scope : Scope} {f : Addr} {cd : Value} {A : Around} {outer : List Env} {s : Shared} {H : Hp} {E : XK} : Out (cxOf (CX1 P w) P w K mg base N qual scope f cd A outer s H E) E :=
  fun _ _ h => wpAny_mono h (fun _ _ q => q) fun _ _ z => z.elim
end
end L2
namespace L2
open PySem PySem.Spec PyProof.Rows
def MkeIn (K : PySem.W.Frag) (C D : Addr) : Prop := ErrC K D ∧ ∃ N nm qn bs sn sub ab col dd k0 k1 k2 k3 k5, K.lookup C = some (excClassObj nm qn C N bs (.ref D :: veMro) true sn sub ab col dd k0 k1 k2 k3 k5 "ValueError.__new__")
structure MkE (K : PySem.W.Frag) (C D f : Addr) : Prop where
  cls : MkeIn K C D
  init : PySem.W.findIn K (.ref C) "__init__" = some (some (.ref f))
  fn : PySem.W.isFn K (.ref f) = true
  kp : PySem.W.keepIn K (.ref C) = true
section
variable {P : Program} {w : World} {A : Around} {E : Value → Shared → Prop} {h : Heap} {g : Array GenState} {d : Drawn} {t : Nat} {os : OsState} {C D f : Addr} {K : PySem.W.Frag}
end
def ExcX (e C : Addr) (d : Option Addr) : Heap → Prop := fun h => ∃ t0, h.get? e = some { cls := .ref C, dict := d, data := .fields #[.ref t0, .none, .none, .none, .bool false, .none] }
structure SetE (K : PySem.W.Frag) (C : Addr) (a : Str) : Prop where
  sa : PySem.W.findIn K (.ref C) "__setattr__" = some (some (.builtin "object.__setattr__"))
  na : PySem.W.findIn K (.ref C) a = some none
section
variable {P : Program} {w : World} {A : Around} {E : Value → Shared → Prop} {h : Heap} {g : Array GenState} {d : Drawn} {t : Nat} {os : OsState} {e C D : Addr} {K : PySem.W.Frag} {a : Str} {v : Value} {t0 : Addr}
end
section
variable {X : Cx} {pins : List (Addr × Obj)} {σ : St} {H : Hp} {s : Shared}
end
structure BaseI (K : PySem.W.Frag) (D : Addr) : Prop where
  ga : PySem.W.specialIn K (.ref D) "__getattribute__" = some (some (.builtin "type.__getattribute__"))
  rd : PySem.W.readsIn K D (.type "type") = true
  fi : PySem.W.findCls K (.ref D) (.type "type") "__init__" = some (.val (.builtin "ValueError.__init__"))
def tInitB (C : Addr) (t : TA) : TE := fun σ H Q => t σ H fun vs H1 => ∃ e y, vs = [.ref e, y] ∧ H1 e = some (.ext (ExcX e C none)) ∧ Q .non H1
def sFldE (C : Addr) (a : Str) (ta tv : TE) : TS := fun D σ H => tv σ H fun y H1 => ta σ H1 fun x H2 => ∃ e, x = .ref e ∧ H2 e = some (.ext (ExcX e C none)) ∧ ∀ dx, H2 dx = none → dx ≠ e → D.nx σ (upd (upd H2 dx (.xd [(a, y)])) e (.ext (ExcX e C (some dx))))
section
variable {X : Cx} {C D f : Addr} {x a : Str} {e1 e2 o value : Expr} {t : TA} {ta tv : TE} {p apos pos pos' : Pos}
end
end L2
namespace L2
open PySem PySem.Spec PyProof.Rows
section
variable {X : Cx} {pins : List (Addr × Obj)} {σ : St} {H H' : Hp} {s : Shared}
end
def ThrowsE (X : Cx) (E : XK) : Prop := ∀ (pins : List (Addr × Obj)) (σ : St) (H : Hp) (s : Shared) (e C : Addr) (d : Option Addr), Inv X pins σ (upd H e (.ext (ExcX e C d))) s → H e = none → X.s₀.heap.get? e = none → E (.ref C) d H → X.xe (.ref e) s
section
variable {M : Model} {A : Around} {E : Value → Shared → Prop} {s : Shared} {env : Env} {K : PySem.W.Frag} {C D : Addr}
end
def tRaiseE (C : Addr) (sp : Sp) (E : XK) (t : TA) : TS := fun _ σ H => t σ H fun vs H1 => vs.length ≤ sizeLine ∧ ∀ e, H1 e = none → sp (.ref e :: vs) (upd H1 e (.ext (ExcX e C none))) (fun v H2 => v = .non ∧ ∃ d H3, H2 = upd H3 e (.ext (ExcX e C d)) ∧ H3 e = none ∧ E (.ref C) d H3) E0
section
variable {X : Cx} {k : Nat} {C D f : Addr} {fd : FuncData} {ps : List Str} {sp : Sp} {E : XK} {x : Str} {np pos cpos : Pos} {e : Expr} {es : List Expr} {t : TA}
def MakesE (P : Program) (w : World) (K : PySem.W.Frag) (mg : Str → Option Value) (base : Heap) (x : Str) (k : Nat) (ps : List Str) (sp : Sp) (C : Addr) : Prop := ∃ D f fd, MkE K C D f ∧ FnOk P w K mg base CX0 k f fd ps sp ∧ Binds K fd ps [] ∧ mg x = some (.ref C)
end
end L2
namespace L2
open PySem PySem.Spec PyProof.Rows
def ClsB (K : PySem.W.Frag) (C : Addr) (bm : List Value) : Prop := ∃ N nm qn bs hdct sn sub ab col dd k0 k1 k2 k3 k5 nw, K.lookup C = some (excClassObj nm qn C N bs bm hdct sn sub ab col dd k0 k1 k2 k3 k5 nw)
def CatchB (K : PySem.W.Frag) (C D : Addr) : Prop := ∃ bm bm', ClsB K C bm ∧ ClsB K D bm' ∧ (Value.ref C :: bm).contains (.ref D) = true ∧ (Value.ref D :: bm').contains (.type "BaseException") = true
def tTry0 (K : PySem.W.Frag) (D' : Addr) (tb : XK → TS) (ts : TS) : TS := fun D σ H => ∃ E : XK, tb E D σ H ∧ ∀ C d H1, E (.ref C) d H1 → CatchB K C D' ∧ ts D σ H1
def tTryB (i : Nat) (K : PySem.W.Frag) (D' : Addr) (tb : XK → TS) (ts : TS) : TS := fun D σ H => ∃ E : XK, tb E D σ H ∧ ∀ C d H1, E (.ref C) d H1 → CatchB K C D' ∧ ∀ e, H1 e = none → ts (gone i D) (σ.set i (some (.ref e))) (upd H1 e (.ext (ExcAt e C d)))
structure GetE (K : PySem.W.Frag) (C : Addr) (a : Str) : Prop where
  ga : PySem.W.findIn K (.ref C) "__getattribute__" = some (some (.builtin "BaseException.__getattribute__"))
  gt : PySem.W.findIn K (.ref C) "__getattr__" = some none
  na : PySem.W.findIn K (.ref C) a = some none
section
variable {P : Program} {w : World} {A : Around} {E : Value → Shared → Prop} {h : Heap} {g : Array GenState} {d : Drawn} {t : Nat} {os : OsState} {e C D dx : Addr} {o : Obj} {K : PySem.W.Frag} {a : Str} {u : Value} {mA : Str → Option Value}
end
def tFldX (K : PySem.W.Frag) (a : Str) (ta : TE) : TE := fun σ H Q => ta σ H fun x H1 => ∃ e C D dx n, x = .ref e ∧ H1 e = some (.ext (ExcAt e C (some dx))) ∧ H1 dx = some (.xd [(a, .int n)]) ∧ MkeIn K C D ∧ GetE K C a ∧ Q (.int n) H1
structure RoomH (k : Nat) (A : Around) : Prop where
  dp : A.depth + 3 * k + 5 < recursionLimit
  un : A.units + 16 * k + 200 < cLine
theorem Room.held {k : Nat} {A : Around} (r : Room k A) : RoomH k A := ⟨r.dp, r.un⟩
theorem RoomH.mono {j k : Nat} {A : Around} (r : RoomH k A) (h : j ≤ k) : RoomH j A := ⟨by have := r.dp; omega, by have := r.un; omega⟩
theorem RoomH.mark {k : Nat} {A : Around} (r : RoomH k A) (h : Option Value) : RoomH k (A.mark h) := ⟨r.dp, r.un⟩
theorem RoomH.units {k : Nat} {A : Around} (r : RoomH k A) : A.units + 64 < cLine := by have := r.un; omega
structure FnOkH (P : Program) (w : World) (K : PySem.W.Frag) (mg : Str → Option Value) (base : Heap) (k : Nat) (f : Addr) (fd : FuncData) (ps : List Str) (sp : Sp) : Prop where
  len : ∀ vs H Q E, sp vs H Q E → vs.length = ps.length
  run : ∀ (A : Around) (outer : List Env) (s : Shared) (H : Hp) (args : Args) (us : List Value) (vs : List V) (Q : VK) (E : XK), RoomH k A → Env0 P w K mg base A outer s H → BindsTo s fd args (ps.zip us) → Vals vs us → sp vs H Q E →
    codeAny (model P w) A (.call (.ref f) args) (CR CX0 outer P w H s Q E) s
abbrev Cx.loud (X : Cx) : Cx := { X with calm := false }
theorem fn_ofH {P : Program} {w : World} {K : PySem.W.Frag} {mg : Str → Option Value} {base : Heap} {k : Nat} {f : Addr} {name qual : Str} {params : Arguments} {body : List Stmt} {scope : Scope} {dV kV doc pm cdv ct oc : Value} {an od : Option Addr}
    {osl : Array (Option Value)} {N ps : List Str} {sp : Sp} (lk : K.lookup f = some ⟨oc, od, .func (PySem.W.fnOf name qual params body scope dV kV doc pm an cdv ct), osl⟩) (hcd : PySem.W.codeIn K cdv qual = true) (S : FnScope N ps scope)
    (len : ∀ vs H Q E, sp vs H Q E → vs.length = ps.length)
    (hbody : ∀ (A : Around) (outer : List Env) (s : Shared) (H : Hp) (vs : List V) (Q : VK) (E : XK), RoomH k (A.deeper (envOfC qual scope s.heap.objs.size f cdv)) → sp vs H Q E →
      ∃ t, PSs (cxOf CX0 P w K mg base N qual scope f cdv A outer s H E).loud.nox body t ∧ t { nx := fun _ H' => Q .non H', rt := Q } (start N vs) H) :
    FnOkH P w K mg base (k + 1) f (PySem.W.fnOf name qual params body scope dV kV doc pm an cdv ct) ps sp := by
  refine ⟨len, fun A outer s H args us vs Q E hr e0 hb r hsp => ?_⟩
  have hl := len _ _ _ _ hsp
  have KX : K.In s.heap := e0.mod.kin.keeps fun b o e => (e0.bs b o e).1
  have lim : s.heap.NoLimit := e0.mod.nolimit.keeps fun b o e => (e0.bs b o e).1
  have hkind : ∀ y ∈ ps.zip us, scope.names.lookup y.1 = some .local ∨ (scope.names.lookup y.1 = some .cell ∧ ((cellsFrom (s.heap.objs.size + 1) scope.names []).lookup y.1).isSome = true) := fun ⟨n, v⟩ hy => by
    rcases S.par n (List.of_mem_zip hy).1 with q | q
    · exact .inl q
    · exact .inr ⟨q, PySem.W.cellsFrom_some _ _ _ (.inl q)⟩
  refine codeAny_call_function (by have := hr.dp; omega) (KX _ _ lk) rfl S.co S.gen rfl (PySem.W.codeRec_of KX hcd) (hb _ _ _ _ ?_)
  refine wpAny_newFunctionEnv_cells S.kind hkind fun env he s1 x => ?_
  subst he
  refine ⟨lim.keeps x.toInCall.keep, codeAny_func ?_⟩
  obtain ⟨t, ht, hq⟩ := hbody A outer s H vs Q E ⟨by have := hr.dp; show A.depth + 1 + 3 * k + 5 < _; omega, by have := hr.un; show A.units + 3 + 16 * k + 200 < _; omega⟩ hsp
  have J : Inv (cxOf CX0 P w K mg base N qual scope f cdv { A with handled := none } outer s H E) [] (start N vs) H s1 := inv_start S rfl ⟨e0.frames, e0.mod, e0.bs, e0.bsz, e0.funs, e0.frf, e0.hok, e0.bare⟩ hl r x
  have I : Inv (cxOf CX0 P w K mg base N qual scope f cdv A outer s H E).loud [] (start N vs) H s1 :=
    ⟨⟨J.ok.mod, J.ok.kind, J.ok.glob, J.ok.blt, J.ok.above, J.ok.inj, J.ok.has, J.ok.cab, (fun z => by cases z), J.ok.frames, J.ok.stk, J.ok.exf, J.ok.bs, J.ok.bsz, J.ok.noex, J.ok.exfs, J.ok.funs, J.ok.frf⟩, J.os, J.bare, J.base, J.loc, J.cell, J.free, J.freeC, J.pin, J.hok, J.len⟩
  refine wpAny_mono (ht [] s1 (start N vs) H _ (I.wish _) hq) (fun fl s' hs => ?_) fun e s' hs => False.elim hs
  have fin : ∀ {σ' : St} {H' : Hp} {v : V} {u : Value}, Inv (cxOf CX0 P w K mg base N qual scope f cdv A outer s H E).loud [] σ' H' s' → RelV v u → Q v H' → CE outer P w H s Q u s' :=
    fun {σ' H' v u} J rv q => ⟨v, H', J.os, J.bare, J.base, J.hok, rv, q⟩
  cases fl with
  | ret u =>
    obtain ⟨v, σ', H', J, rv, q⟩ := hs
    exact fin J.unwish rv q
  | next =>
    obtain ⟨σ', H', J, q⟩ := hs
    exact fin (v := V.non) (u := Value.none) J.unwish rfl q
  | brk =>
    obtain ⟨_, _, _, q⟩ := hs
    exact False.elim q
  | cont =>
    obtain ⟨_, _, _, q⟩ := hs
    exact False.elim q
theorem Fun.okH {P : Program} {w : World} {K : PySem.W.Frag} {mg : Str → Option Value} {base : Heap} {x qual : Str} {st : Stmt} {f : Addr} {fd : FuncData} {N ps : List Str} {k : Nat} {sp : Sp} (F : Fun K x qual st f fd) (S : FnScope N ps (defScope st)) (len : ∀ vs H Q E, sp vs H Q E → vs.length = ps.length)
    (body : ∀ (cdv : Value) (A : Around) (outer : List Env) (s : Shared) (H : Hp) (vs : List V) (Q : VK) (E : XK), RoomH k (A.deeper (envOfC qual (defScope st) s.heap.objs.size f cdv)) → sp vs H Q E →
      ∃ t, PSs (cxOf CX0 P w K mg base N qual (defScope st) f cdv A outer s H E).loud.nox (defBody st) t ∧ t { nx := fun _ H' => Q .non H', rt := Q } (start N vs) H) : FnOkH P w K mg base (k + 1) f fd ps sp := by
  obtain ⟨oc, od, kV, doc, pm, an, cdv, ct, osl, rfl, lk, hcd⟩ := F.ex
  exact fn_ofH lk hcd S len fun A outer s H vs Q E hr hsp => body cdv A outer s H vs Q E hr hsp
def CalleeH (P : Program) (w : World) (K : PySem.W.Frag) (mg : Str → Option Value) (base : Heap) (x : Str) (k : Nat) (ps : List Str) (sp : Sp) : Prop :=
  ∃ f fd, FnOkH P w K mg base k f fd ps sp ∧ mg x = some (.ref f) ∧ PySem.W.keepIn K (.ref f) = true ∧ Binds K fd ps []
theorem pe_callH {X : Cx} {x : Str} {k : Nat} {ps : List Str} {sp : Sp} {e : Expr} {es : List Expr} {t : TA} {p pos : Pos} (c : CalleeH X.prog X.w X.K X.mg X.base x k ps sp) (hr : RoomH k X.A) (hg : Gl X x) (ha : PA X (e :: es) t)
    (hdb : (x == ("__debug__" : Str)) = false := by decide) (he : starEach (e :: es) X.env = (false, eval e X.env) :: starEach es X.env := by rfl) (hpl : (backTo pos (starEach es X.env)).any (·.1) = false := by rfl) :
    PE X (.Call (.Name x p) (e :: es) [] pos) (tCall sp [] E0 t) := by
  obtain ⟨f, fd, F, hm, hk, hb⟩ := c
  intro pins s σ H Q I h
  refine wpAny_Call_Name_kw (ld_glob I hg hm ?_ hdb)
  refine PySem.W.callWith_K (h₀ := X.base) I.ok.mod.kin hk (thn (ha pos pins s σ H _ I h) fun us s1 ⟨vs, H1, I1, r, q⟩ => ⟨I1.kIn, ?_⟩) he hpl
  have q : sp vs H1 Q E0 := by
    have q' : sp (vs ++ []) H1 Q E0 := q
    rwa [List.append_nil] at q'
  have hl : us.length = ps.length := by rw [← r.length]; exact F.len _ _ _ _ q
  have hbb := hb s1 us I1.kIn (by rw [List.append_nil]; exact hl)
  rw [List.append_nil] at hbb
  refine wpAny_call (codeAny_mono (F.run X.A X.stack s1 H1 ⟨us, []⟩ us vs Q E0 hr I1.env0 hbb r q) fun r s' hq => ?_)
  cases r with
  | error v => exact hq.elim
  | ok fl =>
    cases fl with
    | ret u => exact I1.after hq
    | next => exact False.elim hq
    | brk => exact False.elim hq
    | cont => exact False.elim hq
end L2
namespace L2
open PySem PySem.Spec PyProof.Rows
structure ErrM (K : PySem.W.Frag) (C D : Addr) : Prop where
  cls : MkeIn K C D
  ga : PySem.W.findIn K (.ref C) "__getattribute__" = some (some (.builtin "BaseException.__getattribute__"))
  gt : PySem.W.findIn K (.ref C) "__getattr__" = some none
  cl : PySem.W.findIn K (.ref C) "__class__" = some (some (.builtin "object.__class__"))
section
variable {P : Program} {w : World} {A : Around} {E : Value → Shared → Prop} {h : Heap} {g : Array GenState} {d : Drawn} {t : Nat} {os : OsState} {e C D : Addr} {o : Obj} {K : PySem.W.Frag}
end
def rIsiM (K : PySem.W.Frag) (c : V → Value → Prop) : List V → Hp → VK → Prop := fun xs H Q => ∃ e C D d cv u b, xs = [.ref e, cv] ∧ c cv u ∧ H e = some (.ext (ExcAt e C d)) ∧ ErrM K C D ∧ PySem.W.kitOne K (.ref C) u = some b ∧ Q (.bl b) H
end L2
namespace L2
open PySem PySem.Spec PyProof.Rows
def RcOp (op : CmpOp) (A : Around) (s : Shared) (x y : Value) (r : Bool) : Prop :=
  ∀ (P : Program) (w : World) (E : Value → Shared → Prop) (Q : Value → Shared → Prop), Q (.bool r) s → wpAny (model P w) A (richCompare op x y) Q E s
inductive Cmp (op : CmpOp) (A : Around) (s : Shared) : List (Value × Value) → Option Bool → Prop where
  | nil : Cmp op A s [] none
  | eq {x y zs o} : SeqAt.EqAt A s x y true → Cmp op A s zs o → Cmp op A s ((x, y) :: zs) o
  | ne {x y zs r} : SeqAt.EqAt A s x y false → RcOp op A s x y r → Cmp op A s ((x, y) :: zs) (some r)
def SeqObj (c : String) (h : Heap) (a : Addr) (its : List Value) : Prop := ∃ n dx sl, h.get? a = some ⟨.type c, dx, .seq its.toArray n, sl⟩
abbrev From (xs ys : List Value) (i : Nat) : List (Value × Value) := (xs.zip ys).drop i
section
variable {P : Program} {w : World} {A : Around} {E : Value → Shared → Prop} {s : Shared} {op : CmpOp}
end
section
open AutoSeq1
open MeetsSeq MeetsSeq2 MeetsSeq3 SeqRoads2 SeqAt
variable {l b : Addr} {xs ys : List Value}
end
end L2
namespace L2
open PySem PySem.Spec PyProof.Rows
def ltlO : List Nat → List Nat → Option Bool
  | a :: xs, b :: ys => if a = b then ltlO xs ys else some (decide (a < b))
  | _, _ => none
def ltl (xs ys : List Nat) : Bool := (ltlO xs ys).getD (decide (xs.length < ys.length))
theorem ltl_irr (xs : List Nat) : ltl xs xs = false := by
  have no : ltlO xs xs = none := by
    induction xs with
    | nil => rfl
    | cons a xs ih => rw [ltlO, if_pos rfl, ih]
  unfold ltl
  rw [no]
  simp
section
variable {A : Around} {s : Shared} {l b : Addr} {xs ys : List Value} {o : Option Bool}
theorem eqAt_int {i j : Int} {t u : Tok} : SeqAt.EqAt A s (.int i t) (.int j u) (decide (i = j)) := by
  have z := eqAt_V (A := A) (s := s) (y := .int i) (x := .int j) (u := .int i t) (v := .int j u) ⟨t, rfl⟩ ⟨u, rfl⟩ rfl rfl
  have e : eqV (.int i) (.int j) = decide (i = j) := by
    show (i == j) = _
    by_cases h : i = j <;> simp [h]
  rwa [e] at z
theorem SeqObj.ty {c : String} (h : SeqObj c s.heap l xs) : s.TypeIs (.ref l) c := let ⟨_, _, _, e⟩ := h; ⟨_, e, rfl⟩
end
section
variable {X : Cx}
def plt (i : Int) (ps : List Nat) (j : Int) (qs : List Nat) : Bool := if i = j then ltl ps qs else decide (i < j)
def Pair (K : PySem.W.Frag) (lst : Bool) (H : Hp) (x : V) (i : Int) (ps : List Nat) : Prop := ∃ a p, x = .ref a ∧ SqT K H a [.int i, .ref p] ∧ (if lst then SqL K H p (ps.map nv) else SqT K H p (ps.map nv))
theorem Pair.same {K : PySem.W.Frag} {lst : Bool} {H H' : Hp} {x : V} {i : Int} {ps : List Nat} (h : Pair K lst H x i ps) (g : Same H H') : Pair K lst H' x i ps := by
  obtain ⟨a, p, rfl, h1, h2⟩ := h
  refine ⟨a, p, rfl, g.sqt h1, ?_⟩
  cases lst with
  | true => exact g.seq (show SqL K H p _ from h2)
  | false => exact g.sqt (show SqT K H p _ from h2)
section
variable {pins : List (Addr × Obj)} {σ : St} {H : Hp} {s : Shared} {lst : Bool} {x y : V} {v u : Value} {i j : Int} {ps qs : List Nat} {A : Around}
abbrev kindD (lst : Bool) (ps : List Nat) : Dt := if lst then .lst ((ps.map fun (n : Nat) => (n : Int)).map Dt.int) else .tup ((ps.map fun (n : Nat) => (n : Int)).map Dt.int)
end
def rPair (K : PySem.W.Frag) (F : Bool → Bool) : R2 := fun x y H Q => ∃ lst i ps j qs, Pair K lst H x i ps ∧ Pair K lst H y j qs ∧ Q (.bl (F (plt i ps j qs))) H
end
end L2
namespace L2
open PySem PySem.Spec PyProof.Rows
def sub5 (m : Nat) : List Nat := (List.range 5).filter fun i => m.testBit i
def tab5 (led : Bool) (xs : List Nat) : SetTable := { mask := if xs.length = 5 then 31 else 7, place := xs.toArray, dummies := #[], finger := 0, led, moves := if xs.length = 5 then 1 else 0, plain := true }
def goes5 (xs : List Nat) (k : Nat) : Nat := (xs.filter (· < k)).length
def tabP (led : Bool) (m k : Nat) : SetTable := { tab5 led (sub5 m) with place := (sub5 (m ||| 2 ^ k)).toArray }
theorem tab5_fits : ∀ (led : Bool) (m : Fin 32), (tab5 led (sub5 m)).fits (sub5 m).length = true := by decide +kernel
theorem tab5_free : ∀ (led : Bool) (m : Fin 32) (k : Fin 5), (m : Nat).testBit k = false → (tab5 led (sub5 m)).freeSlot ((k : Nat) : Int) = some ((k : Nat), false) := by decide +kernel
theorem tab5_put : ∀ (led : Bool) (m : Fin 32) (k : Fin 5), (m : Nat).testBit k = false → (tab5 led (sub5 m)).put k = (tabP led m k, goes5 (sub5 m) k) ∧ (tabP led m k).fits ((sub5 m).length + 1) = true := by decide +kernel
theorem sub5_add : ∀ (m : Fin 32) (k : Fin 5), (m : Nat).testBit k = false → sub5 (m ||| 2 ^ (k : Nat)) = (sub5 m).take (goes5 (sub5 m) k) ++ (k : Nat) :: (sub5 m).drop (goes5 (sub5 m) k) := by decide +kernel
theorem sub5_old : ∀ (m : Fin 32) (k : Fin 5), (k : Nat) ∈ sub5 m → (m ||| 2 ^ (k : Nat) : Nat) = m := by decide +kernel
theorem sub5_new : ∀ (m : Fin 32) (k : Fin 5), (k : Nat) ∉ sub5 m → (m : Nat).testBit k = false := by decide +kernel
theorem sub5_lt : ∀ (m : Fin 32) (k : Fin 5), (m ||| 2 ^ (k : Nat) : Nat) < 32 := by decide +kernel
theorem sub5_len : ∀ m : Fin 32, (sub5 m).length ≤ 5 := by decide +kernel
theorem tab5_small : ∀ (led : Bool) (m : Fin 32) (k : Fin 5), (m : Nat).testBit k = false → (sub5 m).length ≠ 4 → tabP led m k = tab5 led (sub5 (m ||| 2 ^ (k : Nat))) ∧ (tabP led m k).tooFull = false := by decide +kernel
theorem tab5_big : ∀ (led : Bool) (m : Fin 32) (k : Fin 5), (m : Nat).testBit k = false → (sub5 m).length = 4 → (tabP led m k).tooFull = true ∧
    (tabP led m k).relaid #[0, 1, 2, 3, 4] (SetTable.grown 5) = some (tab5 led (sub5 (m ||| 2 ^ (k : Nat))), #[0, 1, 2, 3, 4]) ∧ sub5 (m ||| 2 ^ (k : Nat)) = [0, 1, 2, 3, 4] ∧ (tab5 led (sub5 (m ||| 2 ^ (k : Nat)))).fits 5 = true := by decide +kernel
theorem hash5 : ∀ k : Fin 5, hashInt ((k : Nat) : Int) = ((k : Nat) : Int) := by decide +kernel
def Ents : List Nat → List (Int × Value) → Prop := Paired fun n e => e.1 = (n : Int) ∧ ∃ t, e.2 = .int (n : Int) t
def setObj (es : List (Int × Value)) (ep : Nat) (t : SetTable) : Obj := { cls := .type "set", data := .set es.toArray ep t }
def IsSet5 (h : Heap) (a : Addr) (led : Bool) (m : Nat) : Prop := m < 32 ∧ ∃ es ep, h.get? a = some (setObj es ep (tab5 led (sub5 m))) ∧ Ents (sub5 m) es
theorem Ents.take : ∀ {ns : List Nat} {es : List (Int × Value)} (p : Nat), Ents ns es → Ents (ns.take p) (es.take p)
  | _, _, 0, _ => .nil
  | _, _, _ + 1, .nil => .nil
  | _, _, p + 1, .cons r t => .cons r (Ents.take p t)
theorem Ents.drop : ∀ {ns : List Nat} {es : List (Int × Value)} (p : Nat), Ents ns es → Ents (ns.drop p) (es.drop p)
  | _, _, 0, r => r
  | _, _, _ + 1, .nil => .nil
  | _, _, p + 1, .cons _ t => Ents.drop p t
theorem Ents.app : ∀ {ns ms : List Nat} {es fs : List (Int × Value)}, Ents ns es → Ents ms fs → Ents (ns ++ ms) (es ++ fs)
  | _, _, _, _, .nil, r => r
  | _, _, _, _, .cons q t, r => .cons q (Ents.app t r)
theorem Ents.len {ns : List Nat} {es : List (Int × Value)} (h : Ents ns es) : es.length = ns.length := (Paired.length h).symm
theorem Ents.keys : ∀ {ns : List Nat} {es : List (Int × Value)}, Ents ns es → es.map (·.1) = ns.map fun (n : Nat) => (n : Int)
  | _, _, .nil => rfl
  | _, _, .cons q t => by rw [List.map_cons, List.map_cons, q.1, Ents.keys t]
theorem Ents.mem : ∀ {ns : List Nat} {es : List (Int × Value)} {e : Int × Value}, Ents ns es → e ∈ es → ∃ n ∈ ns, e.1 = (n : Int) ∧ ∃ t, e.2 = .int (n : Int) t
  | _, _, _, .cons q t, h => by
    rcases List.mem_cons.mp h with z | z
    · subst z
      exact ⟨_, List.mem_cons_self, q⟩
    · obtain ⟨n, h1, h2⟩ := Ents.mem t z
      exact ⟨n, List.mem_cons_of_mem _ h1, h2⟩
theorem Ents.has : ∀ {ns : List Nat} {es : List (Int × Value)} {n : Nat}, Ents ns es → n ∈ ns → ∃ e ∈ es, ∃ t, e.2 = .int (n : Int) t
  | _, _, _, .cons q t, h => by
    rcases List.mem_cons.mp h with z | z
    · subst z
      exact ⟨_, List.mem_cons_self, q.2⟩
    · obtain ⟨e, h1, h2⟩ := Ents.has t z
      exact ⟨e, List.mem_cons_of_mem _ h1, h2⟩
theorem Ents.elems {P : Program} {w : World} {m : Fin 32} {es : List (Int × Value)} (h : Ents (sub5 m) es) : ElemsOf (intKind P w) es := fun e he => by
  obtain ⟨n, hn, e1, t, e2⟩ := h.mem he
  have hn5 : n < 5 := List.mem_range.mp (List.mem_filter.mp hn).1
  exact ⟨⟨(n : Int), by rw [e2]; exact intKind_is _ _ _ _, by rw [e1]; exact (hash5 ⟨n, hn5⟩).symm⟩, by rw [e2]; rfl⟩
theorem ins_list {α : Type} (xs : List α) (p : Nat) (x : α) : (SetTable.insertAt xs.toArray p x) = (xs.take p ++ x :: xs.drop p).toArray := by
  unfold SetTable.insertAt
  apply Array.ext'
  simp
  exact List.take_of_length_le (by simp)
section
variable {P : Program} {w : World} {A : Around} {E : Value → Shared → Prop} {s : Shared} {a : Addr} {led : Bool} {m k : Nat} {t : Tok}
theorem upd_set {h : Heap} {es fs : List (Int × Value)} {ep : Nat} {t u : SetTable} (e : h.get? a = some (setObj es ep t)) : (h.update a (Obj.putSet fs.toArray u)).get? a = some (setObj fs (ep + 1) u) := Heap.get?_update_self _ e rfl
theorem len_s {α : Type} {fs : List α} {n : Nat} (h : fs.length = n + 1) : ∃ a r, fs = a :: r ∧ r.length = n := by
  cases fs with
  | nil => cases h
  | cons a r => exact ⟨a, r, rfl, Nat.succ.inj h⟩
theorem pick5 {α : Type} {fs : List α} (h : fs.length = 5) : (#[0, 1, 2, 3, 4] : Array Nat).filterMap (fs.toArray[·]?) = fs.toArray := by
  obtain ⟨_, _, rfl, h1⟩ := len_s h
  obtain ⟨_, _, rfl, h2⟩ := len_s h1
  obtain ⟨_, _, rfl, h3⟩ := len_s h2
  obtain ⟨_, _, rfl, h4⟩ := len_s h3
  obtain ⟨_, _, rfl, h5⟩ := len_s h4
  cases List.length_eq_zero_iff.mp h5
  rfl
theorem set5_add {Q : Shared → Prop} (hk : k < 5) (hS : IsSet5 s.heap a led m) (q : ∀ h', IsSet5 h' a led (m ||| 2 ^ k) → Heap.SameBut a s.heap h' → Q { s with heap := h' }) :
    wpAny (model P w) A (setAddHashed a (.int (k : Int) t) (k : Int)) (fun _ s' => Q s') E s := by
  obtain ⟨hm, es, ep, e, en⟩ := hS
  have ln := en.len
  have fit := tab5_fits led ⟨m, hm⟩
  have el : ElemsOf (intKind P w) es.toArray.toList := Ents.elems (m := ⟨m, hm⟩) en
  have m5 : (sub5 m).length ≤ 5 := sub5_len ⟨m, hm⟩
  have fit' : (tab5 led (sub5 m)).fits es.toArray.size = true := by rw [List.size_toArray, ln]; exact fit
  have sc : byScan (.int (k : Int) t) es.toArray = true := by
    unfold byScan
    have e3 : es.toArray.all (·.2.scannable) = true := by
      rw [Array.all_eq_true_iff_forall_mem]
      exact fun x hx => (el x (by simpa using hx)).2
    rw [e3]
    have e4 : decide (es.toArray.size < scanBound) = true := decide_eq_true (by rw [List.size_toArray, ln]; unfold scanBound; omega)
    rw [e4]
    rfl
  have hh : (intKind P w).hash (k : Int) = (k : Int) := hash5 ⟨k, hk⟩
  unfold setAddHashed setAddHashedIn
  refine wpAny_holding (wpAny_bind (wpAny_setState_of e rfl fit' ?_))
  dsimp only
  rw [sc, if_pos rfl]
  unfold setAddByScan
  refine wpAny_bind (wpAny_bind (wpAny_rule (wpAny_bind ?_)))
  have scan : ∀ {R : ScanMet → Shared → Prop}, R (match es.toArray.toList.findIdx? (fun e => (intKind P w).is (k : Int) e.2) with | some j => .found (0 + j) | none => .absent) s → wpAny (model P w) A (setScan a (.int (k : Int) t) (k : Int) true es.toArray) R E s := fun z => by
    have y := wpAny_setScan_of (prog := P) (w := w) (A := A) (E := E) (knd := intKind P w) (k := (k : Int)) (x := .int (k : Int) t) (adding := true) (intKind_is _ _ _ _) e rfl fit' el z
    rw [hh] at y
    exact y
  refine scan ?_
  rw [List.toList_toArray]
  by_cases hin : k ∈ sub5 m
  · obtain ⟨x, hx, tx, ex⟩ := en.has hin
    cases hf : es.findIdx? fun e => (intKind P w).is (k : Int) e.2 with
    | none =>
      have z := List.findIdx?_eq_none_iff.mp hf x hx
      rw [ex, intKind_is] at z
      cases z
    | some j =>
      refine wpAny_pure (wpAny_pure ?_)
      have z := q s.heap (by rw [sub5_old ⟨m, hm⟩ ⟨k, hk⟩ hin]; exact ⟨hm, es, ep, e, en⟩) (Heap.SameBut.refl a s.heap)
      cases s
      exact z
  · have nb := sub5_new ⟨m, hm⟩ ⟨k, hk⟩ hin
    cases hf : es.findIdx? fun e => (intKind P w).is (k : Int) e.2 with
    | some j =>
      obtain ⟨hj, hpj, _⟩ := List.findIdx?_eq_some_iff_getElem.mp hf
      obtain ⟨n, hn, _, tn, e2⟩ := en.mem (List.getElem_mem hj)
      rw [e2] at hpj
      have z : (k : Int) = (n : Int) := (intKind P w).inj _ _ _ hpj (intKind_is _ _ _ tn)
      have z' : k = n := by omega
      exact absurd (z' ▸ hn) hin
    | none =>
      obtain ⟨pu, pf⟩ := tab5_put led ⟨m, hm⟩ ⟨k, hk⟩ nb
      have sa := sub5_add ⟨m, hm⟩ ⟨k, hk⟩ nb
      have lt32 := sub5_lt ⟨m, hm⟩ ⟨k, hk⟩
      dsimp only at pu pf sa lt32
      have en' : Ents (sub5 (m ||| 2 ^ k)) (es.take (goes5 (sub5 m) k) ++ ((k : Int), Value.int (k : Int) t) :: es.drop (goes5 (sub5 m) k)) := by
        rw [sa]
        exact (en.take _).app (.cons ⟨rfl, t, rfl⟩ (en.drop _))
      have lay : layNew (tab5 led (sub5 m)) es.toArray (k : Int) (.int (k : Int) t) = ((es.take (goes5 (sub5 m) k) ++ ((k : Int), Value.int (k : Int) t) :: es.drop (goes5 (sub5 m) k)).toArray, tabP led m k, false, false) := by
        unfold layNew
        rw [tab5_free led ⟨m, hm⟩ ⟨k, hk⟩ nb]
        dsimp only
        rw [pu]
        dsimp only
        rw [ins_list]
        have sz : (es.take (goes5 (sub5 m) k) ++ ((k : Int), Value.int (k : Int) t) :: es.drop (goes5 (sub5 m) k)).toArray.size = (sub5 m).length + 1 := by
          rw [List.size_toArray, List.length_append, List.length_cons, List.length_take, List.length_drop, ln]
          omega
        rw [sz]
        unfold SetTable.orStandIn
        rw [pf]
        rfl
      generalize es.take (goes5 (sub5 m) k) ++ ((k : Int), Value.int (k : Int) t) :: es.drop (goes5 (sub5 m) k) = fs at en' lay
      have lf := en'.len
      have f5 : fs.length ≤ 5 := by rw [lf]; exact sub5_len ⟨_, lt32⟩
      dsimp only
      rw [lay]
      dsimp only
      refine wpAny_bind (show wpAny _ _ (pure ()) _ _ _ from wpAny_pure ?_)
      refine wpAny_bind (show wpAny _ _ (pure true) _ _ _ from wpAny_pure ?_)
      refine wpAny_bind (wpAny_storeSet_of e rfl ?_ (by rw [List.size_toArray, sizeLine_eq]; omega))
      have e1 := upd_set (h := s.heap) (fs := fs) (u := tabP led m k) e
      have same1 : Heap.SameBut a s.heap (s.heap.update a (Obj.putSet fs.toArray (tabP led m k))) := Heap.SameBut.update ..
      by_cases h4 : (sub5 m).length = 4
      · obtain ⟨tf, rl, s5, ff⟩ := tab5_big led ⟨m, hm⟩ ⟨k, hk⟩ nb h4
        dsimp only at tf rl s5 ff
        have l5 : fs.length = 5 := by rw [lf, s5]; rfl
        have ks : fs.toArray.map (·.1) = #[0, 1, 2, 3, 4] := by
          rw [List.map_toArray, en'.keys, s5]
          rfl
        have pick : (#[0, 1, 2, 3, 4] : Array Nat).filterMap (fs.toArray[·]?) = fs.toArray := pick5 l5
        have rel : relayAll (tabP led m k) fs.toArray (SetTable.grown fs.toArray.size) = (fs.toArray, tab5 led (sub5 (m ||| 2 ^ k)), false) := by
          unfold relayAll
          rw [ks, List.size_toArray, l5, rl]
          dsimp only
          rw [pick, List.size_toArray, l5, ff, Bool.and_true, if_pos (by decide +kernel)]
        show wpAny _ _ (if (!false && (tabP led m k).tooFull) = true then _ else _) _ _ _
        rw [tf, if_pos (by decide)]
        simp only [if_true]
        rw [rel]
        dsimp only
        refine wpAny_bind (show wpAny _ _ (pure ()) _ _ _ from wpAny_pure ?_)
        refine wpAny_bind (wpAny_storeSet_of e1 rfl ?_ (by rw [List.size_toArray, sizeLine_eq]; omega))
        have e2 := upd_set (fs := fs) (u := tab5 led (sub5 (m ||| 2 ^ k))) e1
        have same2 := Heap.SameBut.trans same1 (Heap.SameBut.update (s.heap.update a (Obj.putSet fs.toArray (tabP led m k))) a (Obj.putSet fs.toArray (tab5 led (sub5 (m ||| 2 ^ k)))))
        exact wpAny_pure (wpAny_pure (q _ ⟨lt32, fs, ep + 1 + 1, e2, en'⟩ same2))
      · obtain ⟨te, tf⟩ := tab5_small led ⟨m, hm⟩ ⟨k, hk⟩ nb h4
        dsimp only at te tf
        show wpAny _ _ (if (!false && (tabP led m k).tooFull) = true then _ else _) _ _ _
        rw [tf, if_neg (by decide)]
        refine wpAny_pure (wpAny_pure (q _ ⟨lt32, fs, ep + 1, ?_, en'⟩ same1))
        rw [← te]
        exact e1
end
end L2
namespace L2
open PySem PySem.Spec PyProof.Rows
def mask5 (m : Nat) (ns : List Nat) : Nat := ns.foldl (fun m n => m ||| 2 ^ n) m
section
variable {P : Program} {w : World} {A : Around} {E : Value → Shared → Prop} {S it l : Addr} {led : Bool} {ns : List Nat} {vs : List Value}
theorem set5_loop {R : Result → Shared → Prop} (hh : A.handled = none) (d1 : S ≠ it) (d2 : S ≠ l) (d3 : it ≠ l) (hv : Vals (ns.map nv) vs) (h5 : ∀ n ∈ ns, n < 5) :
    ∀ (rest : List Nat) (i m : Nat) (s : Shared), ns.drop i = rest → s.heap.IsListIter it l i → s.heap.IsList l vs.toArray → IsSet5 s.heap S led m →
      (∀ h' tk, IsSet5 h' S led (mask5 m rest) → (∀ b o, b ≠ S → b ≠ it → s.heap.get? b = some o → h'.get? b = some o) → R (.ok (.ret .none)) { s with heap := h', toks := tk }) →
      codeAny (model P w) A (.builtin "set.update.loop" ⟨[.ref S, .ref it], []⟩) R s
  | [], i, m, s, hd, hi, hl, hS, q => by
    have hlen : vs.length ≤ i := by
      have h1 : vs.length = ns.length := by simpa using hv.length.symm
      have h2 := List.drop_eq_nil_iff.mp hd
      omega
    refine codeAny_builtin F.entry_set_update_loop ?_
    rw [Around.under_plainId F.plain_set_update_loop _]
    show wpAny _ A.in1 (pyNext (.ref it) >>= _) _ _ s
    refine wpAny_bind (wpAny_pyNext_list_end (by simpa using hh) hi hl (by simp; omega) fun h' keep => ?_)
    refine wpAny_pure (q h' s.toks ?_ fun b o _ h2 e => keep b o h2 e)
    obtain ⟨hm, es, ep, e, en⟩ := hS
    exact ⟨hm, es, ep, keep _ _ d1 e, en⟩
  | n :: rest, i, m, s, hd, hi, hl, hS, q => by
    have at1 : ns[i]? = some n := by rw [← List.head?_drop, hd]; rfl
    have next : ns.drop (i + 1) = rest := by rw [← List.tail_drop, hd]; rfl
    have n5 := h5 n (List.mem_of_getElem? at1)
    obtain ⟨u, hu, t, rfl⟩ := hv.get (i := i) (x := nv n) (by rw [List.getElem?_map, at1]; rfl)
    refine codeAny_builtin F.entry_set_update_loop ?_
    rw [Around.under_plainId F.plain_set_update_loop _]
    show wpAny _ A.in1 (pyNext (.ref it) >>= _) _ _ s
    refine wpAny_bind (wpAny_pyNext_list_item hi hl (x := .int (n : Int) t) (by simpa using hu) fun h1 hi1 sb1 => ?_)
    show wpAny _ A.in1 (holding [Value.int (n : Int) t] (setAdd S (.int (n : Int) t)) >>= _) _ _ _
    refine wpAny_bind (wpAny_holding ?_)
    unfold setAdd
    refine wpAny_holding (wpAny_bind ((intKind P w).pyHash (k := (n : Int)) (intKind_is _ _ _ _) ?_))
    rw [show (intKind P w).hash (n : Int) = (n : Int) from hash5 ⟨n, n5⟩]
    have hS1 : IsSet5 h1 S led m := by
      obtain ⟨hm, es, ep, e, en⟩ := hS
      exact ⟨hm, es, ep, sb1.extBut _ _ d1 e, en⟩
    refine set5_add n5 hS1 fun h2 hS2 sb2 => ?_
    refine wpAny_pure ⟨plainId_quiet F.plain_set_update_loop _, set5_loop hh d1 d2 d3 hv h5 rest (i + 1) (m ||| 2 ^ n) _ next (hi1.extBut sb2.extBut d1.symm) ((hl.extBut sb1.extBut d3.symm).extBut sb2.extBut d2.symm) hS2 fun h' tk hS' keep => ?_⟩
    exact q h' tk hS' fun b o b1 b2 e => keep b o b1 b2 (sb2.extBut _ _ b1 (sb1.extBut _ _ b2 e))
abbrev set0 (led : Bool) : Obj := { cls := .type "set", dict := none, data := .set #[] 0 (.fresh 0 0 led) }
set_option maxHeartbeats 4000000 in
theorem set5_init {h : Heap} {gn : Array GenState} {dr : Drawn} {k : Nat} {os : OsState} {R : PySem.Fin → Shared → Prop} (hh : A.handled = none) (hl : h.IsList l vs.toArray) (hv : Vals (ns.map nv) vs) (h5 : ∀ n ∈ ns, n < 5)
    (q : ∀ h' tk, IsSet5 h' h.objs.size led (mask5 0 ns) → (∀ b o, h.get? b = some o → h'.get? b = some o) → R (.done (.ret .none)) ⟨h', gn, dr, tk, os⟩) :
    wpAny (model P w) A (Builtin.«set.__init__» ⟨[.ref h.objs.size, .ref l], []⟩) R E ⟨h.push (set0 led), gn, dr, k, os⟩ := by
  obtain ⟨⟨cl, dl, dat, sl⟩, e2, c2, n2, d2⟩ := id hl
  simp only at c2 d2
  subst c2 d2
  have e3 : (h.push (set0 led)).get? l = some ⟨.type "list", dl, .seq vs.toArray n2, sl⟩ := Heap.get?_push_of_some _ e2
  have e0 : (h.push (set0 led)).get? h.objs.size = some { cls := .type "set", dict := none, data := .set #[] 0 (.fresh 0 0 led) } := Heap.get?_push_size _ rfl
  have s1 := F.sub_list_set
  have s2 := F.sub_list_frozenset
  have ne : (Value.type "list" == Value.type "dict") = false := by decide
  unfold Builtin.«set.__init__» noKeywords Builtin.Frozenset.updateFrom
  generalize g : pyIter = iter
  wp_walk
  subst g
  have hl1 : (h.push (set0 led)).IsList l vs.toArray := hl.push _
  refine wpAny_pyIter_list hl1 (wpAny_bind (wpAny_runValue ?_))
  have lt : l < h.objs.size := Heap.lt_size e2
  have sz : (h.push (set0 led)).objs.size = h.objs.size + 1 := Heap.size_push ..
  refine set5_loop (vs := vs) (led := led) (by simpa using hh) (by rw [sz]; exact Nat.ne_of_lt (Nat.lt_succ_self _)) (Nat.ne_of_gt lt) (by rw [sz]; exact Nat.ne_of_gt (Nat.lt_succ_of_lt lt)) hv h5 ns 0 0 _ rfl ⟨_, Heap.get?_push_size _ rfl, rfl, rfl⟩ (hl1.push _) ⟨by decide, [], 0, Heap.get?_push_of_some _ e0, .nil⟩ fun h' tk z1 z2 => ?_
  refine wpAny_pure (wpAny_pure (q h' tk z1 fun b o e => ?_))
  have bl := Heap.lt_size e
  exact z2 b o (Nat.ne_of_lt bl) (by rw [sz]; exact Nat.ne_of_lt (Nat.lt_succ_of_lt bl)) (Heap.get?_push_of_some _ (Heap.get?_push_of_some _ e))
end
end L2
namespace L2
open PySem PySem.Spec PyProof.Rows
end L2
namespace L2
open PySem PySem.Spec PyProof.Rows
def walk5 (w : World) (a : Addr) (ep : Nat) (es : List (Int × Value)) : List (Int × Value) := if w.params.followText "set-order" then (pickOrder (w.params.setOrder a ep) es.toArray).toList else es
def slot5 (byText : Bool) (xs : List Nat) : Nat → Nat
  | 0 => 0
  | i + 1 => if byText then 0 else xs.getD i 0 + 1
def iterObj (slot i n ep : Nat) (a : Addr) : Obj := { cls := .type "set_iterator", data := .fields #[rawInt slot, rawInt i, .ref a, rawInt n, rawInt ep] }
section
variable {P : Program} {w : World} {A : Around} {E : Value → Shared → Prop} {s : Shared} {a it : Addr} {m ep i : Nat} {es : List (Int × Value)}
end
end L2
namespace L2
open PySem PySem.Spec PyProof.Rows
section
variable {P : Program} {w : World} {A : Around} {E : Value → Shared → Prop} {a it : Addr} {m ep : Nat} {es : List (Int × Value)}
end
end L2
namespace L2
open PySem PySem.Spec PyProof.Rows
def norm5 (ns : List Nat) : List Nat := (List.range 5).filter fun i => ns.contains i
section
variable {P : Program} {w : World} {A : Around} {E : Value → Shared → Prop} {a : Addr} {m : Nat}
end
section
variable {X : Cx}
def SetO (w : World) (a : Addr) (m : Nat) : HO := .ext fun h => IsSet5 h a (!w.params.followText "set-order") m
theorem IsSet5.ok {w : World} {h : Heap} {a : Addr} {m : Nat} {P : Program} {w' : World} {H : Hp} (x : IsSet5 h a (!w.params.followText "set-order") m) : ObjOk P w' H h a (SetO w a m) := by
  obtain ⟨hm, es, ep, e, en⟩ := id x
  exact ⟨x, ⟨_, e⟩, fun h1 h2 ⟨y1, es', ep', y2, y3⟩ k => ⟨y1, es', ep', k _ y2, y3⟩⟩
theorem Inv.track {pins : List (Addr × Obj)} {σ : St} {H : Hp} {s : Shared} {D : Addr} {o : HO} (I : Inv X pins σ H s) (hD : H D = none) (ok : ObjOk X.prog X.w (upd H D o) s.heap D o)
    (h0 : X.s₀.heap.objs.size ≤ D) (h1 : D ≠ X.env.locals) (h2 : ∀ x c, X.env.cells.lookup x = some c → c ≠ D) (h3 : ∀ p ∈ X.pn ++ pins, p.1 ≠ D) : Inv X pins σ (upd H D o) s := by
  have nd : ∀ b u, H b = some u → b ≠ D := fun b u q z => by rw [z, hD] at q; cases q
  have q := I.step (h' := s.heap) (H' := upd H D o) (g' := s.gens) (t' := s.toks) (d' := s.drawn) (ch := [D]) (fun b hb => by
      have z : b = D := by simpa using hb
      subst z
      exact ⟨.inr h0, h1, h2, h3⟩)
    (fun b o _ _ _ e _ => e) (fun b o _ _ _ e _ => ⟨o.slots, e⟩) (fun b o hb _ n => by rw [upd_ne (fun z => hb (by simp [z]))]; exact n) (fun b o _ e => ⟨o, e⟩)
    (fun b xs q => by rw [upd_ne (nd b _ q)]; exact q) (fun b o u q => by rw [upd_ne (nd b _ q)]; exact q) (fun b ps q => ⟨#[], by rw [upd_ne (nd b _ q), q]; simp⟩) (fun m hm => hm) (fun b u q => ?_) I.bare
  · exact q
  · by_cases hb : b = D
    · subst hb
      rw [upd_same] at q
      cases q
      exact ok
    · rw [upd_ne hb] at q
      exact (I.hok b u q).stay (fun _ _ _ z => z) (fun c z => by rw [upd_ne (nd c _ z)]; exact z) fun c xs z => by rw [upd_ne (nd c _ z)]; exact z
theorem Inv.trackNew {pins : List (Addr × Obj)} {σ : St} {H : Hp} {s s1 : Shared} {o : HO} (I : Inv X pins σ H s) (I1 : Inv X pins σ H s1) (ok : ObjOk X.prog X.w (upd H s.heap.objs.size o) s1.heap s.heap.objs.size o) : Inv X pins σ (upd H s.heap.objs.size o) s1 := by
  obtain ⟨f0, f1, f2, f3, f4, f5⟩ := I.fpOk (b := s.heap.objs.size) (H' := H) (Nat.le_refl _) (I.hok.fresh (Nat.le_refl _))
  exact I1.track f0 ok I.sz f1 f4 f5
def rSetN (K : PySem.W.Frag) (w : World) : List V → Hp → VK → Prop := fun xs H Q => ∃ p ns, xs = [.ref p] ∧ SqL K H p (ns.map nv) ∧ (∀ n ∈ ns, n < 5) ∧ ∀ a, H a = none → Q (.ref a) (upd H a (SetO w a (mask5 0 ns)))
def rSortS (w : World) : List V → Hp → VK → Prop := fun xs H Q => ∃ a m, xs = [.ref a] ∧ H a = some (SetO w a m) ∧ ∀ l, H l = none → Q (.ref l) (upd H l (.lst ((sub5 m).map nv)))
end
end L2
namespace L2
open PySem PySem.Spec PyProof.Rows
section
variable {K : PySem.W.Frag} {H : Hp} {σ : St} {tt : TT} {te : TE} {Fin : List V → Hp → Prop} {a : Addr}
end
section
variable {X : Cx}
def rAny (K : PySem.W.Frag) : List V → Hp → VK → Prop := fun xs H Q => ∃ (p : Addr) (bs : List Bool), xs = [.ref p] ∧ SqL K H p (bs.map V.bl) ∧ Q (.bl (bs.any id)) H
end
end L2
namespace L2
open PySem PySem.Spec PyProof.Rows
section
variable {K : PySem.W.Frag} {H : Hp} {σ : St} {tt : TT} {te : TE} {Fin : List V → Hp → Prop} {a : Addr}
end
end L2
namespace L2
open PySem PySem.Spec PyProof.Rows
section
variable {K : PySem.W.Frag} {H : Hp} {σ : St} {tt : TT} {te : TE} {Fin : List V → Hp → Prop} {a : Addr}
end
end L2
namespace L2
open PySem PySem.Spec PyProof.Rows
def drop (H : Hp) (c : Addr) : Hp := fun b => if b = c then none else H b
theorem drop_same {H : Hp} {c : Addr} : drop H c c = none := by unfold drop; rw [if_pos rfl]
theorem drop_ne {H : Hp} {b c : Addr} (h : b ≠ c) : drop H c b = H b := by unfold drop; rw [if_neg h]
theorem drop_none {H : Hp} {b c : Addr} (h : H b = none) : drop H c b = none := by
  by_cases e : b = c
  · rw [e]; exact drop_same
  · rw [drop_ne e]; exact h
def CellO (c m : Addr) (o : Obj) : HO := .ext fun h => h.get? c = some o ∧ o.data = .cell (some (.ref m))
def CodeO (c : Addr) (q : Str) : HO := .ext fun h => h.CodeRec (.ref c) q
def LamO (f : Addr) (fd : FuncData) : HO := .ext fun h => h.get? f = some { cls := .type "function", data := .func fd }
theorem HOk.drop {P : Program} {w : World} {H : Hp} {h : Heap} {c : Addr} {φ : Heap → Prop} (x : HOk P w H h) (hc : H c = some (.ext φ)) : HOk P w (drop H c) h := fun b o e => by
  by_cases hb : b = c
  · rw [hb, drop_same] at e; cases e
  · rw [drop_ne hb] at e
    refine (x b o e).stay (fun _ _ _ z => z) (fun d z => ?_) fun d xs z => ?_
    · rw [drop_ne (fun q => by rw [q, hc] at z; cases z)]; exact z
    · rw [drop_ne (fun q => by rw [q, hc] at z; cases z)]; exact z
theorem HOk.back {P : Program} {w : World} {H : Hp} {h : Heap} {c : Addr} {o : HO} (x : HOk P w H h) (hc : H c = none) (ok : ObjOk P w (upd H c o) h c o) : HOk P w (upd H c o) h := fun b u e => by
  by_cases hb : b = c
  · subst hb; rw [upd_same] at e; cases e; exact ok
  · rw [upd_ne hb] at e
    exact (x b u e).stay (fun _ _ _ z => z) (fun d z => by rw [upd_ne (ne_of_none z hc)]; exact z) fun d xs z => by rw [upd_ne (ne_of_none z hc)]; exact z
structure LamScope (ps : List Str) (y : Str) (sc : Scope) : Prop where
  kind : sc.kind = .function
  co : sc.isCoroutine = false
  gen : sc.isGenerator = false
  nd : (ps ++ [y]).Nodup
  par : ∀ x ∈ ps, sc.names.lookup x = some .local
  fre : sc.names.lookup y = some .free
  only : ∀ z ∈ sc.names, z.2 ≠ .cell ∧ (z.2 = .free → z.1 = y)
abbrev lamFd (qual : Str) (params : Arguments) (body : Expr) (scope : Scope) (y : Str) (c : Addr) (pm cd ct : Value) : FuncData := PySem.W.kla_fn "<lambda>" qual params body scope [(y, c)] pm cd ct
def cxL (P : Program) (w : World) (K : PySem.W.Frag) (mg : Str → Option Value) (base : Heap) (N : List Str) (qual : Str) (scope : Scope) (f : Addr) (cd : Value) (cl : List (Str × Addr)) (A : Around) (outer : List Env) (s : Shared) (H : Hp) : Cx where
  prog := P
  w := w
  K := K
  mg := mg
  base := base
  A := A.deeper (PySem.W.envX qual scope s.heap.objs.size f cd cl)
  N := N
  s₀ := s
  H₀ := H
  env := PySem.W.envX qual scope s.heap.objs.size f cd cl
  outer := outer
  stack := PySem.W.envX qual scope s.heap.objs.size f cd cl :: outer
  ex := []
  calm := true
  fn := fun _ => false
  pn := []
  xe := fun _ _ => False
end L2
namespace L2
open PySem PySem.Spec PyProof.Rows
section
variable {X : Cx}
def tCallV (X : Cx) (i : Nat) (t : TA) : TE := fun σ H Q => tVar i σ H fun v H0 => ∃ st fd, v = .ref st ∧ H0 st = some (LamO st fd) ∧ t σ H0 fun vs H1 => H1 st = some (LamO st fd) ∧ ∃ k ps sp, FnOk X.prog X.w X.K X.mg X.base CX0 k st fd ps sp ∧ Room k X.A ∧ Binds X.K fd ps [] ∧ sp vs H1 Q E0
def tCallC (sp : Sp) (dvs : List V) (j : Nat) (c : Addr) (t : TA) : TE := fun σ H Q => t σ H fun vs H1 => ∃ m, σ[j]? = some (some (.ref m)) ∧ ∀ oc, H1 c = none → sp (vs ++ dvs) (upd H1 c (CellO c m oc)) (fun r H2 => H2 c = some (CellO c m oc) ∧ Q r (drop H2 c)) E0
theorem Inv.afterC {pins : List (Addr × Obj)} {σ : St} {H : Hp} {s s' : Shared} {c m : Addr} {oc : Obj} {Q : VK} {u : Value} (I : Inv X pins σ H s) (hc : H c = none) (ec : s.heap.get? c = some oc)
    (h : CE X.stack X.prog X.w (upd H c (CellO c m oc)) s (fun r H2 => H2 c = some (CellO c m oc) ∧ Q r (drop H2 c)) u s') : EP X pins σ Q u s' := by
  obtain ⟨v, H2, os, bare, un, hok, rv, e2, q⟩ := h
  obtain ⟨⟨ec', _⟩, _, _⟩ := hok c _ e2
  refine I.after ⟨v, drop H2 c, os, bare, ⟨fun b o e n hb he => ?_, fun b o e n hb he => ?_, fun b o e n he => ?_, un.there, fun b xs e => ?_, fun b o w e => ?_, fun b ps e => ?_⟩, hok.drop e2, rv, q⟩
  · by_cases z : b = c
    · subst z
      rw [ec] at e
      cases e
      exact ec'
    · exact un.keep b o e (by rw [upd_ne z]; exact n) hb he
  · by_cases z : b = c
    · subst z
      rw [ec] at e
      cases e
      exact ⟨oc.slots, ec'⟩
    · exact un.slot b o e (by rw [upd_ne z]; exact n) hb he
  · by_cases z : b = c
    · rw [z]; exact drop_same
    · exact drop_none (un.free b o e (by rw [upd_ne z]; exact n) he)
  · have z : b ≠ c := fun z => by rw [z, hc] at e; cases e
    rw [drop_ne z]
    exact un.tups b xs (by rw [upd_ne z]; exact e)
  · have z : b ≠ c := fun z => by rw [z, hc] at e; cases e
    rw [drop_ne z]
    exact un.frzs b o w (by rw [upd_ne z]; exact e)
  · have z : b ≠ c := fun z => by rw [z, hc] at e; cases e
    rw [drop_ne z]
    exact un.tbls b ps (by rw [upd_ne z]; exact e)
end
end L2
namespace L2
open PySem PySem.Spec PyProof.Rows
section
variable {X : Cx}
def BMain (mg : Str → Option Value) (h : Heap) : Prop := ∃ bm o, mg "__builtins__" = some (.ref bm) ∧ bm ≠ builtinsNs ∧ h.get? bm = some o ∧ o.cls = .type "module" ∧ o.dict = some builtinsNs ∧ o.data = .plain
abbrev triple (pos : Pos) (cc : Addr) : Array Value := #[rawInt pos.line, rawInt pos.col, .ref cc]
def tLam (P : Addr) (qual : Str) (params : Arguments) (body : Expr) (scope : Scope) (y : Str) (c : Addr) (pm : Value) (pos : Pos) : TE := fun _ H Q =>
  (H P = some (.tbl #[]) ∧ ∀ fl cc ct, H fl = none → H cc = none → fl ≠ cc → Q (.ref fl) (upd (upd (upd H P (.tbl (triple pos cc))) cc (CodeO cc qual)) fl (LamO fl (lamFd qual params body scope y c pm (.ref cc) ct)))) ∨
  ∃ cc, H P = some (.tbl (triple pos cc)) ∧ H cc = some (CodeO cc qual) ∧ ∀ fl ct, H fl = none → Q (.ref fl) (upd H fl (LamO fl (lamFd qual params body scope y c pm (.ref cc) ct)))
end
end L2
namespace L2
open PySem PySem.Spec PyProof.Rows
def hpT (K : PySem.W.Frag) (tabs : List Addr) (a : Addr) (o : Obj) (ns : List Int) : Hp := fun b => if b ∈ tabs then some (.tbl #[]) else if b = a ∧ K.lookup a = none then some (.frz o (.lst (ns.map V.int))) else none
end L2
namespace L2
def sl (u v : List Nat) : Prop := u.length < v.length ∨ (u.length = v.length ∧ ltl u v = true)
theorem ltl_cons_ne {a b : Nat} {xs ys : List Nat} (h : a ≠ b) : ltl (a :: xs) (b :: ys) = decide (a < b) := by
  unfold ltl
  rw [ltlO, if_neg h]
  rfl
theorem ltl_cons {a : Nat} {xs ys : List Nat} : ltl (a :: xs) (a :: ys) = ltl xs ys := by
  unfold ltl
  rw [ltlO, if_pos rfl]
  cases ltlO xs ys with
  | none => simp
  | some b => rfl
theorem ltl_trans : ∀ {xs ys zs : List Nat}, xs.length = ys.length → ys.length = zs.length → ltl xs ys = true → ltl ys zs = true → ltl xs zs = true
  | [], [], _, _, _, h, _ => by rw [ltl_irr] at h; cases h
  | [], _ :: _, _, h, _, _, _ => by simp at h
  | _ :: _, [], _, h, _, _, _ => by simp at h
  | _ :: _, _ :: _, [], _, h, _, _ => by simp at h
  | a :: xs, b :: ys, c :: zs, h1, h2, h3, h4 => by
    by_cases ab : a = b
    · subst ab
      rw [ltl_cons] at h3
      by_cases bc : a = c
      · subst bc
        rw [ltl_cons] at h4 ⊢
        exact ltl_trans (by simpa using h1) (by simpa using h2) h3 h4
      · rw [ltl_cons_ne bc] at h4 ⊢
        exact h4
    · rw [ltl_cons_ne ab] at h3
      have h3' : a < b := of_decide_eq_true h3
      by_cases bc : b = c
      · subst bc
        rw [ltl_cons_ne ab]
        exact h3
      · rw [ltl_cons_ne bc] at h4
        have h4' : b < c := of_decide_eq_true h4
        rw [ltl_cons_ne (by omega)]
        exact decide_eq_true (by omega)
theorem ltl_behind : ∀ {xs ys us vs : List Nat}, xs.length = ys.length → ltl xs ys = true → ltl (xs ++ us) (ys ++ vs) = true
  | [], [], _, _, _, h => by rw [ltl_irr] at h; cases h
  | [], _ :: _, _, _, h, _ => by simp at h
  | _ :: _, [], _, _, h, _ => by simp at h
  | a :: xs, b :: ys, us, vs, h1, h2 => by
    by_cases ab : a = b
    · subst ab
      rw [List.cons_append, List.cons_append, ltl_cons]
      rw [ltl_cons] at h2
      exact ltl_behind (by simpa using h1) h2
    · rw [List.cons_append, List.cons_append, ltl_cons_ne ab]
      rw [ltl_cons_ne ab] at h2
      exact h2
theorem ltl_last (xs : List Nat) {a b : Nat} (h : a < b) : ltl (xs ++ [a]) (xs ++ [b]) = true := by
  induction xs with
  | nil => exact (ltl_cons_ne (by omega)).trans (decide_eq_true h)
  | cons x xs ih => rw [List.cons_append, List.cons_append, ltl_cons]; exact ih
theorem sl_trans {u v x : List Nat} (h1 : sl u v) (h2 : sl v x) : sl u x := by
  rcases h1 with h1 | ⟨e1, l1⟩ <;> rcases h2 with h2 | ⟨e2, l2⟩
  · exact .inl (by omega)
  · exact .inl (by omega)
  · exact .inl (by omega)
  · exact .inr ⟨by omega, ltl_trans e1 e2 l1 l2⟩
theorem sl_irr {u : List Nat} (h : sl u u) : False := by
  rcases h with h | ⟨_, h⟩
  · omega
  · rw [ltl_irr] at h; cases h
theorem sl_snoc {u v : List Nat} {a b : Nat} (h : sl u v) : sl (u ++ [a]) (v ++ [b]) := by
  rcases h with h | ⟨e, l⟩
  · exact .inl (by simp; omega)
  · exact .inr ⟨by simp [e], ltl_behind e l⟩
theorem sl_last (u : List Nat) {a b : Nat} (h : a < b) : sl (u ++ [a]) (u ++ [b]) := .inr ⟨by simp, ltl_last u h⟩
def sle (u v : List Nat) : Prop := u = v ∨ sl u v
theorem sle_trans {u v x : List Nat} (h1 : sle u v) (h2 : sle v x) : sle u x := by
  rcases h1 with rfl | h1
  · exact h2
  · rcases h2 with rfl | h2
    · exact .inr h1
    · exact .inr (sl_trans h1 h2)
theorem sle_snoc {u v : List Nat} {a : Nat} (h : sle u v) : sle (u ++ [a]) (v ++ [a]) := by
  rcases h with rfl | h
  · exact .inl rfl
  · exact .inr (sl_snoc h)
section
variable (f : List Nat → Nat → List Nat) (L : Nat) (x0 : List Nat)
abbrev TW := List (List Nat × List Nat)
def goes (word : List Nat) : List Nat := word.foldl f x0
def Goes (ws : TW) (p : List Nat × List Nat) (l : Nat) : Prop := ∃ u, (f p.1 l, u) ∈ ws ∧ sle u (p.2 ++ [l])
structure Told (ws : TW) : Prop where
  head : ws[0]? = some (x0, [])
  keys : (ws.map (·.1)).Nodup
  run : ∀ p ∈ ws, (∀ l ∈ p.2, l < L) ∧ goes f x0 p.2 = p.1
  up : ws.Pairwise fun p q => sl p.2 q.2
  all : ∀ p ∈ ws, ∀ l, l < L → Goes f ws p l
  short : ∀ p ∈ ws, p.2.length < ws.length
structure Bfs (d : Nat) (ws wv fo : TW) (i j : Nat) : Prop where
  head : ws[0]? = some (x0, [])
  keys : (ws.map (·.1)).Nodup
  run : ∀ p ∈ ws, (∀ l ∈ p.2, l < L) ∧ goes f x0 p.2 = p.1
  up : ws.Pairwise fun p q => sl p.2 q.2
  len : ∀ p ∈ ws, p.2.length ≤ d + 1
  wave : ∀ p ∈ wv, p ∈ ws ∧ p.2.length = d
  wup : wv.Pairwise fun p q => sl p.2 q.2
  foll : ∀ p ∈ fo, p ∈ ws ∧ p.2.length = d + 1
  fup : fo.Pairwise fun p q => sl p.2 q.2
  front : ∀ p ∈ ws, ∀ t, wv[i]? = some t → sl p.2 (t.2 ++ [j])
  done : ∀ p ∈ ws, p ∈ fo ∨ (∃ a, i ≤ a ∧ wv[a]? = some p) ∨ ∀ l, l < L → Goes f ws p l
  part : ∀ t, wv[i]? = some t → ∀ l, l < j → Goes f ws t l
  short : ∀ p ∈ ws, p.2.length < ws.length
variable {f L x0} {d i j : Nat} {ws wv fo : TW} {t : List Nat × List Nat}
theorem Goes.more {p q : List Nat × List Nat} {l : Nat} (h : Goes f ws p l) : Goes f (ws ++ [q]) p l := by
  obtain ⟨u, h1, h2⟩ := h
  exact ⟨u, List.mem_append_left _ h1, h2⟩
theorem Bfs.start : Bfs f L x0 0 [(x0, [])] [(x0, [])] [] 0 0 where
  head := rfl
  keys := by simp
  run := fun p hp => by
    rw [List.mem_singleton.mp hp]
    exact ⟨fun _ h => (nomatch h), rfl⟩
  up := List.pairwise_singleton _ _
  len := fun p hp => by rw [List.mem_singleton.mp hp]; simp
  wave := fun p hp => ⟨hp, by rw [List.mem_singleton.mp hp]; rfl⟩
  wup := List.pairwise_singleton _ _
  foll := fun _ h => nomatch h
  fup := .nil
  front := fun p hp t _ => by
    rw [List.mem_singleton.mp hp]
    exact .inl (by simp)
  done := fun p hp => .inr (.inl ⟨0, Nat.le_refl _, by rw [List.mem_singleton.mp hp]; rfl⟩)
  part := fun _ _ _ h => absurd h (Nat.not_lt_zero _)
  short := fun p hp => by rw [List.mem_singleton.mp hp]; simp
theorem Bfs.old (b : Bfs f L x0 d ws wv fo i j) (ht : wv[i]? = some t) (hm : f t.1 j ∈ ws.map (·.1)) : Bfs f L x0 d ws wv fo i (j + 1) := by
  obtain ⟨p, hp, e⟩ := List.mem_map.mp hm
  refine { b with front := fun q hq t' ht' => ?_, part := fun t' ht' l hl => ?_ }
  · exact sl_trans (b.front q hq t' ht') (sl_last _ (Nat.lt_succ_self _))
  · rcases Nat.lt_succ_iff_lt_or_eq.mp hl with hl | rfl
    · exact b.part t' ht' l hl
    · rw [ht] at ht'
      cases ht'
      exact ⟨p.2, by rw [← e]; exact hp, .inr (b.front p hp t ht)⟩
theorem Bfs.new (b : Bfs f L x0 d ws wv fo i j) (ht : wv[i]? = some t) (hj : j < L) (hm : f t.1 j ∉ ws.map (·.1)) :
    Bfs f L x0 d (ws ++ [(f t.1 j, t.2 ++ [j])]) wv (fo ++ [(f t.1 j, t.2 ++ [j])]) i (j + 1) := by
  obtain ⟨tw, tl⟩ := b.wave t (List.mem_of_getElem? ht)
  obtain ⟨r1, r2⟩ := b.run t tw
  have nl : (t.2 ++ [j]).length = d + 1 := by simp [tl]
  have pos : 0 < ws.length := List.length_pos_of_mem tw
  refine ⟨?_, ?_, fun p hp => ?_, ?_, fun p hp => ?_, fun p hp => ⟨List.mem_append_left _ (b.wave p hp).1, (b.wave p hp).2⟩, b.wup, fun p hp => ?_, ?_, fun p hp t' ht' => ?_, fun p hp => ?_, fun t' ht' l hl => ?_, fun p hp => ?_⟩
  · rw [List.getElem?_append_left pos]
    exact b.head
  · rw [List.map_append, List.nodup_append]
    refine ⟨b.keys, by simp, fun x hx y hy z => ?_⟩
    simp at hy
    subst hy
    exact hm (z ▸ hx)
  · rcases List.mem_append.mp hp with hp | hp
    · exact b.run p hp
    · rw [List.mem_singleton.mp hp]
      refine ⟨fun l hl => ?_, ?_⟩
      · rcases List.mem_append.mp hl with hl | hl
        · exact r1 l hl
        · rw [List.mem_singleton.mp hl]; exact hj
      · show goes f x0 (t.2 ++ [j]) = f t.1 j
        unfold goes at r2 ⊢
        rw [List.foldl_append, r2]
        rfl
  · rw [List.pairwise_append]
    refine ⟨b.up, List.pairwise_singleton _ _, fun p hp q hq => ?_⟩
    rw [List.mem_singleton.mp hq]
    exact b.front p hp t ht
  · rcases List.mem_append.mp hp with hp | hp
    · exact b.len p hp
    · rw [List.mem_singleton.mp hp]; exact Nat.le_of_eq nl
  · rcases List.mem_append.mp hp with hp | hp
    · exact ⟨List.mem_append_left _ (b.foll p hp).1, (b.foll p hp).2⟩
    · exact ⟨List.mem_append_right _ hp, by rw [List.mem_singleton.mp hp]; exact nl⟩
  · rw [List.pairwise_append]
    refine ⟨b.fup, List.pairwise_singleton _ _, fun p hp q hq => ?_⟩
    rw [List.mem_singleton.mp hq]
    exact b.front p (b.foll p hp).1 t ht
  · rw [ht] at ht'
    cases ht'
    rcases List.mem_append.mp hp with hp | hp
    · exact sl_trans (b.front p hp t ht) (sl_last _ (Nat.lt_succ_self _))
    · rw [List.mem_singleton.mp hp]
      exact sl_last _ (Nat.lt_succ_self _)
  · rcases List.mem_append.mp hp with hp | hp
    · rcases b.done p hp with h | h | h
      · exact .inl (List.mem_append_left _ h)
      · exact .inr (.inl h)
      · exact .inr (.inr fun l hl => (h l hl).more)
    · exact .inl (List.mem_append_right _ hp)
  · rw [ht] at ht'
    cases ht'
    rcases Nat.lt_succ_iff_lt_or_eq.mp hl with hl | rfl
    · exact (b.part t ht l hl).more
    · exact ⟨t.2 ++ [l], List.mem_append_right _ (List.mem_singleton.mpr rfl), .inl rfl⟩
  · rw [List.length_append, List.length_singleton]
    rcases List.mem_append.mp hp with hp | hp
    · exact Nat.lt_succ_of_lt (b.short p hp)
    · rw [List.mem_singleton.mp hp]
      have z := b.short t tw
      show (t.2 ++ [j]).length < _
      rw [List.length_append, List.length_singleton]
      omega
theorem Bfs.next (b : Bfs f L x0 d ws wv fo i L) (ht : wv[i]? = some t) : Bfs f L x0 d ws wv fo (i + 1) 0 := by
  refine { b with front := fun p hp t' ht' => ?_, done := fun p hp => ?_, part := fun _ _ l hl => absurd hl (Nat.not_lt_zero _) }
  · have h1 := b.front p hp t ht
    have h2 : sl t.2 t'.2 := by
      obtain ⟨l1, e1⟩ := List.getElem?_eq_some_iff.mp ht
      obtain ⟨l2, e2⟩ := List.getElem?_eq_some_iff.mp ht'
      rw [← e1, ← e2]
      exact List.pairwise_iff_getElem.mp b.wup i (i + 1) l1 l2 (Nat.lt_succ_self _)
    exact sl_trans h1 (sl_snoc h2)
  · rcases b.done p hp with h | ⟨a, h1, h2⟩ | h
    · exact .inl h
    · rcases Nat.eq_or_lt_of_le h1 with e | e
      · subst e
        rw [ht] at h2
        cases h2
        exact .inr (.inr fun l hl => b.part t ht l hl)
      · exact .inr (.inl ⟨a, e, h2⟩)
    · exact .inr (.inr h)
theorem Bfs.told (b : Bfs f L x0 d ws [] [] 0 0) : Told f L x0 ws := ⟨b.head, b.keys, b.run, b.up, fun p hp => by
  rcases b.done p hp with h | ⟨a, _, h⟩ | h
  · nomatch h
  · simp at h
  · exact h, b.short⟩
theorem Told.least (T : Told f L x0 ws) : ∀ (n : Nat) (v : List Nat), v.length = n → (∀ l ∈ v, l < L) → ∃ u, (goes f x0 v, u) ∈ ws ∧ sle u v
  | 0, v, hn, _ => by
    have e : v = [] := List.length_eq_zero_iff.mp hn
    subst e
    exact ⟨[], List.mem_of_getElem? T.head, .inl rfl⟩
  | n + 1, v, hn, hv => by
    obtain ⟨v', l, rfl⟩ : ∃ v' l, v = v' ++ [l] := ⟨v.dropLast, v.getLast (by intro z; rw [z] at hn; cases hn), (List.dropLast_concat_getLast _).symm⟩
    obtain ⟨u, h1, h2⟩ := T.least n v' (by simp at hn; omega) fun x hx => hv x (List.mem_append_left _ hx)
    obtain ⟨u', h3, h4⟩ := T.all _ h1 l (hv l (List.mem_append_right _ (List.mem_singleton.mpr rfl)))
    refine ⟨u', ?_, sle_trans h4 (sle_snoc h2)⟩
    have e : goes f x0 (v' ++ [l]) = f (goes f x0 v') l := by
      unfold goes
      rw [List.foldl_append]
      rfl
    rw [e]
    exact h3
end
end L2
namespace L2
theorem sl_asym {u v : List Nat} (h1 : sl u v) (h2 : sl v u) : False := sl_irr (sl_trans h1 h2)
theorem sle_anti {u v : List Nat} (h1 : sle u v) (h2 : sle v u) : u = v := by
  rcases h1 with h1 | h1
  · exact h1
  · rcases h2 with h2 | h2
    · exact h2.symm
    · exact (sl_asym h1 h2).elim
theorem rise_eq : ∀ {ws vs : TW}, (ws.Pairwise fun p q => sl p.2 q.2) → (vs.Pairwise fun p q => sl p.2 q.2) → (∀ p, p ∈ ws ↔ p ∈ vs) → ws = vs
  | [], [], _, _, _ => rfl
  | [], q :: vs, _, _, h => absurd ((h q).mpr (List.mem_cons_self ..)) (by simp)
  | p :: ws, [], _, _, h => absurd ((h p).mp (List.mem_cons_self ..)) (by simp)
  | p :: ws, q :: vs, h1, h2, h => by
    obtain ⟨p1, p2⟩ := List.pairwise_cons.mp h1
    obtain ⟨q1, q2⟩ := List.pairwise_cons.mp h2
    have pq : p = q := by
      rcases List.mem_cons.mp ((h p).mp (List.mem_cons_self ..)) with e | e
      · exact e
      · rcases List.mem_cons.mp ((h q).mpr (List.mem_cons_self ..)) with e' | e'
        · exact e'.symm
        · exact (sl_asym (q1 p e) (p1 q e')).elim
    subst pq
    have rest : ws = vs := rise_eq p2 q2 fun r => by
      constructor
      · intro hr
        rcases List.mem_cons.mp ((h r).mp (List.mem_cons_of_mem _ hr)) with e | e
        · subst e
          exact (sl_irr (p1 r hr)).elim
        · exact e
      · intro hr
        rcases List.mem_cons.mp ((h r).mpr (List.mem_cons_of_mem _ hr)) with e | e
        · subst e
          exact (sl_irr (q1 r hr)).elim
        · exact e
    rw [rest]
theorem Told.sub {f : List Nat → Nat → List Nat} {L : Nat} {x0 : List Nat} {ws vs : TW} (T : Told f L x0 ws) (T' : Told f L x0 vs) {p : List Nat × List Nat} (hp : p ∈ ws) : p ∈ vs := by
  obtain ⟨r1, r2⟩ := T.run p hp
  obtain ⟨u, h1, h2⟩ := T'.least _ p.2 rfl r1
  rw [r2] at h1
  obtain ⟨r3, r4⟩ := T'.run _ h1
  obtain ⟨u', h3, h4⟩ := T.least _ u rfl r3
  have e : goes f x0 u = p.1 := r4
  rw [e] at h3
  have same : u' = p.2 := by
    obtain ⟨i, ei⟩ := List.mem_iff_getElem?.mp h3
    obtain ⟨j, ej⟩ := List.mem_iff_getElem?.mp hp
    have ij : i = j := (List.getElem?_inj (by rw [List.length_map]; exact (List.getElem?_eq_some_iff.mp ei).1) T.keys).mp (by rw [List.getElem?_map, List.getElem?_map, ei, ej]; rfl)
    subst ij
    rw [ei] at ej
    have z := Option.some.inj ej
    rw [← z]
  rw [same] at h4
  have uu : u = p.2 := sle_anti h2 h4
  rw [uu] at h1
  exact h1
theorem Told.uniq {f : List Nat → Nat → List Nat} {L : Nat} {x0 : List Nat} {ws vs : TW} (T : Told f L x0 ws) (T' : Told f L x0 vs) : ws = vs := rise_eq T.up T'.up fun p => ⟨fun h => T.sub T' h, fun h => T'.sub T h⟩
end L2
namespace L2
open PySem PySem.Spec PyProof.Rows
section
variable {P : Program} {w : World} {A : Around} {E : Value → Shared → Prop} {s : Shared} {it d : Addr} {i ep : Nat} {es : Array DictEntry}
abbrev pairObj (k v : Value) : Obj := { cls := .type "tuple", data := .seq #[k, v] }
abbrev goerObj (own : Value) (out : Bool) (d : Addr) (i n ep : Nat) (k v : Value) : Obj := { cls := .type "dict_itemiterator", data := .fields #[own, .bool out, .ref d, .int i 0, .int n 0, .int ep 0, k, v] }
def Lies (h : Heap) (d : Addr) (es : Array DictEntry) (ep : Nat) : Prop := ∃ o, h.get? d = some o ∧ o.ExactDict ∧ o.data = .dict es ep
def Goer (h : Heap) (it d : Addr) (i n ep : Nat) : Prop := ∃ own out k v, h.get? it = some (goerObj own out d i n ep k v) ∧ (own = .none ∨ ∃ a : Nat, own = rawInt a ∧ a ≠ it ∧ ∃ o, h.get? a = some o)
theorem Goer.keep {h h' : Heap} {n : Nat} (g : Goer h it d i n ep) (k : ∀ o, h.get? it = some o → h'.get? it = some o) (l : ∀ b o, h.get? b = some o → ∃ o', h'.get? b = some o') : Goer h' it d i n ep := by
  obtain ⟨own, out, x, v, e, c⟩ := g
  refine ⟨own, out, x, v, k _ e, c.imp id ?_⟩
  rintro ⟨a, ea, na, o, eo⟩
  exact ⟨a, ea, na, l a o eo⟩
end
end L2
namespace L2
open PySem PySem.Spec PyProof.Rows
section
variable {P : Program} {w : World} {A : Around} {E : Value → Shared → Prop} {s : Shared} {it d : Addr} {i ep : Nat} {es : Array DictEntry}
end
end L2
namespace L2
open PySem PySem.Spec PyProof.Rows
structure PMade (es : Array DictEntry) (lo : Addr) (h : Heap) (as : List Addr) : Prop where
  far : ∀ a ∈ as, lo < a
  up : as.Pairwise (· < ·)
  is : ∀ (j : Nat) (a : Addr), as[j]? = some a → ∃ en : DictEntry, es[j]? = some en ∧ h.get? a = some (pairObj en.key en.val)
theorem PMade.nil {es : Array DictEntry} {lo : Addr} {h : Heap} : PMade es lo h [] := ⟨fun _ z => (nomatch z), .nil, fun _ _ z => by simp at z⟩
theorem PMade.here {es : Array DictEntry} {lo : Addr} {h : Heap} {as : List Addr} (m : PMade es lo h as) : ∀ a ∈ as, a < h.objs.size := fun a ha => by
  obtain ⟨j, e⟩ := List.mem_iff_getElem?.mp ha
  obtain ⟨_, _, g⟩ := m.is j a e
  exact Heap.lt_size g
theorem PMade.keep {es : Array DictEntry} {lo : Addr} {h h' : Heap} {as : List Addr} (m : PMade es lo h as) (k : ∀ b o, lo < b → h.get? b = some o → h'.get? b = some o) : PMade es lo h' as :=
  ⟨m.far, m.up, fun j a e => by
    obtain ⟨en, x, g⟩ := m.is j a e
    exact ⟨en, x, k a _ (m.far a (List.mem_of_getElem? e)) g⟩⟩
theorem PMade.more {es : Array DictEntry} {lo a : Addr} {h : Heap} {as : List Addr} {en : DictEntry} (m : PMade es lo h as) (la : lo < a) (new : ∀ b ∈ as, b < a) (x : es[as.length]? = some en) (g : h.get? a = some (pairObj en.key en.val)) : PMade es lo h (as ++ [a]) :=
  ⟨fun b hb => by
    rcases List.mem_append.mp hb with z | z
    · exact m.far b z
    · rw [List.mem_singleton.mp z]; exact la,
   List.pairwise_append.mpr ⟨m.up, List.pairwise_singleton _ _, fun b hb c hc => by rw [List.mem_singleton.mp hc]; exact new b hb⟩,
   fun j b e => by
    by_cases hj : j < as.length
    · rw [List.getElem?_append_left hj] at e
      exact m.is j b e
    · rw [List.getElem?_append_right (Nat.le_of_not_lt hj)] at e
      obtain ⟨z, e'⟩ := List.getElem?_eq_some_iff.mp e
      have j0 : j - as.length = 0 := by simp at z; omega
      have jj : j = as.length := by omega
      subst jj
      simp at e'
      subst e'
      exact ⟨en, x, g⟩⟩
section
variable {P : Program} {w : World} {A : Around} {R : Result → Shared → Prop} {S I d : Addr} {ep : Nat} {es : Array DictEntry} {res : Value}
abbrev lstAt (h : Heap) (S : Addr) (vs : Array Value) (c : Nat) : Prop := h.get? S = some { cls := .type "list", data := .seq vs c }
end
end L2
namespace L2
open PySem PySem.Spec PyProof.Rows
section
variable {P : Program} {w : World} {A : Around} {E : Value → Shared → Prop} {s : Shared} {v d : Addr} {ep : Nat} {es : Array DictEntry}
abbrev viewObj (d : Addr) : Obj := { cls := .type "dict_items", data := .fields #[.ref d] }
theorem Lies.typeIs {s : Shared} (L : Lies s.heap d es ep) : s.TypeIs (.ref d) "dict" := let ⟨o, h, x, _⟩ := L; ⟨o, h, x.1⟩
end
end L2
namespace L2
open PySem PySem.Spec PyProof.Rows
def lay (H : Hp) : List (Addr × HO) → Hp
  | [] => H
  | p :: l => lay (upd H p.1 p.2) l
section
variable {X : Cx}
structure Listed (H H' : Hp) (kvs : List (List Key × V)) (l : Addr) (as : List Addr) : Prop where
  new : H l = none
  news : ∀ a ∈ as, H a = none
  out : l ∉ as
  nd : as.Nodup
  len : as.length = kvs.length
  lst : H' l = some (.lst (as.map .ref))
  is : ∀ (j : Nat) (a : Addr), as[j]? = some a → ∃ k v b, kvs[j]? = some (k, v) ∧ H b = some (.tup (k.map kV)) ∧ H' a = some (.tup [.ref b, v])
  rest : ∀ b, b ≠ l → b ∉ as → H' b = H b
def ViewO (v d : Addr) : HO := .ext fun h => h.get? v = some (viewObj d)
def rItems : V → List V → Hp → VK → Prop := fun x xs H Q => xs = [] ∧ ∃ a kvs, x = .ref a ∧ H a = some (.dT kvs) ∧ ∀ v, H v = none → Q (.ref v) (upd H v (ViewO v a))
def rListItems : List V → Hp → VK → Prop := fun xs H Q => ∃ v a kvs, xs = [.ref v] ∧ H v = some (ViewO v a) ∧ H a = some (.dT kvs) ∧ ∀ l as H', Listed H H' kvs l as → Q (.ref l) H'
end
end L2
namespace L2
open PySem PySem.Spec PyProof.Rows
def kvsOf (ws : TW) (as : List Addr) : List (List Key × V) := List.zipWith (fun p a => (nk p.1, V.ref a)) ws as
theorem kvs_snoc {ws : TW} {as : List Addr} {p : List Nat × List Nat} {a : Addr} (h : as.length = ws.length) : kvsOf (ws ++ [p]) (as ++ [a]) = kvsOf ws as ++ [(nk p.1, .ref a)] := by
  unfold kvsOf
  rw [List.zipWith_append h.symm]
  rfl
theorem val_at : ∀ {ws : TW} {as : List Addr} {j : Nat} {p : List Nat × List Nat} {a : Addr}, (ws.map (·.1)).Nodup → ws[j]? = some p → as[j]? = some a → valV (kvsOf ws as) (nk p.1) = some (.ref a)
  | q :: ws, b :: as, 0, p, a, _, hp, ha => by
    cases hp
    cases ha
    exact valV_pos (p := (nk q.1, V.ref b)) (r := kvsOf ws as) rfl
  | q :: ws, b :: as, j + 1, p, a, nd, hp, ha => by
    obtain ⟨h1, h2⟩ := List.nodup_cons.mp nd
    have hp' : ws[j]? = some p := by simpa using hp
    have n : ¬ (nk q.1 : List Key) = nk p.1 := fun z => h1 (List.mem_map.mpr ⟨p, List.mem_of_getElem? hp', (nk_inj z).symm⟩)
    exact (valV_neg (p := (nk q.1, V.ref b)) (r := kvsOf ws as) n).trans (val_at h2 hp' (by simpa using ha))
  | [], _, _, _, _, _, hp, _ => by simp at hp
  | _ :: _, [], _, _, _, _, _, ha => by simp at ha
structure WordsAt (H : Hp) (D : Addr) (ws : TW) (as : List Addr) : Prop where
  len : as.length = ws.length
  dict : H D = some (.dT (kvsOf ws as))
  list : ∀ (j : Nat) (a : Addr) (p : List Nat × List Nat), as[j]? = some a → ws[j]? = some p → H a = some (.lst (p.2.map nv))
theorem WordsAt.same {H H' : Hp} {D : Addr} {ws : TW} {as : List Addr} (W : WordsAt H D ws as) (g : Same H H') : WordsAt H' D ws as := ⟨W.len, g _ _ W.dict, fun j a p h1 h2 => g _ _ (W.list j a p h1 h2)⟩
theorem WordsAt.word {H : Hp} {D : Addr} {ws : TW} {as : List Addr} {p : List Nat × List Nat} (W : WordsAt H D ws as) (nd : (ws.map (·.1)).Nodup) (hp : p ∈ ws) : ∃ a, valV (kvsOf ws as) (nk p.1) = some (.ref a) ∧ H a = some (.lst (p.2.map nv)) := by
  obtain ⟨j, e⟩ := List.mem_iff_getElem?.mp hp
  obtain ⟨hj, _⟩ := List.getElem?_eq_some_iff.mp e
  obtain ⟨a, ea⟩ : ∃ a, as[j]? = some a := ⟨_, List.getElem?_eq_getElem (by rw [W.len]; exact hj)⟩
  exact ⟨a, val_at nd e ea, W.list j a p ea e⟩
theorem WordsAt.put {H : Hp} {D l : Addr} {ws : TW} {as : List Addr} {p : List Nat × List Nat} (W : WordsAt H D ws as) (hl : H l = some (.lst (p.2.map nv))) : WordsAt (upd H D (.dT (kvsOf ws as ++ [(nk p.1, .ref l)]))) D (ws ++ [p]) (as ++ [l]) := by
  have nD : ∀ {a : Addr} {xs : List V}, H a = some (.lst xs) → a ≠ D := fun h => ne_of h W.dict (fun z => nomatch z)
  refine ⟨by simp [W.len], by rw [upd_same, kvs_snoc W.len], fun j a q h1 h2 => ?_⟩
  by_cases hj : j < ws.length
  · rw [List.getElem?_append_left (by rw [W.len]; exact hj)] at h1
    rw [List.getElem?_append_left hj] at h2
    have z := W.list j a q h1 h2
    rw [upd_ne (nD z)]
    exact z
  · rw [List.getElem?_append_right (by rw [W.len]; omega)] at h1
    rw [List.getElem?_append_right (by omega)] at h2
    have z : j - ws.length = 0 := by
      have := (List.getElem?_eq_some_iff.mp h2).1
      simp at this
      omega
    rw [W.len, z] at h1
    rw [z] at h2
    cases h1
    cases h2
    rw [upd_ne (nD hl)]
    exact hl
def noT (H : Hp) : Hp := fun a => match H a with
  | some (.tbl _) => none
  | o => o
theorem noT_at {H : Hp} {a : Addr} {o : HO} (h : H a = some o) (n : ∀ ps, o ≠ .tbl ps) : noT H a = some o := by
  unfold noT
  rw [h]
  cases o <;> first | rfl | exact absurd rfl (n _)
theorem of_noT {H : Hp} {a : Addr} {o : HO} (h : noT H a = some o) : H a = some o ∧ ∀ ps, o ≠ .tbl ps := by
  unfold noT at h
  split at h
  · cases h
  · rename_i n
    exact ⟨h, fun ps z => n ps (by rw [h, z])⟩
def Keeps (H H' : Hp) : Prop := Same (noT H) H'
theorem Same.keeps {H H' : Hp} (g : Same H H') : Keeps H H' := fun a o h => g a o (of_noT h).1
theorem Keeps.refl (H : Hp) : Keeps H H := (Same.refl H).keeps
theorem Keeps.trans {H H1 H2 : Hp} (a : Keeps H H1) (b : Keeps H1 H2) : Keeps H H2 := fun c o h => b c o (noT_at (a c o h) (of_noT h).2)
def TabOk (qual : Str) (pos : Pos) (H : Hp) (T : Addr) : Prop := H T = some (.tbl #[]) ∨ ∃ cc, H T = some (.tbl (triple pos cc)) ∧ H cc = some (CodeO cc qual)
theorem TabOk.same {qual : Str} {pos : Pos} {H H' : Hp} {T : Addr} (t : TabOk qual pos H T) (g : Same H H') : TabOk qual pos H' T := by
  rcases t with t | ⟨cc, t1, t2⟩
  · exact .inl (g _ _ t)
  · exact .inr ⟨cc, g _ _ t1, g _ _ t2⟩
def DefAt (K : PySem.W.Frag) (x : Str) (st : Stmt) (f : Addr) (fd : FuncData) (dv cv : Value) : Prop :=
  PySem.W.codeIn K cv x = true ∧ (∃ kV doc pm an ct, fd = PySem.W.fnOf x x (defArgs st) (defBody st) (defScope st) dv kV doc pm an cv ct) ∧ ∃ c d sl, K.lookup f = some ⟨c, d, .func fd, sl⟩
section
variable {P : Program} {w : World} {K : PySem.W.Frag} {mg : Str → Option Value} {base : Heap} {x : Str} {st : Stmt} {f : Addr} {fd : FuncData} {dv cv : Value} {N ps : List Str} {k : Nat} {sp : Sp}
def BodyOk (P : Program) (w : World) (K : PySem.W.Frag) (mg : Str → Option Value) (base : Heap) (x : Str) (st : Stmt) (f : Addr) (cv : Value) (N : List Str) (k : Nat) (sp : Sp) : Prop :=
  ∀ A outer s H vs Q E, sp vs H Q E → Room k (A.deeper (envOfC x (defScope st) s.heap.objs.size f cv)) → ∃ t : TS, t ⟨fun _ H' => Q .non H', Q, fun _ _ => False, fun _ _ => False⟩ (start N vs) H ∧ PSs (cxOf CX0 P w K mg base N x (defScope st) f cv A outer s H E).nox (defBody st) t
theorem DefAt.binds {T : Addr} {o : Obj} {n : Nat} {ds : List Value} (d : DefAt K x st f fd (.ref T) cv) (lT : K.lookup T = some o) (dT : o.data = .seq ds.toArray n) (kk : List Value → Option (Array Value) → Sem (List (Str × Value)))
    (h1 : ∀ (kV doc pm : Value) (an : Option Addr) (ct : Value) (us : List Value), (us ++ ds).length = ps.length → bindArgs (PySem.W.fnOf x x (defArgs st) (defBody st) (defScope st) (.ref T) kV doc pm an cv ct) ⟨us, []⟩ = seqItems? (.ref T) >>= kk us)
    (h2 : ∀ us : List Value, (us ++ ds).length = ps.length → kk us (some ds.toArray) = pure (ps.zip (us ++ ds))) : Binds K fd ps ds := fun s us KX hl => by
  obtain ⟨_, ⟨kV, doc, pm, an, ct, rfl⟩, _⟩ := d
  exact BindsTo.of_defaults rfl (KX _ _ lT) dT (h1 kV doc pm an ct us hl) (h2 us hl)
def CalleeD (P : Program) (w : World) (K : PySem.W.Frag) (mg : Str → Option Value) (base : Heap) (x : Str) (k : Nat) (ps : List Str) (sp : Sp) (dvs : List V) : Prop :=
  ∃ f fd ds, FnOk P w K mg base CX0 k f fd ps sp ∧ mg x = some (.ref f) ∧ PySem.W.keepIn K (.ref f) = true ∧ Binds K fd ps ds ∧ Vals dvs ds
end
end L2
namespace L2
open PySem PySem.Spec PyProof.Rows
def CalleeX (P : Program) (w : World) (K : PySem.W.Frag) (mg : Str → Option Value) (base : Heap) (x : Str) (k : Nat) (ps : List Str) (sp : Sp) : Prop :=
  ∃ f fd, FnOk P w K mg base (CX1 P w) k f fd ps sp ∧ mg x = some (.ref f) ∧ PySem.W.keepIn K (.ref f) = true ∧ Binds K fd ps []
theorem pe_callX {X : Cx} {x : Str} {k : Nat} {ps : List Str} {sp : Sp} {e : Expr} {es : List Expr} {t : TA} {p pos : Pos} {E : XK} (c : CalleeX X.prog X.w X.K X.mg X.base x k ps sp) (hr : Room k X.A) (hx : Passes (CX1 X.prog X.w) X E) (hg : Gl X x) (ha : PA X (e :: es) t)
    (hd : (x == ("__debug__" : Str)) = false := by decide) (hs : starEach (e :: es) X.env = (false, eval e X.env) :: starEach es X.env := by rfl) (hp : (backTo pos (starEach es X.env)).any (·.1) = false := by rfl) :
    PE X (.Call (.Name x p) (e :: es) [] pos) (tCall sp [] E t) := by
  obtain ⟨f, fd, F, m, kp, b⟩ := c
  exact pe_call F hr hg m kp b .nil hx ha hd hs hp
theorem pex_callX {X : Cx} {x : Str} {k : Nat} {ps : List Str} {sp : Sp} {e : Expr} {es : List Expr} {t : TA} {p pos : Pos} (c : CalleeX X.prog X.w X.K X.mg X.base x k ps sp) (hr : Room k X.A) (hg : Gl X x) (ha : PA X.nox (e :: es) t)
    (hd : (x == ("__debug__" : Str)) = false := by decide) (hs : starEach (e :: es) X.env = (false, eval e X.env) :: starEach es X.env := by rfl) (hp : (backTo pos (starEach es X.env)).any (·.1) = false := by rfl) :
    PEx X (.Call (.Name x p) (e :: es) [] pos) (fun E => tCall sp [] E t) := by
  obtain ⟨f, fd, F, m, kp, b⟩ := c
  exact pex_call F hr hg m kp b ha hd hs hp
def CalleeDX (P : Program) (w : World) (K : PySem.W.Frag) (mg : Str → Option Value) (base : Heap) (x : Str) (k : Nat) (ps : List Str) (sp : Sp) (dvs : List V) : Prop :=
  ∃ f fd ds, FnOk P w K mg base (CX1 P w) k f fd ps sp ∧ mg x = some (.ref f) ∧ PySem.W.keepIn K (.ref f) = true ∧ Binds K fd ps ds ∧ Vals dvs ds
section
variable {X : Cx} {pins : List (Addr × Obj)} {σ : St} {H H' : Hp} {s : Shared}
def tCallCX (sp : Sp) (dvs : List V) (E : XK) (j : Nat) (c : Addr) (t : TA) : TE := fun σ H Q => t σ H fun vs H1 => ∃ m, σ[j]? = some (some (.ref m)) ∧ ∀ oc, H1 c = none → sp (vs ++ dvs) (upd H1 c (CellO c m oc)) (fun r H2 => H2 c = some (CellO c m oc) ∧ Q r (drop H2 c)) (fun v d H2 => H2 c = some (CellO c m oc) ∧ E v d (drop H2 c))
theorem CX1.afterC {c m : Addr} {oc : Obj} {E : XK} {v : Value} {s' : Shared} (hc : H c = none) (ec : s.heap.get? c = some oc) (h : CX1 X.prog X.w X.stack (upd H c (CellO c m oc)) s (fun v d H2 => H2 c = some (CellO c m oc) ∧ E v d (drop H2 c)) v s') : CX1 X.prog X.w X.stack H s E v s' := by
  obtain ⟨e, C, d, H2, rfl, os, bare, un, hok, ⟨ne, fe, oe, ws, T, oT, ts, a0, he, hcl, hdc, hd, h0, h1, nT, fT, r⟩, e2, q⟩ := h
  obtain ⟨⟨ec', _⟩, _, _⟩ := hok c _ e2
  refine ⟨e, C, d, drop H2 c, rfl, os, bare, ⟨fun b o e n hb he => ?_, fun b o e n hb he => ?_, fun b o e n he => ?_, un.there, fun b xs e => ?_, fun b o w e => ?_, fun b ps e => ?_⟩, hok.drop e2, ⟨ne, drop_none fe, oe, ws, T, oT, ts, a0, he, hcl, hdc, hd, h0, h1, nT, drop_none fT, r⟩, q⟩
  · by_cases z : b = c
    · subst z
      rw [ec] at e
      cases e
      exact ec'
    · exact un.keep b o e (by rw [upd_ne z]; exact n) hb he
  · by_cases z : b = c
    · subst z
      rw [ec] at e
      cases e
      exact ⟨oc.slots, ec'⟩
    · exact un.slot b o e (by rw [upd_ne z]; exact n) hb he
  · by_cases z : b = c
    · rw [z]; exact drop_same
    · exact drop_none (un.free b o e (by rw [upd_ne z]; exact n) he)
  · have z : b ≠ c := fun z => by rw [z, hc] at e; cases e
    rw [drop_ne z]
    exact un.tups b xs (by rw [upd_ne z]; exact e)
  · have z : b ≠ c := fun z => by rw [z, hc] at e; cases e
    rw [drop_ne z]
    exact un.frzs b o w (by rw [upd_ne z]; exact e)
  · have z : b ≠ c := fun z => by rw [z, hc] at e; cases e
    rw [drop_ne z]
    exact un.tbls b ps (by rw [upd_ne z]; exact e)
end
section
variable {P : Program} {w : World} {K : PySem.W.Frag} {mg : Str → Option Value} {base : Heap} {x : Str} {st : Stmt} {f : Addr} {fd : FuncData} {dv cv : Value} {N ps : List Str} {k : Nat} {sp : Sp}
end
end L2
namespace L2
open PySem PySem.Spec PyProof.Rows
section
variable {X : Cx}
def tDisp1 (tk tv : TE) : TE := fun σ H Q => ∀ p, H p = none → tk σ (upd H p (.dT [])) fun x H1 => tv σ H1 fun y H2 => H2 p = some (.dT []) ∧ ∃ b k, x = .ref b ∧ H2 b = some (.tup (k.map kV)) ∧ Q (.ref p) (upd H2 p (.dT [(k, y)]))
end
end L2
namespace L2
open PySem PySem.Spec PyProof.Rows
def spRefuse : Sp := fun vs H Q _ => ∃ d : Addr, vs = [.ref d, .non] ∧ Q .non H
def spStep (G : Hp → Prop) (U : List (List Nat)) (L : Nat) (g : List Nat → Nat → List Nat) : Sp := fun vs H Q _ => ∃ (t : Addr) (x : List Nat) (l : Nat), vs = [.ref t, nv l] ∧ G H ∧ H t = some (.tup (x.map nv)) ∧ x ∈ U ∧ l < L ∧ NewT H ((g x l).map nv) Q
def ThAt (H : Hp) (l : Addr) (ps : TW) : Prop := ∃ ts : List Addr, H l = some (.lst (ts.map .ref)) ∧ ts.length = ps.length ∧ ∀ (j : Nat) (t : Addr) (p : List Nat × List Nat), ts[j]? = some t → ps[j]? = some p → H t = some (.tup (p.1.map nv))
theorem ThAt.same {H H' : Hp} {l : Addr} {ps : TW} (h : ThAt H l ps) (g : Same H H') : ThAt H' l ps := by
  obtain ⟨ts, h1, h2, h3⟩ := h
  exact ⟨ts, g _ _ h1, h2, fun j t p e1 e2 => g _ _ (h3 j t p e1 e2)⟩
theorem ThAt.more {H : Hp} {l t : Addr} {ps : TW} {ts : List Addr} {p : List Nat × List Nat} (h1 : H l = some (.lst (ts.map .ref))) (h2 : ts.length = ps.length) (h3 : ∀ (j : Nat) (t : Addr) (p : List Nat × List Nat), ts[j]? = some t → ps[j]? = some p → H t = some (.tup (p.1.map nv))) (ht : H t = some (.tup (p.1.map nv))) :
    ThAt (upd H l (.lst (ts.map .ref ++ [.ref t]))) l (ps ++ [p]) := by
  have nl : ∀ {a : Addr} {xs : List V}, H a = some (.tup xs) → a ≠ l := fun h => ne_of h h1 fun e => nomatch e
  refine ⟨ts ++ [t], by rw [upd_same, List.map_append]; rfl, by simp [h2], fun j a q e1 e2 => ?_⟩
  by_cases hj : j < ps.length
  · rw [List.getElem?_append_left (by omega)] at e1
    rw [List.getElem?_append_left hj] at e2
    have z := h3 j a q e1 e2
    rw [upd_ne (nl z)]
    exact z
  · rw [List.getElem?_append_right (by omega)] at e1
    rw [List.getElem?_append_right (by omega)] at e2
    have z : j - ps.length = 0 := by
      have := (List.getElem?_eq_some_iff.mp e2).1
      simp at this
      omega
    rw [h2, z] at e1
    rw [z] at e2
    cases e1
    cases e2
    rw [upd_ne (nl ht)]
    exact ht
structure Srch (H0 H : Hp) (D wa fa : Addr) (ts : List Addr) (ws wv fo : TW) (as : List Addr) : Prop where
  g : Same H0 H
  nD : H0 D = none
  nF : H0 fa = none
  W : WordsAt H D ws as
  wl : H wa = some (.lst (ts.map .ref))
  wt : ∀ (j : Nat) (t : Addr) (p : List Nat × List Nat), ts[j]? = some t → wv[j]? = some p → H t = some (.tup (p.1.map nv))
  foll : ThAt H fa fo
  wf : wa ≠ fa
  fas : fa ∉ as
  new : ∀ b ∈ as, H0 b = none
theorem Srch.same {H0 H H' : Hp} {D wa fa : Addr} {ts : List Addr} {ws wv fo : TW} {as : List Addr} (S : Srch H0 H D wa fa ts ws wv fo as) (k : Same H H') : Srch H0 H' D wa fa ts ws wv fo as :=
  ⟨S.g.trans k, S.nD, S.nF, S.W.same k, k _ _ S.wl, fun j t p h1 h2 => k _ _ (S.wt j t p h1 h2), S.foll.same k, S.wf, S.fas, S.new⟩
theorem Srch.more {H0 H : Hp} {D wa fa l t : Addr} {tw : List Addr} {ws wv fo : TW} {as ts : List Addr} {p : List Nat × List Nat} (S : Srch H0 H D wa fa tw ws wv fo as) (hl : H l = some (.lst (p.2.map nv))) (lf : l ≠ fa) (l0 : H0 l = none) (ht : H t = some (.tup (p.1.map nv)))
    (e1 : H fa = some (.lst (ts.map .ref))) (e2 : ts.length = fo.length) (e3 : ∀ (j : Nat) (t : Addr) (p : List Nat × List Nat), ts[j]? = some t → fo[j]? = some p → H t = some (.tup (p.1.map nv))) :
    Srch H0 (upd (upd H D (.dT (kvsOf ws as ++ [(nk p.1, .ref l)]))) fa (.lst (ts.map .ref ++ [.ref t]))) D wa fa tw (ws ++ [p]) wv (fo ++ [p]) (as ++ [l]) := by
  have fD : fa ≠ D := ne_of e1 S.W.dict fun e => nomatch e
  have tD : ∀ {a : Addr} {xs : List V}, H a = some (.tup xs) → a ≠ D := fun h => ne_of h S.W.dict fun e => nomatch e
  have wD : wa ≠ D := ne_of S.wl S.W.dict fun e => nomatch e
  have tF : ∀ {a : Addr} {xs : List V}, H a = some (.tup xs) → a ≠ fa := fun h => ne_of h e1 fun e => nomatch e
  have W1 := S.W.put (l := l) (p := p) hl
  have f1 : (upd H D (.dT (kvsOf ws as ++ [(nk p.1, .ref l)]))) fa = some (.lst (ts.map .ref)) := by rw [upd_ne fD]; exact e1
  refine ⟨same_upd (same_upd S.g S.nD) S.nF, S.nD, S.nF, ⟨W1.len, ?_, fun j a q h1 h2 => ?_⟩, ?_, fun j a q h1 h2 => ?_, ?_, S.wf, ?_, fun b hb => (List.mem_append.mp hb).elim (S.new b) fun m => by rw [List.mem_singleton.mp m]; exact l0⟩
  · rw [upd_ne (Ne.symm fD)]
    exact W1.dict
  · have na : a ≠ fa := fun z => by
      subst z
      rcases List.mem_append.mp (List.mem_of_getElem? h1) with m | m
      · exact S.fas m
      · exact lf (List.mem_singleton.mp m).symm
    rw [upd_ne na]
    exact W1.list j a q h1 h2
  · rw [upd_ne S.wf, upd_ne wD]
    exact S.wl
  · have z := S.wt j a q h1 h2
    rw [upd_ne (tF z), upd_ne (tD z)]
    exact z
  · refine ThAt.more f1 e2 (fun j a q h1 h2 => ?_) ?_
    · have z := e3 j a q h1 h2
      rw [upd_ne (tD z)]
      exact z
    · rw [upd_ne (tD ht)]
      exact ht
  · intro m
    rcases List.mem_append.mp m with m | m
    · exact S.fas m
    · exact lf (List.mem_singleton.mp m).symm
section
variable {X : Cx} {H0 : Hp} {a st D wa fa : Addr} {sd : FuncData} {ps : List Str} {x0 : List Nat} {L : Nat} {U : List (List Nat)} {g : List Nat → Nat → List Nat}
abbrev tStep (X : Cx) : TS := tSeq (tAsg (tCallV X 2 (tCons (tVar 7) (tCons (tVar 8) tNil))) (gName 9)) (tIfS (tB (tDNotIn (tVar 9) (tVar 4)))
  (tSeq (sDPut (tVar 4) (tVar 9) (tOp (rCatS X.K) (tDGet (tVar 4) (tVar 7)) (tLst (tCons (tVar 8) tNil)))) (tSeq (tDrop (tCall spRefuse [] E0 (tCons (tVar 4) (tCons (tVar 3) tNil)))) (tDrop (tBM X.K "list" rAppend (tVar 6) (tCons (tVar 9) tNil))))) tNext)
abbrev tWave (X : Cx) : TS := tFor (iList X.K (tVar 5)) (gName 7) (tFor (iRng1 (tCons (tVar 1) tNil)) (gName 8) (tStep X))
abbrev tReach (X : Cx) : TS := tSeq (tAsg (tDisp1 (tVar 0) (tLst tNil)) (gName 4)) (tSeq (tDrop (tCall spRefuse [] E0 (tCons (tVar 4) (tCons (tVar 3) tNil)))) (tSeq (tAsg (tLst (tCons (tVar 0) tNil)) (gName 5))
  (tSeq (tWhile (fun σ H_1 Q => tVar 5 σ H_1 fun x H' => ∃ k, TruV X.K x H' k ∧ Q k H') (tSeq (tAsg (tLst tNil) (gName 6)) (tSeq (tWave X) (tAsg (tVar 6) (gName 5))))) (tRet (tVar 4)))))
end
end L2
namespace L2
open PySem PySem.Spec PyProof.Rows
section
variable {X : Cx}
def rInD (K : PySem.W.Frag) (neg : Bool) : R2 := fun x y H Q => ∃ (l : Addr) (n : Nat) (d : Dt) (ds : List Dt) (xs : List V), y = .ref l ∧ SqL K H l xs ∧ xs.length = ds.length ∧ Rep K H n d x ∧ (∀ (i : Nat) d' v, ds[i]? = some d' → xs[i]? = some v → Rep K H n d' v) ∧ n ≤ 30 ∧ ∀ b, (b = true ↔ d ∈ ds) → Q (.bl (if neg then !b else b)) H
theorem relV_inj {K : PySem.W.Frag} {H : Hp} {n : Nat} {d d' : Dt} {y z : V} {u : Value} (hy : Rep K H n d y) (hz : Rep K H n d' z) (r1 : RelV y u) (r2 : RelV z u) : y = z := by
  have ry : ∀ {y : V} {d : Dt}, Rep K H n d y → RelV y u → (y = .non ∧ u = .none) ∨ (∃ i t, y = .int i ∧ u = .int i t) ∨ (∃ x t, y = .str x ∧ u = .str x t) ∨ ∃ a, y = .ref a ∧ u = .ref a := fun h r => by
    cases h with
    | non => exact .inl ⟨rfl, r⟩
    | int _ i =>
      obtain ⟨t, e⟩ := r
      exact .inr (.inl ⟨i, t, rfl, e⟩)
    | str _ x =>
      obtain ⟨t, e⟩ := r
      exact .inr (.inr (.inl ⟨x, t, rfl, e⟩))
    | lst => exact .inr (.inr (.inr ⟨_, rfl, r⟩))
    | tup => exact .inr (.inr (.inr ⟨_, rfl, r⟩))
  rcases ry hy r1 with ⟨rfl, e⟩ | ⟨i, t, rfl, e⟩ | ⟨x, t, rfl, e⟩ | ⟨a, rfl, e⟩ <;> rcases ry hz r2 with ⟨rfl, e'⟩ | ⟨i', t', rfl, e'⟩ | ⟨x', t', rfl, e'⟩ | ⟨a', rfl, e'⟩ <;> rw [e] at e' <;> cases e' <;> rfl
theorem inD_eq {pins : List (Addr × Obj)} {σ : St} {H : Hp} {s : Shared} {x : V} {v : Value} {n : Nat} {d : Dt} {ds : List Dt} {xs : List V} {its : List Value} (hu : X.A.units + 64 < cLine) (I : Inv X pins σ H s) (rx : RelV x v) (r : Vals xs its) (hl : xs.length = ds.length) (hd : Rep X.K H n d x)
    (hi : ∀ (i : Nat) d' v, ds[i]? = some d' → xs[i]? = some v → Rep X.K H n d' v) (hn : n ≤ 30) : ∃ e : Value → Bool, (∀ u ∈ its, SeqAt.EqAt X.A.in1 s u v (e u)) ∧ (its.any e = true ↔ d ∈ ds) := by
  have one : ∀ (i : Nat) u, its[i]? = some u → ∃ b d', ds[i]? = some d' ∧ SeqAt.EqAt X.A.in1 s u v b ∧ (b = true ↔ d' = d) := fun i u hu' => by
    obtain ⟨h1, _⟩ := List.getElem?_eq_some_iff.mp hu'
    have h2 := r.length
    obtain ⟨y, ey⟩ : ∃ y, xs[i]? = some y := ⟨_, List.getElem?_eq_getElem (by omega)⟩
    obtain ⟨d', ed⟩ : ∃ d', ds[i]? = some d' := ⟨_, List.getElem?_eq_getElem (by omega)⟩
    obtain ⟨u', eu, ru⟩ := Vals.get r ey
    rw [hu'] at eu
    cases eu
    obtain ⟨b, h3, h4⟩ := eq_rep I n (A := X.A.in1) (by show X.A.units + 1 + n < cLine; omega) (hi i d' y ed ey) hd ru rx
    exact ⟨b, d', ed, h3, h4⟩
  have each : ∀ u, ∃ b, (∃ i : Nat, its[i]? = some u) → SeqAt.EqAt X.A.in1 s u v b ∧ ∃ (i : Nat) (d' : Dt), its[i]? = some u ∧ ds[i]? = some d' ∧ (b = true ↔ d' = d) := fun u => by
    by_cases h : ∃ i : Nat, its[i]? = some u
    · obtain ⟨i, hi'⟩ := h
      obtain ⟨b, d', h1, h2, h3⟩ := one i u hi'
      exact ⟨b, fun _ => ⟨h2, i, d', hi', h1, h3⟩⟩
    · exact ⟨true, fun z => absurd z h⟩
  refine ⟨fun u => Classical.choose (each u), fun u hu' => (Classical.choose_spec (each u) (List.mem_iff_getElem?.mp hu')).1, ?_⟩
  rw [List.any_eq_true]
  constructor
  · rintro ⟨u, hu', hb⟩
    obtain ⟨_, i, d', h1, h2, h3⟩ := Classical.choose_spec (each u) (List.mem_iff_getElem?.mp hu')
    rw [← h3.mp hb]
    exact List.mem_of_getElem? h2
  · intro hm
    obtain ⟨i, ed⟩ := List.mem_iff_getElem?.mp hm
    obtain ⟨h1, _⟩ := List.getElem?_eq_some_iff.mp ed
    have h2 := r.length
    obtain ⟨u, eu⟩ : ∃ u, its[i]? = some u := ⟨_, List.getElem?_eq_getElem (by omega)⟩
    refine ⟨u, List.mem_of_getElem? eu, ?_⟩
    obtain ⟨_, j, d', g1, g2, g3⟩ := Classical.choose_spec (each u) ⟨i, eu⟩
    refine g3.mpr ?_
    -- the same value at two places stands for the same data
    obtain ⟨y, ey⟩ : ∃ y, xs[i]? = some y := ⟨_, List.getElem?_eq_getElem (by omega)⟩
    obtain ⟨h4, _⟩ := List.getElem?_eq_some_iff.mp g2
    obtain ⟨z, ez⟩ : ∃ z, xs[j]? = some z := ⟨_, List.getElem?_eq_getElem (by omega)⟩
    obtain ⟨u1, e1, r1⟩ := Vals.get r ey
    obtain ⟨u2, e2, r2⟩ := Vals.get r ez
    rw [eu] at e1
    rw [g1] at e2
    cases e1
    cases e2
    have yz : y = z := relV_inj (hi i d y ed ey) (hi j d' z g2 ez) r1 r2
    subst yz
    exact rep_inj I n (hi j d' y g2 ez) (hi i d y ed ey)
theorem op_inD (hu : X.A.units + 64 < cLine) : OpR X (compareOp .In) (rInD X.K false) := by
  intro pins s σ H x y v u Q I rx ry h
  obtain ⟨l, n, d, ds, xs, rfl, hq, hl, hd, hi, hn, q⟩ := h
  cases ry
  obtain ⟨its, r, pl, hz⟩ := I.list hq
  obtain ⟨e, h1, h2⟩ := inD_eq hu I rx r hl hd hi hn
  refine SeqAt.in_listAt e pl.isList (fun w hw => h1 w (by simpa using hw)) ⟨.bl _, H, I, rfl, ?_⟩
  rw [show its.toArray.any e = its.any e by simp]
  exact q _ h2
theorem pg_own2 {x y : Str} {p q tp : Pos} {k : Nat} {sc : Scope} (S : CompScope X [x, y] sc) (hc : X.calm = true) (hx : sc.names.lookup x = some .local) (hy : sc.names.lookup y = some .local) :
    ∀ C s H fp, PG (cxC X [x, y] sc C s H fp) (.Tuple [.Name x p, .Name y q] k tp) (gTup X.K 2 (gCons (gName 0) (gCons (gName 1) gNil))) := fun C s H fp =>
  pg_tup hc (pgs_cons (pg_name S.nd rfl (.inl (lookup_relabel_local hx)) (.inr (lookup_relabel_local hx))) (pgs_cons (pg_name S.nd rfl (.inl (lookup_relabel_local hy)) (.inr (lookup_relabel_local hy))) pgs_nil))
end
end L2
namespace L2
open PySem PySem.Spec PyProof.Rows
section
variable {X : Cx}
def rIndexD (K : PySem.W.Frag) : V → List V → Hp → VK → Prop := fun x vs H Q => ∃ (l : Addr) (y : V) (n : Nat) (d : Dt) (ds : List Dt) (xs : List V) (j : Nat), x = .ref l ∧ vs = [y] ∧ SqL K H l xs ∧ xs.length = ds.length ∧ Rep K H n d y ∧ (∀ (i : Nat) d' v, ds[i]? = some d' → xs[i]? = some v → Rep K H n d' v) ∧ n ≤ 30 ∧ ds[j]? = some d ∧ (∀ i : Nat, i < j → ds[i]? ≠ some d) ∧ Q (.int (j : Nat)) H
end
end L2
namespace L2
open PySem PySem.Spec PyProof.Rows
section
variable {P : Program} {w : World} {A : Around} {E : Value → Shared → Prop} {s : Shared} {it d : Addr} {i ep : Nat} {es : Array DictEntry}
abbrev stepObj (d : Addr) (i n ep : Nat) : Obj := { cls := .type "dict_keyiterator", data := .fields #[.ref d, .int i 0, .int n 0, .int ep 0] }
end
end L2
namespace L2
open PySem PySem.W PyProof.Rows
section
variable (n : Nat) (k : Nat → Int)
def KOk {α : Type} : KasT α → (α → Prop) → Prop
  | .ret a, R => R a
  | .ask i j f, R => i < n ∧ j < n ∧ KOk (f (decide (k i < k j))) R
def Arr (p : Array Nat) : Prop := p.Perm (List.range n).toArray
def SUp (p : Array Nat) (m : Nat) : Prop := ∀ a b, a < b → b < m → k (p.getD a 0) < k (p.getD b 0)
def SDn (p : Array Nat) (m : Nat) : Prop := ∀ a b, a < b → b < m → k (p.getD b 0) < k (p.getD a 0)
variable {n k}
theorem KOk.bind {α β : Type} {f : α → KasT β} {R : α → Prop} {R' : β → Prop} (h : ∀ a, R a → KOk n k (f a) R') : ∀ t : KasT α, KOk n k t R → KOk n k (t.bind f) R'
  | .ret a, q => h a q
  | .ask i j g, q => ⟨q.1, q.2.1, KOk.bind h (g _) q.2.2⟩
theorem KOk.wp {α : Type} {cmp : Nat → Nat → (Bool → Shared → Prop) → Shared → Prop} {s : Shared} {R : α → Prop} {Q : α → Shared → Prop} (hc : ∀ i j (C : Bool → Shared → Prop), i < n → j < n → C (decide (k i < k j)) s → cmp i j C s) (hq : ∀ a, R a → Q a s) :
    ∀ t : KasT α, KOk n k t R → t.kasWp cmp Q s
  | .ret a, q => hq a q
  | .ask i j g, q => hc i j _ q.1 q.2.1 (KOk.wp hc hq (g _) q.2.2)
theorem Arr.size {p : Array Nat} (h : Arr n p) : p.size = n := by
  have z := (Array.perm_iff_toList_perm.mp h).length_eq
  simpa using z
theorem Arr.at {p : Array Nat} (h : Arr n p) {i : Nat} (hi : i < n) : p.getD i 0 < n ∧ p[i]? = some (p.getD i 0) := by
  have hs := h.size
  have e : p[i]? = some (p.getD i 0) := by
    rw [Array.getD_eq_getD_getElem?, Array.getElem?_eq_getElem (by omega)]
    rfl
  refine ⟨?_, e⟩
  have m : p.getD i 0 ∈ p := Array.mem_of_getElem? e
  have m2 := (Array.Perm.mem_iff h).mp m
  simpa using m2
theorem Arr.inj {p : Array Nat} (h : Arr n p) {i j : Nat} (hi : i < n) (hj : j < n) (e : p.getD i 0 = p.getD j 0) : i = j := by
  have nd : p.toList.Nodup := (Array.perm_iff_toList_perm.mp h).nodup_iff.mpr (by simpa using List.nodup_range)
  have e1 := (h.at hi).2
  have e2 := (h.at hj).2
  rw [← e] at e2
  rw [← Array.getElem?_toList] at e1 e2
  exact (List.getElem?_inj (by rw [Array.length_toList, h.size]; exact hi) nd).mp (e1.trans e2.symm)
variable (inj : ∀ i j, i < n → j < n → k i = k j → i = j)
include inj
end
end L2
namespace L2
open PySem PySem.Spec PySem.W PyProof.Rows
section
variable {P : Program} {w : World} {A : Around} {E : Value → Shared → Prop} {s : Shared} {a : Addr} {vs ks : List Value} {k : Nat → Int}
def AskOk (P : Program) (w : World) (A : Around) (ks : List Value) (lt : Nat → Nat → Bool) (s : Shared) : Prop :=
  wpAny (model P w) A (keyKind' ks.toArray) (fun κ s' => s' = s ∧ ∀ i j (C : Bool → Shared → Prop), i < ks.length → j < ks.length → C (lt i j) s → kas_ask P w A κ ks i j C s) (fun _ _ => False) s
abbrev picked (vs : List Value) (p : Array Nat) : List Value := p.toList.map fun i => vs.getD i Value.none
end
end L2
namespace L2
open PySem PySem.Spec PySem.W PyProof.Rows
theorem count_less {α : Type} {p q : α → Bool} : ∀ {xs : List α}, (∀ z ∈ xs, p z = true → q z = true) → (∃ z ∈ xs, p z = false ∧ q z = true) → xs.countP p < xs.countP q
  | [], _, h => by obtain ⟨z, hz, _⟩ := h; cases hz
  | x :: xs, mono, h => by
    have le : xs.countP p ≤ xs.countP q := List.countP_mono_left fun z hz => mono z (List.mem_cons_of_mem _ hz)
    rw [List.countP_cons, List.countP_cons]
    obtain ⟨z, hz, h1, h2⟩ := h
    rcases List.mem_cons.mp hz with e | hz
    · subst e
      rw [h1, h2]
      simp
      omega
    · have ih := count_less (xs := xs) (fun y hy => mono y (List.mem_cons_of_mem _ hy)) ⟨z, hz, h1, h2⟩
      have m := mono x (List.mem_cons_self ..)
      cases e1 : p x with
      | false => cases q x <;> simp <;> omega
      | true => rw [m e1]; simp; omega
structure Total {α : Type} (lt : α → α → Bool) (xs : List α) : Prop where
  irr : ∀ x, lt x x = false
  trans : ∀ x y z, lt x y = true → lt y z = true → lt x z = true
  tot : ∀ x ∈ xs, ∀ y ∈ xs, x ≠ y → lt x y = true ∨ lt y x = true
def rankOf {α : Type} (lt : α → α → Bool) (xs : List α) (x : α) : Int := ((xs.countP fun y => lt y x) : Nat)
section
variable {α : Type} {lt : α → α → Bool} {xs : List α} (T : Total lt xs)
include T
theorem Total.up {x y : α} (hx : x ∈ xs) (h : lt x y = true) : rankOf lt xs x < rankOf lt xs y := by
  unfold rankOf
  have z := count_less (xs := xs) (p := fun z => lt z x) (q := fun z => lt z y) (fun z _ hz => T.trans _ _ _ hz h) ⟨x, hx, T.irr x, h⟩
  omega
theorem Total.same {x y : α} (hx : x ∈ xs) (hy : y ∈ xs) (h : rankOf lt xs x = rankOf lt xs y) : x = y := by
  refine Classical.byContradiction fun e => ?_
  rcases T.tot x hx y hy e with z | z
  · have := T.up hx z
    omega
  · have := T.up hy z
    omega
end
section
variable {P : Program} {w : World} {A : Around} {E : Value → Shared → Prop} {s : Shared}
def TupN (h : Heap) (v : Value) (ns : List Nat) : Prop := ∃ a o its c, v = .ref a ∧ h.get? a = some o ∧ o.cls = .type "tuple" ∧ o.data = .seq its c ∧ Vals (ns.map nv) its.toList
end
end L2
namespace L2
open PySem PySem.Spec PySem.W PyProof.Rows
section
variable {P : Program} {w : World} {A : Around} {E : Value → Shared → Prop} {s : Shared} {vs : List Value} {k : Nat → Int}
end
structure TupsAt (H : Hp) (bs : List Addr) (us : List (List Nat)) : Prop where
  len : bs.length = us.length
  is : ∀ (i : Nat) (b : Addr) (u : List Nat), bs[i]? = some b → us[i]? = some u → H b = some (.tup (u.map nv))
theorem TupsAt.same {H H' : Hp} {bs : List Addr} {us : List (List Nat)} (h : TupsAt H bs us) (g : Same H H') : TupsAt H' bs us := ⟨h.len, fun i b u e1 e2 => g _ _ (h.is i b u e1 e2)⟩
theorem TupsAt.pick {H : Hp} {bs : List Addr} {us : List (List Nat)} (h : TupsAt H bs us) {p : Array Nat} (ar : Arr us.length p) : TupsAt H (p.toList.map fun i => bs.getD i 0) (p.toList.map fun i => us.getD i []) := by
  refine ⟨by simp, fun i b u e1 e2 => ?_⟩
  rw [List.getElem?_map] at e1 e2
  obtain ⟨j, ej, rfl⟩ := Option.map_eq_some_iff.mp e1
  rw [ej] at e2
  cases e2
  have lj : j < us.length := by
    have m := (Array.perm_iff_toList_perm.mp ar).mem_iff.mp (List.mem_of_getElem? ej)
    simpa using m
  have lb := h.len
  refine h.is j _ _ ?_ ?_
  · rw [List.getD_eq_getElem?_getD, List.getElem?_eq_getElem (by omega)]
    rfl
  · show us[j]? = some (us.getD j [])
    rw [List.getD_eq_getElem?_getD, List.getElem?_eq_getElem lj]
    rfl
section
variable {X : Cx}
def rSortT (K : PySem.W.Frag) : List V → Hp → VK → Prop := fun xs H Q => ∃ l as ts, xs = [V.ref l] ∧ SqL K H l (as.map V.ref) ∧ TupsAt H as ts ∧ (∀ t ∈ ts, t ≠ []) ∧ ts.Nodup ∧ ts.length < 64 ∧
  ∀ D bs us, H D = none → TupsAt H bs us → us.Perm ts → us.Pairwise (fun x y => ltl x y = true) → Q (.ref D) (upd H D (.lst (bs.map V.ref)))
end
end L2
namespace L2
open PySem PySem.Spec PyProof.Rows
section
variable {P : Program} {w : World} {A : Around} {E : Value → Shared → Prop} {s : Shared} {vs : List Value}
end
section
variable {X : Cx}
def rSortI (K : PySem.W.Frag) : List V → Hp → VK → Prop := fun xs H Q => ∃ (p : Addr) (ns : List Int), xs = [.ref p] ∧ SqT K H p (ns.map V.int) ∧ ns.length < 64 ∧ ∀ (D : Addr) (js : List Int), H D = none → js.Perm ns → js.Pairwise (· ≤ ·) → Q (.ref D) (upd H D (.lst (js.map V.int)))
end
end L2
namespace L2
open PySem PySem.Spec PySem.W PyProof.Rows
def byKey (g : List Nat → Int) (t u : List Nat) : Bool := plt (g t) t (g u) u
def KeyAt (H : Hp) (g : List Nat → Int) (κ a : Addr) (t : List Nat) : Prop := H κ = some (.tup [.int (g t), .ref a]) ∧ H a = some (.tup (t.map nv))
structure KeysAt (H : Hp) (g : List Nat → Int) (κs as : List Addr) (ts : List (List Nat)) : Prop where
  l1 : κs.length = ts.length
  l2 : as.length = ts.length
  is : ∀ (i : Nat) κ a t, κs[i]? = some κ → as[i]? = some a → ts[i]? = some t → KeyAt H g κ a t
section
variable {X : Cx} {pins : List (Addr × Obj)} {σ : St} {H : Hp} {s : Shared} {g : List Nat → Int}
end
def spKey (g : List Nat → Int) : Sp := fun vs H Q _ => ∃ (a : Addr) (t : List Nat), vs = [.ref a] ∧ H a = some (.tup (t.map nv)) ∧ ∀ κ H', Same H H' → H' κ = some (.tup [.int (g t), .ref a]) → Q (.ref κ) H'
section
variable {X : Cx} {pins : List (Addr × Obj)} {σ : St} {kk : Nat} {f : Addr} {fd : FuncData} {ps : List Str} {g : List Nat → Int}
theorem FpOk.to {H H' : Hp} {b : Addr} (h : FpOk X pins H b) (e : H' b = none) : FpOk X pins H' b := ⟨e, h.2⟩
end
end L2
namespace L2
open PySem PySem.Spec PySem.W PyProof.Rows
section
variable {X : Cx} {pins : List (Addr × Obj)} {σ : St} {H : Hp} {s : Shared} {kk : Nat} {f D : Addr} {fd : FuncData} {ps : List Str} {g : List Nat → Int} {as : List Addr} {ts : List (List Nat)} {E : Value → Shared → Prop}
end
end L2
namespace L2
open PySem PySem.Spec PySem.W PyProof.Rows
section
variable {X : Cx} {pins : List (Addr × Obj)} {σ : St} {H : Hp} {s : Shared} {d : Addr} {kvs : List (List Key × V)} {ts : List (List Nat)}
end
section
variable {X : Cx}
def rListK : List V → Hp → VK → Prop := fun xs H Q => ∃ d kvs ts, xs = [V.ref d] ∧ H d = some (.dT kvs) ∧ kvs.map (·.1) = ts.map nk ∧ ∀ l as, H l = none → TupsAt H as ts → Q (.ref l) (upd H l (.lst (as.map V.ref)))
def rSortK (g : List Nat → Int) : List V → Hp → VK → Prop := fun xs H Q => ∃ d kvs ts, xs = [V.ref d] ∧ H d = some (.dT kvs) ∧ kvs.map (·.1) = ts.map nk ∧ ts.length < 64 ∧
  ∀ D bs us H', Same H H' → H D = none → H' D = some (.lst (bs.map V.ref)) → TupsAt H' bs us → us.Perm ts → us.Pairwise (fun x y => byKey g x y = true) → Q (.ref D) H'
def tSortK (g : List Nat → Int) (te : TE) : TE := fun σ H Q => te σ H fun x H1 => ∃ d, x = .ref d ∧ rSortK g [.ref d] H1 Q
end
end L2
namespace L2
open PySem PySem.Spec PyProof.Rows
section
variable {X : Cx} {pins : List (Addr × Obj)} {σ : St} {H : Hp} {s : Shared} {d : Addr} {kvs : List (List Key × V)} {ts : List (List Nat)} {o : Obj}
end
def Itd (d : Addr) (o : Obj) : It :=
  ⟨fun i H => ∃ (kvs : List (List Key × V)) (ts : List (List Nat)) (t : List Nat), H d = some (.frz o (.dT kvs)) ∧ kvs.map (·.1) = ts.map nk ∧ ts[i]? = some t,
   fun i H x H' => H' = H ∧ ∃ a, x = .ref a ∧ ∀ (kvs : List (List Key × V)) (ts : List (List Nat)), H d = some (.frz o (.dT kvs)) → kvs.map (·.1) = ts.map nk → ∃ t : List Nat, ts[i]? = some t ∧ H a = some (.tup (t.map nv)),
   fun i H => ∃ kvs, ∃ ts : List (List Nat), H d = some (.frz o (.dT kvs)) ∧ kvs.map (·.1) = ts.map nk ∧ ts.length ≤ i⟩
section
variable {X : Cx} {tg : Expr}
def Frozen (H : Hp) (d : Addr) (o : Obj) (kvs : List (List Key × V)) (H2 : Hp) : Prop := (H d = some (.frz o (.dT kvs)) ∧ H2 = H) ∨ (H d = some (.dT kvs) ∧ H2 = upd H d (.frz o (.dT kvs)))
def iDict (td : TE) : TI := fun σ H R => td σ H fun x H1 => ∃ d kvs, ∃ ts : List (List Nat), x = .ref d ∧ kvs.map (·.1) = ts.map nk ∧ (H1 d = some (.dT kvs) ∨ ∃ o, H1 d = some (.frz o (.dT kvs))) ∧ ∀ o H2, Frozen H1 d o kvs H2 → R (Itd d o) H2
end
section
variable {d : Addr} {o : Obj} {kvs : List (List Key × V)} {ts : List (List Nat)} {vs : List Str} {g : TG} {tt : TT} {te : TE} {σ : St} {H : Hp} {Fin : List V → Hp → Prop}
end
section
variable {d : Addr} {o : Obj} {kvs : List (List Key × V)} {ts : List (List Nat)} {g : TG} {tb : TS} {D : Ends} {σ : St} {H : Hp}
end
def Itm (hi : Int) (n : Nat) : It := ⟨fun i _ => i < n, fun i H x H' => H' = H ∧ x = .int (hi - i), fun i _ => n ≤ i⟩
section
variable {X : Cx} {tg : Expr}
def iDown (ta : TA) : TI := fun σ H R => ta σ H fun vs H1 => ∃ n : Nat, vs = [.int n, .int 0, .int (-1)] ∧ n < 4000 ∧ R (Itm n n) H1
end
section
variable {hi : Int} {n : Nat} {g : TG} {tb : TS} {D : Ends} {σ : St} {H : Hp}
end
end L2
namespace L2
open PySem PySem.Spec PyProof.Rows
section
variable {X : Cx} {pins : List (Addr × Obj)} {σ : St} {H : Hp} {s : Shared} {h' : Heap} {t' : Nat}
end
end L2
namespace L2
open PySem PySem.Spec PyProof.Rows
section
variable {P : Program} {w : World} {A : Around} {E : Value → Shared → Prop} {s : Shared}
abbrev tupIt (t : Addr) (i : Nat) : Obj := { cls := .type "tuple_iterator", data := .fields #[.ref t, .int i 0] }
end
end L2
namespace L2
open PySem PySem.Spec PyProof.Rows
section
variable {P : Program} {w : World} {A : Around} {E : Value → Shared → Prop} {s : Shared} {z TI TO i1 i2 t1 t2 : Addr} {i : Nat} {xs ys : Array Value}
structure ZipT (h : Heap) (z TI TO i1 i2 t1 t2 : Addr) (f0 : Value) (i : Nat) : Prop where
  zip : IsZip h z TI TO f0
  ins : IsPair h TI (.ref i1) (.ref i2)
  out : ∃ a b, IsPair h TO a b
  one : h.get? i1 = some (tupIt t1 i)
  two : h.get? i2 = some (tupIt t2 i)
end
end L2
namespace L2
open PySem PySem.Spec PyProof.Rows
def Itz (K : PySem.W.Frag) (t1 t2 : Addr) : It :=
  ⟨fun i H => ∃ xs ys x y, SqT K H t1 xs ∧ SqT K H t2 ys ∧ xs[i]? = some x ∧ ys[i]? = some y,
   fun i H v H' => ∃ T x y, v = .ref T ∧ H T = none ∧ H' = upd H T (.tup [x, y]) ∧ (∀ xs, SqT K H t1 xs → xs[i]? = some x) ∧ ∀ ys, SqT K H t2 ys → ys[i]? = some y,
   fun i H => ∃ xs ys, SqT K H t1 xs ∧ SqT K H t2 ys ∧ (xs.length ≤ i ∨ ys.length ≤ i)⟩
end L2
namespace L2
open PySem PySem.Spec PyProof.Rows
def zipUp (h : Heap) (a b : Addr) : Heap := ((((h.push (tupIt a 0)).push (tupIt b 0)).push { cls := .type "tuple", data := .seq #[.ref h.objs.size, .ref (h.objs.size + 1)] }).push { cls := .type "tuple", data := .seq #[.none, .none] }).push
  { cls := .type "zip", data := .fields #[.none, .bool false, .bool false, .ref (h.objs.size + 2), .ref (h.objs.size + 3)] }
section
variable {X : Cx}
def iZip (K : PySem.W.Frag) (ta : TA) : TI := fun σ H R => ta σ H fun vs H1 => ∃ t1 t2 xs ys, vs = [.ref t1, .ref t2] ∧ SqT K H1 t1 xs ∧ SqT K H1 t2 ys ∧ R (Itz K t1 t2) H1
end
end L2
namespace L2
open PySem PySem.Spec PyProof.Rows
structure ZipL (h : Heap) (z TI TO i1 i2 t1 t2 : Addr) (f0 : Value) (i : Nat) : Prop where
  zip : IsZip h z TI TO f0
  ins : IsPair h TI (.ref i1) (.ref i2)
  out : ∃ a b, IsPair h TO a b
  one : h.IsListIter i1 t1 i
  two : h.IsListIter i2 t2 i
def Itzl (K : PySem.W.Frag) (t1 t2 : Addr) : It :=
  ⟨fun i H => ∃ xs ys x y, SqL K H t1 xs ∧ SqL K H t2 ys ∧ xs[i]? = some x ∧ ys[i]? = some y,
   fun i H v H' => ∃ T x y, v = .ref T ∧ H T = none ∧ H' = upd H T (.tup [x, y]) ∧ (∀ xs, SqL K H t1 xs → xs[i]? = some x) ∧ ∀ ys, SqL K H t2 ys → ys[i]? = some y,
   fun i H => ∃ xs ys, SqL K H t1 xs ∧ SqL K H t2 ys ∧ (xs.length ≤ i ∨ ys.length ≤ i)⟩
section
variable {X : Cx}
def iZipL (K : PySem.W.Frag) (ta : TA) : TI := fun σ H R => ta σ H fun vs H1 => ∃ t1 t2 xs ys, vs = [.ref t1, .ref t2] ∧ SqL K H1 t1 xs ∧ SqL K H1 t2 ys ∧ R (Itzl K t1 t2) H1
end
end L2
namespace L2
open PySem PySem.Spec PyProof.Rows
def It2 (n : Nat) : It := ⟨fun i _ => i < n, fun i H x H' => H' = H ∧ x = .int (2 * (i : Int)), fun i _ => n ≤ i⟩
theorem turn_two {P : Program} {w : World} {K : PySem.W.Frag} {tg : Expr} (it : Addr) (n : Nat) : Turn P w K tg (It2 n) [it] it (fun i h => IsRangeIter h it (0 + (i : Nat) * 2) ((n : Int) - (i : Nat)) 2) where
  mem := by simp
  obj := fun i h st b hb => by
    have e : b = it := by simpa using hb
    subst e
    exact ⟨_, st, fun v z => by
      have z' : Data.fields _ = Data.cell v := z
      cases z'⟩
  keep := fun i h h' st k => k it (by simp) _ st
  item := by
    intro X hP hw hK hc i pins s σ H E I hf st hg
    subst hP hw hK
    obtain ⟨f0, f1, f2, f3, f4, f5⟩ := hf it (by simp)
    have W := Walks.range (prog := X.prog) (w := X.w) (I.ok.hd hc) it 0 2 n
    refine W.item i s _ _ hg st fun v h' tk hv st' kk => ?_
    obtain ⟨t, rfl⟩ := hv
    have I1 : Inv X pins σ H { s with heap := h', toks := tk } := I.turned (fun b o hb e => kk b o (by simpa using hb) e) f0 f1 f3 f4 f5
    refine ⟨_, rfl, go_of (s := { s with heap := h', toks := tk }) (n := "range_iterator") st' rfl rfl (by decide) ⟨.int (2 * (i : Int)), H, I1, ⟨t, ?_⟩, ⟨rfl, rfl⟩, st', fun b hb => (hf b hb).1⟩⟩
    congr 1
    omega
  done := by
    intro X hP hw hK hc i pins s σ H E I hf st hg
    subst hP hw hK
    obtain ⟨f0, f1, f2, f3, f4, f5⟩ := hf it (by simp)
    exact wpAny_pyNext_range_end (I.ok.hd hc) st (by have : n ≤ i := hg; omega) fun h' eb => ⟨rfl, I.turned (t' := s.toks) (fun b o hb e => eb b o hb e) f0 f1 f3 f4 f5⟩
  self := fun _ _ _ _ _ st h => wpAny_pyIter_rangeiter st h
section
variable {X : Cx} {tg : Expr}
def iStep2 (ta : TA) : TI := fun σ H R => ta σ H fun vs H1 => ∃ n : Nat, vs = [.int 0, .int n, .int 2] ∧ n < 4000 ∧ R (It2 ((n + 1) / 2)) H1
theorem pi_step2 {a b c : Expr} {ta : TA} {p pos : Pos} (hg : Gl X "range") (hm : X.mg "range" = none) (ha : PA X [a, b, c] ta) (hs : starEach [a, b, c] X.env = [(false, eval a X.env), (false, eval b X.env), (false, eval c X.env)] := by rfl) (hs2 : starEach [b, c] X.env = [(false, eval b X.env), (false, eval c X.env)] := by rfl) :
    PI X tg (.Call (.Name "range" p) [a, b, c] [] pos) (iStep2 ta) := by
  intro pins s σ H R I h
  refine Call_ (ld_blt I hg hm boot_range (PyProof.Rows.callWith_type1 (thn (ha pos pins s σ H _ I h) fun us s1 ⟨vs, H1, I1, r1, q1⟩ => ?_) (by rw [hs, hs2]) (by rw [hs2]; rfl)))
  obtain ⟨n, e, few, q⟩ := q1
  subst e
  obtain ⟨u1, u2, u3, rfl, ⟨t1, rfl⟩, ⟨t2, rfl⟩, ⟨t3, rfl⟩⟩ : ∃ u1 u2 u3, us = [u1, u2, u3] ∧ RelV (.int 0) u1 ∧ RelV (.int n) u2 ∧ RelV (.int 2) u3 := by
    cases r1 with
    | cons r rr =>
      cases rr with
      | cons r' rr =>
        obtain ⟨u3, rfl, r3⟩ := vals1 rr
        exact ⟨_, _, _, rfl, r, r', r3⟩
  have sz : Builtin.Range.rangeSize 0 n 2 = (((n + 1) / 2 : Nat) : Int) := by
    unfold Builtin.Range.rangeSize
    rw [if_pos (by decide)]
    split <;> omega
  refine call_range_3 (by decide) ?_
  refine wpAny_pyIter_range (IsRange.new ..) ?_ ?_
  · unfold Builtin.Range.small
    simp [Builtin.Range.rangeFitsLong, sz]
    omega
  have I2 : ∀ ob tk, Inv X pins σ H1 { s1 with heap := s1.heap.push ob, toks := tk } := fun ob tk => I1.kept (t' := tk) fun b o e => Heap.get?_push_of_some _ e
  refine ⟨_, [_], _, _, H1, rfl, (I2 _ _).kept (t' := _) (fun b o e => Heap.get?_push_of_some _ e), turn_two _ ((n + 1) / 2), ?_, fun b hb => ?_, q⟩
  · have e1 : (0 : Int) + ((0 : Nat) : Int) * 2 = 0 := by simp
    have e2 : (((n + 1) / 2 : Nat) : Int) - ((0 : Nat) : Int) = Builtin.Range.rangeSize 0 n 2 := by
      rw [sz]
      simp
    show IsRangeIter _ _ ((0 : Int) + ((0 : Nat) : Int) * 2) ((((n + 1) / 2 : Nat) : Int) - ((0 : Nat) : Int)) 2
    rw [e1, e2]
    exact Heap.get?_push_size _ rfl
  · rw [List.mem_singleton.mp hb]
    exact (I2 _ _).fpOk (Nat.le_refl _) ((I2 _ _).hok.fresh (Nat.le_refl _))
end
section
variable {n : Nat} {g : TG} {tb : TS} {D : Ends} {σ : St} {H : Hp}
theorem for_step2 (Pv : Nat → St → Hp → Prop) (h0 : Pv 0 σ H)
    (hs : ∀ i σ H, i < n → Pv i σ H → g (.int (2 * (i : Int))) σ H fun σ2 H2 => tb { D with nx := Pv (i + 1), ct := Pv (i + 1), bk := D.nx } σ2 H2) (hd : ∀ σ H, Pv n σ H → D.nx σ H) :
    ∃ W : Nat → Nat → St → Hp → Prop, (∃ m, W 0 m σ H) ∧ ∀ i m σ H, W i m σ H →
      ((It2 n).stop i H ∧ D.nx σ H) ∨ ((It2 n).go i H ∧ ∃ N : St → Hp → Prop, (∀ σ' H', N σ' H' → ∃ m', m' < m ∧ W (i + 1) m' σ' H') ∧ ∀ x H', (It2 n).yld i H x H' → g x σ H' fun σ2 H2 => tb { D with nx := N, ct := N, bk := D.nx } σ2 H2) := by
  refine ⟨fun i m σ H => m = n - i ∧ i ≤ n ∧ Pv i σ H, ⟨n, by simp, Nat.zero_le _, h0⟩, ?_⟩
  rintro i m σ H ⟨rfl, hi', p⟩
  by_cases hlt : i < n
  · refine .inr ⟨hlt, Pv (i + 1), fun σ' H' p' => ⟨n - (i + 1), by omega, rfl, hlt, p'⟩, fun x H' y => ?_⟩
    obtain ⟨e, y⟩ := y
    subst e y
    exact hs i σ _ hlt p
  · have e : i = n := by omega
    subst e
    exact .inl ⟨Nat.le_refl _, hd σ H p⟩
end
end L2
namespace L2
open PySem PySem.Spec PyProof.Rows
theorem ints_of : ∀ {ns : List Int} {its : List Value}, Vals (ns.map V.int) its → ∃ zs : List (Int × Tok), zs.map (·.1) = ns ∧ its = zs.map fun p => Value.int p.1 p.2
  | [], _, h => by
    cases h
    exact ⟨[], rfl, rfl⟩
  | n :: ns, _, h => by
    cases h with
    | cons h1 h2 =>
      obtain ⟨t, rfl⟩ := h1
      obtain ⟨zs, e1, rfl⟩ := ints_of h2
      exact ⟨(n, t) :: zs, by rw [List.map_cons, e1], rfl⟩
section
variable {X : Cx}
def rMaxL (K : PySem.W.Frag) : List V → Hp → VK → Prop := fun xs H Q => ∃ (p : Addr) (ns : List Int), xs = [.ref p] ∧ SqL K H p (ns.map V.int) ∧ ns ≠ [] ∧ ∀ M, M ∈ ns → (∀ a ∈ ns, a ≤ M) → Q (.int M) H
def rMinL (K : PySem.W.Frag) : List V → Hp → VK → Prop := fun xs H Q => ∃ (p : Addr) (ns : List Int), xs = [.ref p] ∧ SqL K H p (ns.map V.int) ∧ ns ≠ [] ∧ ∀ M, M ∈ ns → (∀ a ∈ ns, M ≤ a) → Q (.int M) H
theorem best_at {zs : List (Int × Tok)} {k : Nat} {v : Value} (h : (intItems zs.toArray)[k]? = some v) : ∃ t, v = .int (numAt zs.toArray k) t ∧ numAt zs.toArray k ∈ zs.map (·.1) := by
  have h' : (zs.map fun p => Value.int p.1 p.2)[k]? = some v := by simpa [intItems] using h
  rw [List.getElem?_map] at h'
  obtain ⟨⟨n, t⟩, e, rfl⟩ := Option.map_eq_some_iff.mp h'
  have e2 : numAt zs.toArray k = n := by
    rw [numAt_eq, List.getD_eq_getElem?_getD, List.getElem?_map]
    show (Option.map _ zs[k]?).getD 0 = n
    rw [e]
    rfl
  rw [e2]
  exact ⟨t, rfl, List.mem_map.mpr ⟨_, List.mem_of_getElem? e, rfl⟩⟩
theorem num_at {zs : List (Int × Tok)} {a : Int} (h : a ∈ zs.map (·.1)) : ∃ j, j < zs.length ∧ numAt zs.toArray j = a := by
  obtain ⟨j, e⟩ := List.mem_iff_getElem?.mp h
  refine ⟨j, by have := (List.getElem?_eq_some_iff.mp e).1; simpa using this, ?_⟩
  rw [numAt_eq, List.getD_eq_getElem?_getD]
  show ((List.map _ zs)[j]?).getD 0 = a
  rw [e]
  rfl
def rRange2 : List V → Hp → VK → Prop := fun xs H Q => ∃ i j : Int, xs = [.int i, .int j] ∧ ∀ p, H p = none → Q (.ref p) (upd H p (.rng i j))
def rangeF (i : Int) (n : Nat) : List V := (List.range n).map fun (k : Nat) => V.int (i + (k : Nat))
def rListRng2 : List V → Hp → VK → Prop := fun xs H Q => ∃ p i j, xs = [.ref p] ∧ H p = some (.rng i j) ∧ 0 ≤ i ∧ i ≤ j ∧ j ≤ 1000000 ∧ ∀ l, H l = none → Q (.ref l) (upd H l (.lst (rangeF i (j - i).toNat)))
def rLtTn (K : PySem.W.Frag) : R2 := fun x y H Q => ∃ (p q : Addr) (ps qs : List Nat), x = .ref p ∧ y = .ref q ∧ SqT K H p (ps.map nv) ∧ SqT K H q (qs.map nv) ∧ Q (.bl (ltl ps qs)) H
end
end L2
namespace L2
open PySem PySem.Spec PyProof.Rows
section
variable {X : Cx}
def rMaxT (K : PySem.W.Frag) : List V → Hp → VK → Prop := fun xs H Q => ∃ (p : Addr) (ns : List Int), xs = [.ref p] ∧ SqT K H p (ns.map V.int) ∧ ns ≠ [] ∧ ∀ M, M ∈ ns → Q (.int M) H
end
end L2
namespace L2
open PySem PySem.Spec PyProof.Rows
section
variable {X : Cx}
theorem tup_most {pins : List (Addr × Obj)} {s : Shared} {σ : St} {H : Hp} {p : Addr} {ns : List Int} (hc : X.calm = true) (I : Inv X pins σ H s) (hp : SqT X.K H p (ns.map V.int)) (ne : ns ≠ []) (E : Value → Shared → Prop)
    {Q : Value → Shared → Prop} (q : ∀ M s' t, M ∈ ns → (∀ a ∈ ns, a ≤ M) → Inv X pins σ H s' → Q (.int M t) s') :
    wpAny (model X.prog X.w) X.A.in1 (pyIter (.ref p)) (fun it s₂ => ∃ I fp wr n P St bt, it = .ref I ∧ Walks X.prog X.w X.A.in1 I fp wr n P St ∧ St 0 s₂.heap ∧ (∀ b ∈ fp, b < s₂.heap.objs.size) ∧ 0 < n ∧ CmpOf X.prog X.w X.A.in1 .Gt P bt ∧
      ∀ v h' tk, P (argBest bt (n - 1)) v → (∀ b o, b ∉ wr → s₂.heap.get? b = some o → h'.get? b = some o) → Q v { s₂ with heap := h', toks := tk }) E s := by
  obtain ⟨its, rv, pl, _⟩ := I.tuple hp
  obtain ⟨zs, rfl, rfl⟩ := ints_of rv
  have pos : 0 < zs.length := by
    cases zs with
    | nil => exact absurd rfl ne
    | cons => simp
  have ei : (zs.map fun p => Value.int p.1 p.2).toArray = intItems zs.toArray := by simp [intItems]
  rw [ei] at pl
  have lt : p < s.heap.objs.size := let ⟨_, e, _⟩ := pl; Heap.lt_size e
  refine wpAny_pyIter_tuple pl ⟨s.heap.objs.size, _, _, _, _, _, _, rfl, Walks.tuple (A := X.A.in1) (by simpa using I.ok.hd hc) _ p (Nat.ne_of_lt lt) _, ⟨⟨_, Heap.get?_push_size _ rfl, rfl, rfl⟩, pl.push _⟩, fun b hb => ?_, by simpa [intItems] using pos, CmpOf.ints_gt (numAt zs.toArray) (fun _ _ => intItems_at), fun v h' tk hv hk => ?_⟩
  · show b < (s.heap.push _).objs.size
    rw [Heap.size_push]
    rcases List.mem_cons.mp hb with rfl | hb
    · exact Nat.lt_succ_self _
    · rw [List.mem_singleton.mp hb]
      exact Nat.lt_succ_of_lt lt
  · obtain ⟨t, rfl, mem⟩ := best_at hv
    obtain ⟨_, b2⟩ := argBest_gt (numAt zs.toArray) ((intItems zs.toArray).size - 1)
    refine q _ _ t mem (fun a ha => by
      obtain ⟨j, hj, rfl⟩ := num_at ha
      exact b2 j (by simp [intItems]; omega)) (I.kept fun b o e => hk b o (fun z => ?_) (Heap.get?_push_of_some _ e))
    rw [List.mem_singleton.mp z] at e
    exact absurd (Heap.lt_size e) (Nat.lt_irrefl _)
def rMaxM (K : PySem.W.Frag) : List V → Hp → VK → Prop := fun xs H Q => ∃ (p : Addr) (ns : List Int), xs = [.ref p] ∧ SqT K H p (ns.map V.int) ∧ ns ≠ [] ∧ ∀ M, M ∈ ns → (∀ a ∈ ns, a ≤ M) → Q (.int M) H
theorem call_maxM (hc : X.calm = true) : CallR X (.builtin "max") (rMaxM X.K) := by
  intro pins s σ H xs us Q I r h
  obtain ⟨p, ns, rfl, hp, ne, q⟩ := h
  obtain ⟨u, rfl, ru⟩ := vals1 r
  cases ru
  exact call_max_walk (tup_most hc I hp ne _ fun M s' t mem mx I' => ⟨.int M, H, I', ⟨t, rfl⟩, q M mem mx⟩)
end
end L2
namespace L2
open PySem PySem.Spec PySem.W PyProof.Rows
section
variable {P : Program} {w : World} {A : Around} {E : Value → Shared → Prop} {s : Shared}
end
def tDInN (ty td : TE) : TE := fun σ H Q => ty σ H fun y H1 => td σ H1 fun x H2 => ∃ a kvs, y = .non ∧ x = .ref a ∧ Rd H2 a (.dT kvs) ∧ Q (.bl false) H2
section
variable {X : Cx}
def rIndexT (K : PySem.W.Frag) : V → List V → Hp → VK → Prop := fun x vs H Q => ∃ (l : Addr) (ns : List Int) (i : Int), x = .ref l ∧ vs = [.int i] ∧ SqT K H l (ns.map V.int) ∧ i ∈ ns ∧ Q (.int (ns.idxOf i : Nat)) H
end
def tBMT (r : V → List V → Hp → VK → Prop) (to : TE) (t : TA) : TE := fun σ H Q => to σ H fun x H1 => (∃ p xs, x = .ref p ∧ H1 p = some (.tup xs)) ∧ t σ H1 fun ys H2 => r x ys H2 Q
section
variable {P : Program} {w : World} {A : Around} {E : Value → Shared → Prop} {s : Shared} {vs : List Value}
end
section
variable {X : Cx}
def rSortIL (K : PySem.W.Frag) : List V → Hp → VK → Prop := fun xs H Q => ∃ (p : Addr) (ns : List Int), xs = [.ref p] ∧ SqL K H p (ns.map V.int) ∧ ns.length < 64 ∧ ∀ (D : Addr) (js : List Int), H D = none → js.Perm ns → js.Pairwise (· ≤ ·) → Q (.ref D) (upd H D (.lst (js.map V.int)))
end
end L2
namespace L2
open PySem PySem.Spec PyProof.Rows
def sgn (c : Nat) : Str := ⟨#[c]⟩
def Its (x : Str) : It := ⟨fun i _ => i < x.cps.size, fun i H v H' => H' = H ∧ ∃ c, x.cps[i]? = some c ∧ v = .str (sgn c), fun i _ => x.cps.size ≤ i⟩
theorem turn_ascii {P : Program} {w : World} {K : PySem.W.Frag} {tg : Expr} (it : Addr) (x : Str) (t : Tok) : Turn P w K tg (Its x) [it] it (fun i h => h.IsStrIter it "str_ascii_iterator" x t i) where
  mem := by simp
  obj := fun i h st b hb => by
    have e : b = it := by simpa using hb
    subst e
    obtain ⟨o, e, c, d⟩ := st
    exact ⟨o, e, fun v z => by rw [d] at z; cases z⟩
  keep := fun i h h' st k => let ⟨o, e, r⟩ := st; ⟨o, k it (by simp) o e, r⟩
  item := by
    intro X hP hw hK hc i pins s σ H E I hf st hg
    subst hP hw hK
    obtain ⟨f0, f1, f2, f3, f4, f5⟩ := hf it (by simp)
    have hg' : i < x.cps.size := hg
    have hx : x.cps[i]? = some (x.cps[i]'hg') := Array.getElem?_eq_getElem hg'
    refine wpAny_pyNext_ascii_item st hx fun h' st' sb => ?_
    have I1 : Inv X pins σ H { s with heap := h', toks := s.toks + 1 } := I.turned (t' := s.toks + 1) (fun b o hb e => (sb.2 b hb).trans e) f0 f1 f3 f4 f5
    obtain ⟨o, e, c, d⟩ := id st'
    exact ⟨_, rfl, go_of (s := { s with heap := h', toks := s.toks + 1 }) e c d (by decide) ⟨.str (sgn (x.cps[i]'hg')), H, I1, ⟨_, rfl⟩, ⟨rfl, _, hx, rfl⟩, st', fun b hb => (hf b hb).1⟩⟩
  done := by
    intro X hP hw hK hc i pins s σ H E I hf st hg
    subst hP hw hK
    obtain ⟨f0, f1, f2, f3, f4, f5⟩ := hf it (by simp)
    exact wpAny_pyNext_ascii_end (I.ok.hd hc) st (by simp only [Array.getElem?_eq_none_iff]; exact hg) fun h' eb => ⟨rfl, I.turned (t' := s.toks) (fun b o hb e => eb b o hb e) f0 f1 f3 f4 f5⟩
  self := fun _ _ _ _ _ st h => wpAny_pyIter_striter_ascii st h
section
variable {X : Cx} {tg : Expr}
def Asc (x : Str) : Prop := x.cps.all (· < 128) = true
def iStr (te : TE) : TI := fun σ H R => te σ H fun v H1 => ∃ x, v = .str x ∧ Asc x ∧ R (Its x) H1
theorem pi_str {l : Expr} {tl : TE} (hl : PE X l tl) : PI X tg l (iStr tl) := by
  intro pins s σ H R I h
  refine thn (hl pins s σ H _ I h) fun u s1 ⟨v, H1, I1, r1, x, e, ax, q⟩ => ?_
  subst e
  obtain ⟨t, rfl⟩ := r1
  refine wpAny_pyIter_ascii ax ?_
  refine ⟨_, [_], _, _, H1, rfl, I1.kept (t' := s1.toks) (fun b o e => Heap.get?_push_of_some _ e), turn_ascii _ x t, ⟨_, Heap.get?_push_size _ rfl, rfl, rfl⟩, fun b hb => ?_, q⟩
  rw [List.mem_singleton.mp hb]
  exact I1.fpOk (Nat.le_refl _) (I1.hok.fresh (Nat.le_refl _))
end
section
variable {vs : List Str} {g : TG} {tt : TT} {te : TE} {σ : St} {H : Hp} {Fin : List V → Hp → Prop}
theorem comp_str {x : Str} (Pv : Nat → List V → Hp → Prop) (hz : x.length ≤ sizeLine) (h0 : Pv 0 [] H) (hl : ∀ i ys H, i ≤ x.length → Pv i ys H → ys.length ≤ i)
    (hs : ∀ i c ys H, x.cps.toList[i]? = some c → Pv i ys H → g (.str (sgn c)) (compSt vs σ) H fun σ2 H2 => Keep0 (compSt vs σ) σ2 ∧ tt σ2 H2 fun b H3 => if b = true then te σ2 H3 fun y H4 => Pv (i + 1) (ys ++ [y]) H4 else Pv (i + 1) ys H3)
    (hd : ∀ ys H, Pv x.length ys H → Fin ys H) : CompW vs g tt te σ (Its x) H Fin := by
  refine ⟨fun i m ys H => m = x.length - i ∧ i ≤ x.length ∧ Pv i ys H, ⟨x.length, by simp, Nat.zero_le _, h0⟩, ?_⟩
  rintro i m ys H ⟨rfl, hi, p⟩
  have hy := hl i ys H hi p
  by_cases hlt : i < x.length
  · refine .inr ⟨hlt, by omega, Pv (i + 1), fun zs H' p' => ⟨x.length - (i + 1), by omega, rfl, hlt, p'⟩, fun v H' y => ?_⟩
    obtain ⟨e, c, hc, y⟩ := y
    subst e y
    exact hs i c ys _ (by simpa using hc) p
  · have e : i = x.length := by omega
    subst e
    exact .inl ⟨Nat.le_refl _, by omega, hd ys H p⟩
theorem map_str {x : Str} {n : Str} {f : Nat → V} (hz : x.length ≤ sizeLine) (hs : ∀ c (Q : VK), c ∈ x.cps.toList → Q (f c) H → te (some (.str (sgn c)) :: σ) H Q) (hd : Fin (x.cps.toList.map f) H) :
    CompW [n] (gName 0) tYes te σ (Its x) H Fin := by
  have ex : x.cps.toList.length = x.length := by simp [Str.length]
  refine comp_str (fun i ys H' => H' = H ∧ ys = (x.cps.toList.take i).map f) hz ⟨rfl, rfl⟩ (fun i ys H' hi ⟨e, ey⟩ => ?_) (fun i c ys H' hv ⟨e, ey⟩ => ⟨keep_one, ?_⟩) (fun ys H' ⟨e, ey⟩ => ?_)
  · subst e ey
    simp
    omega
  · subst e ey
    refine yes_of (hs c _ (List.mem_of_getElem? hv) ⟨rfl, ?_⟩)
    rw [List.take_add_one, hv, List.map_append]
    rfl
  · subst e ey
    rw [← ex, List.take_length]
    exact hd
end
section
variable {X : Cx}
def rPart : V → List V → Hp → VK → Prop := fun x vs H Q => ∃ (z y : Str), x = .str z ∧ vs = [.str y] ∧ y.length ≠ 0 ∧ z.length ≤ sizeLine ∧ ∀ p, H p = none → Q (.ref p) (upd H p (.tup [.str (Txt.partition z y).1, .str (Txt.partition z y).2.1, .str (Txt.partition z y).2.2]))
theorem mt_part : MtR X "str.partition" rPart := by
  intro pins s σ H x vs v us Q I rx rv h
  obtain ⟨z, y, rfl, rfl, hy, hz, q⟩ := h
  obtain ⟨t, rfl⟩ := rx
  obtain ⟨u, rfl, ru⟩ := rv.one
  obtain ⟨t2, rfl⟩ := ru
  have told := q _ (I.hok.fresh (Nat.le_refl s.heap.objs.size))
  have three : ∀ {a b c : Str} {ta tb tc : Tok} {k : Nat}, Txt.partition z y = (a, b, c) → EP X pins σ Q (.ref s.heap.objs.size) { s with toks := k, heap := s.heap.push { cls := .type "tuple", data := .seq [Value.str a ta, .str b tb, .str c tc].toArray } } := fun {a b c ta tb tc k} e => by
    rw [e] at told
    refine ⟨.ref s.heap.objs.size, _, I.laid (t' := k) (fun b u e => Heap.get?_push_of_some _ e) (Nat.le_refl _) ?_, rfl, told⟩
    exact ⟨by show 3 ≤ sizeLine; decide, _, .cons ⟨ta, rfl⟩ (.cons ⟨tb, rfl⟩ (.cons ⟨tc, rfl⟩ .nil)), _, Heap.get?_push_size _ rfl, rfl, _, rfl, rfl⟩
  refine call_meets F.slot_str_partition (typeIs_str s z t) F.entry_str_partition (F.args_str_partition_2 _ _) (meets_str_partition z y t t2 (beq_false_of_ne hy) hz) ?_
  rcases e : Builtin.Str.occurrences z y 0 z.length 1 with _ | ⟨i, _⟩
  · exact three (by unfold Txt.partition; rw [e])
  · exact three (by unfold Txt.partition; rw [e])
theorem vals_strs : ∀ (l : List (Str × Tok)), Vals ((l.map (·.1)).map V.str) (strValues l)
  | [] => .nil
  | p :: r => .cons ⟨p.2, rfl⟩ (vals_strs r)
def rSplit : V → List V → Hp → VK → Prop := fun x vs H Q => ∃ (z y : Str), x = .str z ∧ vs = [.str y] ∧ y.length ≠ 0 ∧ z.length + 2 ≤ sizeLine ∧ ∀ p, H p = none → Q (.ref p) (upd H p (.lst ((Txt.split z y).map V.str)))
theorem split_new {P : Program} {w : World} {A : Around} {E : Value → Shared → Prop} {s : Shared} {z y : Str} {t t2 : Tok} {Q : Value → Shared → Prop} (hy : y.length ≠ 0) (hz : z.length + 2 ≤ sizeLine)
    (go : ∀ (l : List (Str × Tok)) (tk : Nat), l.map (·.1) = Txt.split z y → Q (.ref s.heap.objs.size) { s with toks := tk, heap := s.heap.push { cls := .type "list", data := .seq (strValues l).toArray } }) :
    wpAny (model P w) A (call (.builtin "str.split") [.str z t, .str y t2]) Q E s := by
  have way : ∀ {S : PySem.Spec}, Meets (Builtin.«str.split» ⟨[.str z t, .str y t2], []⟩) S → S A (wants Q E) s → wpAny (model P w) A (call (.builtin "str.split") [.str z t, .str y t2]) Q E s := fun m h =>
    call_meets F.slot_str_split (typeIs_str s z t) F.entry_str_split (F.args_str_split_2 _ _) m h
  have alone : Txt.split z y = [z] → listOfItself z t A (wants Q E) s := fun e => go [(z, t)] s.toks e.symm
  have few : (Txt.split z y).length ≤ sizeLine := Nat.le_trans (split_le z y) hz
  by_cases no : (decide (z.length < y.length) || decide (Builtin.Str.strKind z < Builtin.Str.strKind y)) = true
  · exact way (meets_str_split_cannot_occur z y t t2 no) (alone (by unfold Txt.split; rw [if_pos no]))
  by_cases nil : (Builtin.Str.occurrences z y 0 z.length (z.length + 1)).isEmpty = true
  · exact way (meets_str_split_not_found z y t t2 (Bool.eq_false_iff.mpr no) (beq_false_of_ne hy) nil) (alone (by unfold Txt.split; rw [if_neg no, if_pos nil]))
  have is : Txt.split z y = Builtin.Str.partsBetween z (Builtin.Str.occurrences z y 0 z.length (z.length + 1)) y.length := by unfold Txt.split; rw [if_neg no, if_neg nil]
  refine way (meets_str_split_sep z y t t2 (Bool.eq_false_iff.mpr no) (beq_false_of_ne hy) (Bool.eq_false_iff.mpr nil) (by omega) (is ▸ few)) ?_
  rw [← is, strsFrom_eq]
  exact go (numbered s.toks (Txt.split z y)) _ (numbered_texts _ _)
theorem mt_split : MtR X "str.split" rSplit := by
  intro pins s σ H x vs v us Q I rx rv h
  obtain ⟨z, y, rfl, rfl, hy, hz, q⟩ := h
  obtain ⟨t, rfl⟩ := rx
  obtain ⟨u, rfl, ru⟩ := rv.one
  obtain ⟨t2, rfl⟩ := ru
  refine split_new hy hz fun l tk e => ⟨.ref s.heap.objs.size, _, I.laid (t' := tk) (fun b u e => Heap.get?_push_of_some _ e) (Nat.le_refl _) ?_, rfl, q _ (I.hok.fresh (Nat.le_refl _))⟩
  refine ⟨?_, strValues l, 0, ?_, Heap.get?_push_size _ rfl⟩
  · rw [List.length_map]
    exact Nat.le_trans (split_le z y) hz
  · rw [← e]
    exact vals_strs l
end
def evs : List Nat → List Nat
  | a :: _ :: r => a :: evs r
  | [a] => [a]
  | [] => []
theorem evs_range : ∀ m : List Nat, (List.range ((m.length + 1) / 2)).filterMap (fun k => m[2 * k]?) = evs m
  | [] => rfl
  | [a] => by simp [evs, List.range_succ]
  | a :: b :: r => by
    have e : ((a :: b :: r).length + 1) / 2 = (r.length + 1) / 2 + 1 := by
      show (r.length + 1 + 1 + 1) / 2 = _
      omega
    rw [e, List.range_succ_eq_map, List.filterMap_cons, List.filterMap_map]
    show a :: _ = a :: evs r
    rw [← evs_range r]
    congr 1
theorem fm_congr {α β : Type} {f g : α → Option β} : ∀ {l : List α}, (∀ x ∈ l, f x = g x) → l.filterMap f = l.filterMap g
  | [], _ => rfl
  | a :: l, h => by rw [List.filterMap_cons, List.filterMap_cons, h a (List.mem_cons_self ..), fm_congr fun x hx => h x (List.mem_cons_of_mem _ hx)]
theorem sliceBy_two {x : Str} {i : Int} {ui uk : Tok} (hi : 0 ≤ i) : Txt.sliceBy x (some (i, ui)) none (2, uk) = ⟨(evs (x.cps.toList.drop i.toNat)).toArray⟩ := by
  unfold Txt.sliceBy
  rw [if_neg (by simp)]
  congr 2
  have hs : slicePicked x (some (i, ui)) none (some (2, uk)) = (List.range ((x.cps.toList.length - i.toNat + 1) / 2)).map fun k => min i.toNat x.cps.toList.length + 2 * k := by
    unfold slicePicked Builtin.Str.strSliceIndices sliceRange
    have e : x.cps.toList.length = x.length := by simp [Str.length]
    simp only [Option.map_some, Option.map_none, Option.getD_some]
    have hl : ¬ i < 0 := by omega
    rw [if_neg hl, e]
    simp only [show ((2 : Int) > 0) = True from by simp, if_true]
    have h1 : max 0 (min i (x.length : Int)) = ((min i.toNat x.length : Nat) : Int) := by omega
    rw [h1]
    have hc : (if ((min i.toNat x.length : Nat) : Int) < (x.length : Int) then ((x.length : Int) - ((min i.toNat x.length : Nat) : Int) + 2 - 1) / 2 else 0).toNat = (x.length - i.toNat + 1) / 2 := by
      split <;> omega
    rw [hc]
    refine List.map_congr_left fun k _ => ?_
    omega
  rw [hs, List.filterMap_map, ← evs_range, List.length_drop]
  refine fm_congr fun k hk => ?_
  have hk' := List.mem_range.mp hk
  show x.cps[min i.toNat x.cps.toList.length + 2 * k]? = _
  rw [List.getElem?_drop, ← Array.getElem?_toList]
  congr 1
  omega
theorem look_str_int : typeLookup (.type "str") "__int__" = pure none := by rw [typeLookup_type, builtinLookup_eq_fast]; kernel_rfl
theorem look_str_index : typeLookup (.type "str") "__index__" = pure none := by rw [typeLookup_type, builtinLookup_eq_fast]; kernel_rfl
theorem look_str_trunc : typeLookup (.type "str") "__trunc__" = pure none := by rw [typeLookup_type, builtinLookup_eq_fast]; kernel_rfl
theorem wp_eq {α : Type} {M : Model} {A : Around} {E : Value → Shared → Prop} {s : Shared} {t t' : Sem α} {Q : α → Shared → Prop} (h : t = t') (q : wpAny M A t' Q E s) : wpAny M A t Q E s := h ▸ q
theorem meets_int_new_str {d : Nat} (hd : d < 10) (t : Tok) : Meets (Builtin.«int.__new__» ⟨[.type "int", .str (⟨#[48 + d]⟩ : Str) t], []⟩) (Made.int (d : Int)).spec :=
  Meets.of_wp fun prog w A R s hs => by
    obtain ⟨hp, g, dr, tk, os⟩ := s
    have f1 := F.conv_sub_int
    have f2 := F.madeHere_int
    have hT : (⟨hp, g, dr, tk, os⟩ : Shared).TypeIs (.str (⟨#[48 + d]⟩ : Str) t) "str" := rfl
    have f3 := look_str_int
    have f4 := look_str_index
    have f5 := look_str_trunc
    repeat (any_goals (first | assumption | wp_step))
    have ten : d = 0 ∨ d = 1 ∨ d = 2 ∨ d = 3 ∨ d = 4 ∨ d = 5 ∨ d = 6 ∨ d = 7 ∨ d = 8 ∨ d = 9 := by omega
    rcases ten with rfl | rfl | rfl | rfl | rfl | rfl | rfl | rfl | rfl | rfl
    · exact wp_eq (t' := mkInt 0) (by kernel_rfl) (wpAny_mkInt (show wpAny _ _ (ret _) _ _ _ from wpAny_pure ⟨_, rfl, hs⟩))
    · exact wp_eq (t' := mkInt 1) (by kernel_rfl) (wpAny_mkInt (show wpAny _ _ (ret _) _ _ _ from wpAny_pure ⟨_, rfl, hs⟩))
    · exact wp_eq (t' := mkInt 2) (by kernel_rfl) (wpAny_mkInt (show wpAny _ _ (ret _) _ _ _ from wpAny_pure ⟨_, rfl, hs⟩))
    · exact wp_eq (t' := mkInt 3) (by kernel_rfl) (wpAny_mkInt (show wpAny _ _ (ret _) _ _ _ from wpAny_pure ⟨_, rfl, hs⟩))
    · exact wp_eq (t' := mkInt 4) (by kernel_rfl) (wpAny_mkInt (show wpAny _ _ (ret _) _ _ _ from wpAny_pure ⟨_, rfl, hs⟩))
    · exact wp_eq (t' := mkInt 5) (by kernel_rfl) (wpAny_mkInt (show wpAny _ _ (ret _) _ _ _ from wpAny_pure ⟨_, rfl, hs⟩))
    · exact wp_eq (t' := mkInt 6) (by kernel_rfl) (wpAny_mkInt (show wpAny _ _ (ret _) _ _ _ from wpAny_pure ⟨_, rfl, hs⟩))
    · exact wp_eq (t' := mkInt 7) (by kernel_rfl) (wpAny_mkInt (show wpAny _ _ (ret _) _ _ _ from wpAny_pure ⟨_, rfl, hs⟩))
    · exact wp_eq (t' := mkInt 8) (by kernel_rfl) (wpAny_mkInt (show wpAny _ _ (ret _) _ _ _ from wpAny_pure ⟨_, rfl, hs⟩))
    · exact wp_eq (t' := mkInt 9) (by kernel_rfl) (wpAny_mkInt (show wpAny _ _ (ret _) _ _ _ from wpAny_pure ⟨_, rfl, hs⟩))
section
variable {X : Cx}
theorem call_int_fig : CallR X (.type "int") (fun xs H Q => ∃ d : Nat, xs = [.str (sgn (48 + d))] ∧ d < 10 ∧ Q (.int (d : Int)) H) := by
  intro pins s σ H xs us Q I r h
  obtain ⟨d, rfl, hd, q⟩ := h
  obtain ⟨u, rfl, ru⟩ := vals1 r
  obtain ⟨t, rfl⟩ := ru
  exact call_int_1 (meets_int_new_str hd t) (show (Made.int (d : Int)).post _ s from ⟨rfl, .int (d : Int), H, I.tok _, ⟨_, rfl⟩, q⟩)
def jTxt (te : TE) (t : TJ) : TJ := fun out σ H Q => te σ H fun v H1 => ∃ x : Str, v = .str x ∧ x.length ≤ sizeLine ∧ (out ++ x).length ≤ sizeLine ∧ t (out ++ x) σ H1 Q
def tSlS (te tl ts : TE) : TE := fun σ H Q => te σ H fun x H1 => tl σ H1 fun l H2 => ts σ H2 fun k H3 => ∃ (z : Str) (i : Int), x = .str z ∧ l = .int i ∧ k = .int 2 ∧ 0 ≤ i ∧ z.length ≤ sizeLine ∧ Q (.str ⟨(evs (z.cps.toList.drop i.toNat)).toArray⟩) H3
theorem pe_slice2 {e lo st : Expr} {te tl ts : TE} {pos p2 : Pos} (he : PE X e te) (hl : PE X lo tl) (hk : PE X st ts) : PE X (.Subscript e (.Slice (some lo) none (some st) p2) pos) (tSlS te tl ts) := by
  intro pins s σ H Q I h
  refine Subscript_ (thn (he pins s σ H _ I h) fun v s1 ⟨x, H1, I1, r1, q1⟩ => ?_)
  refine wpAny_Slice ?_
  rw [evalPart_some, evalPart_none]
  refine thn (hl pins s1 σ H1 _ I1 q1) fun vl s2 ⟨l, H2, I2, rl, q2⟩ => wpAny_pure ?_
  rw [evalPart_some]
  refine thn (hk pins s2 σ H2 _ I2 q2) fun vk s3 ⟨k, H3, I3, rk, q3⟩ => ?_
  obtain ⟨z, i, rfl, rfl, rfl, hi, hz, q⟩ := q3
  obtain ⟨t, rfl⟩ := r1
  obtain ⟨ti, rfl⟩ := rl
  obtain ⟨tk, rfl⟩ := rk
  have I4 : ∀ t', Inv X pins σ H3 { s3 with heap := s3.heap.push { cls := .type "slice", data := .fields #[.int i ti, .none, .int 2 tk] }, toks := t' } := fun t' => I3.kept (t' := t') fun b ob q => Heap.get?_push_of_some _ q
  show wpAny (model X.prog X.w) X.A (subscriptTail e (.Slice (some lo) none (some st) p2) (.str z t) (.ref s3.heap.objs.size)) (EP X pins σ Q) X.xe { s3 with heap := s3.heap.push { cls := .type "slice", data := .fields #[.int i ti, .none, .int 2 tk] } }
  refine tail_any (ops := [.ref s3.heap.objs.size, .str z t]) (T := "str") (typeIs_str _ _ _) F.slot_str_getitem.lookup ?_ (by with_unfolding_all rfl)
  refine wpAny_getItem_str_slice (l := some (i, ti)) (u := none) (st := some (2, tk)) ⟨_, Heap.get?_push_size _ rfl, rfl, rfl⟩ rfl ?_
  refine post_val_or_str ⟨Nat.le_trans (Txt.sliceBy_le z _ _ (2, tk) (show (2 : Int) ≠ 0 by decide)) hz, fun t' c => ?_⟩
  have e2 := sliceBy_two (x := z) (ui := ti) (uk := tk) hi
  unfold Txt.sliceBy at e2
  refine ⟨.str ⟨(evs (z.cps.toList.drop i.toNat)).toArray⟩, H3, I4 _, ⟨t', ?_⟩, q⟩
  rw [← e2]
end
section
variable {X : Cx} {o e : Expr} {to te : TE} {t : TA} {es : List Expr} {name : Str} {apos cpos pos : Pos} {T id : String} {r : V → List V → Hp → VK → Prop}
theorem qe_bm (pa : PlainAttrs T) (slot : Slot T name id) (hty : typeOf (.builtin id) = pure (.type "method_descriptor")) (hm : MtR X id r) (ho : QE X o to) (ha : PL X (e :: es) t)
    (hbase : attributeBase o name X.env (eval o X.env) = eval o X.env := by rfl)
    (hfew : ((backTo cpos (starEach (e :: es) X.env)).all (fun x => !x.1) && (backToKw cpos (keywordEach [] X.env)).all (fun x => x.1.isSome)
      && decide ((e :: es).length + ([] : List Keyword).length + (if ([] : List Keyword).isEmpty then 0 else 1) < 30)) = true := by rfl)
    (hline : (apos.endLine == cpos.line) = true := by rfl) (hs : starEach (e :: es) X.env = (false, eval e X.env) :: starEach es X.env := by rfl) (hplain : (backTo cpos (starEach es X.env)).any (·.1) = false := by rfl) :
    QE X (.Call (.Attribute o name apos) (e :: es) [] cpos) (tBM X.K T r to t) := ⟨pe_bm pa slot hty hm ho.pe ha.pa hbase hfew hline hs hplain⟩
end
end L2
namespace L2
open PySem PySem.Spec PyProof.Rows
def addS (acc : List Str) (x : Str) : List Str := if x ∈ acc then acc else acc ++ [x]
def ones (xs : List Str) : List Str := xs.foldl addS []
def IsSetS (P : Program) (w : World) (h : Heap) (a : Addr) (acc : List Str) : Prop := h.SetOf (strKind P w) a (fun k => decide (k ∈ acc)) acc.length
section
variable {P : Program} {w : World} {A : Around} {E : Value → Shared → Prop} {S it l : Addr} {xs : List Str} {vs : List Value}
theorem IsSetS.ext {h h' : Heap} {acc : List Str} (hS : IsSetS P w h S acc) (k : ∀ o, h.get? S = some o → h'.get? S = some o) : IsSetS P w h' S acc := by
  obtain ⟨o, es, ep, t, ho, r⟩ := hS
  exact ⟨o, es, ep, t, k _ ho, r⟩
theorem setS_loop {R : Result → Shared → Prop} (hh : A.handled = none) (d1 : S ≠ it) (d2 : S ≠ l) (d3 : it ≠ l) (hv : Vals (xs.map V.str) vs) (few : xs.length < 1000) :
    ∀ (rest : List Str) (i : Nat) (acc : List Str) (s : Shared), xs.drop i = rest → acc.length ≤ i → s.heap.IsTupleIter it l i → s.heap.IsTuple l vs.toArray → IsSetS P w s.heap S acc →
      (∀ h' tk, IsSetS P w h' S (rest.foldl addS acc) → (∀ b o, b ≠ S → b ≠ it → s.heap.get? b = some o → h'.get? b = some o) → R (.ok (.ret .none)) { s with heap := h', toks := tk }) →
      codeAny (model P w) A (.builtin "set.update.loop" ⟨[.ref S, .ref it], []⟩) R s
  | [], i, acc, s, hd, ha, hi, hl, hS, q => by
    have hlen : vs.length ≤ i := by
      have h1 : vs.length = xs.length := by simpa using hv.length.symm
      have h2 := List.drop_eq_nil_iff.mp hd
      omega
    refine codeAny_builtin F.entry_set_update_loop ?_
    rw [Around.under_plainId F.plain_set_update_loop _]
    show wpAny _ A.in1 (pyNext (.ref it) >>= _) _ _ s
    refine wpAny_bind (wpAny_pyNext_tuple_end (by simpa using hh) hi hl (by simp; omega) fun h' keep => ?_)
    exact wpAny_pure (q h' s.toks (hS.ext fun o e => keep _ _ d1 e) fun b o _ h2 e => keep b o h2 e)
  | x :: rest, i, acc, s, hd, ha, hi, hl, hS, q => by
    have at1 : xs[i]? = some x := by rw [← List.head?_drop, hd]; rfl
    have next : xs.drop (i + 1) = rest := by rw [← List.tail_drop, hd]; rfl
    have il : i < xs.length := (List.getElem?_eq_some_iff.mp at1).1
    obtain ⟨u, hu, t, rfl⟩ := hv.get (i := i) (x := V.str x) (by rw [List.getElem?_map, at1]; rfl)
    refine codeAny_builtin F.entry_set_update_loop ?_
    rw [Around.under_plainId F.plain_set_update_loop _]
    show wpAny _ A.in1 (pyNext (.ref it) >>= _) _ _ s
    refine wpAny_bind (wpAny_pyNext_tuple_item hi hl (x := .str x t) (by simpa using hu) fun h1 hi1 sb1 => ?_)
    show wpAny _ A.in1 (holding [Value.str x t] (setAdd S (.str x t)) >>= _) _ _ _
    refine wpAny_bind (wpAny_holding ?_)
    unfold setAdd
    have key : (strKind P w).is x (.str x t) = true := by show Value.isStrOf x (.str x t) = true; simp [Value.isStrOf]
    refine wpAny_holding (wpAny_bind ((strKind P w).pyHash (k := x) key ?_))
    have hS1 : IsSetS P w h1 S acc := hS.ext fun o e => sb1.extBut _ _ d1 e
    refine wpAny_setAddHashed_of (knd := strKind P w) key rfl (s := ⟨h1, _, _, _, _⟩) hS1 (by show acc.length + 1 < 4096; omega) fun h2 sb2 hS2 => ?_
    have hS3 : IsSetS P w h2 S (addS acc x) := by
      unfold IsSetS
      refine SetOf_congr hS2 (fun k => ?_) ?_
      · unfold addS
        by_cases e : x ∈ acc
        · rw [if_pos e, Bool.eq_iff_iff]
          simp only [Bool.or_eq_true, decide_eq_true_iff]
          exact ⟨fun z => z.elim id fun y => y ▸ e, .inl⟩
        · rw [if_neg e, Bool.eq_iff_iff]
          simp only [Bool.or_eq_true, decide_eq_true_iff, List.mem_append, List.mem_singleton]
      · unfold addS
        by_cases e : x ∈ acc
        · rw [if_pos e, if_pos (by simpa using e)]
        · rw [if_neg e, if_neg (by simpa using e), List.length_append]
          rfl
    have ha2 : (addS acc x).length ≤ i + 1 := by
      unfold addS
      split
      · omega
      · rw [List.length_append]
        show acc.length + 1 ≤ _
        omega
    refine wpAny_pure ⟨plainId_quiet F.plain_set_update_loop _, setS_loop hh d1 d2 d3 hv few rest (i + 1) (addS acc x) _ next ha2 (hi1.extBut sb2.extBut d1.symm) ((hl.extBut sb1.extBut d3.symm).extBut sb2.extBut d2.symm) hS3 fun h' tk hS' keep => ?_⟩
    exact q h' tk hS' fun b o b1 b2 e => keep b o b1 b2 (sb2.extBut _ _ b1 (sb1.extBut _ _ b2 e))
set_option maxHeartbeats 4000000 in
theorem setS_init {h : Heap} {o0 : Obj} {gn : Array GenState} {dr : Drawn} {k : Nat} {os : OsState} {R : PySem.Fin → Shared → Prop} (eo : ∃ led, o0 = { cls := .type "set", dict := none, data := .set #[] 0 (.fresh 0 0 led) }) (hh : A.handled = none) (hl : h.IsTuple l vs.toArray) (hv : Vals (xs.map V.str) vs) (few : xs.length < 1000)
    (q : ∀ h' tk, IsSetS P w h' h.objs.size (ones xs) → (∀ b o, h.get? b = some o → h'.get? b = some o) → R (.done (.ret .none)) ⟨h', gn, dr, tk, os⟩) :
    wpAny (model P w) A (Builtin.«set.__init__» ⟨[.ref h.objs.size, .ref l], []⟩) R E ⟨h.push o0, gn, dr, k, os⟩ := by
  obtain ⟨led, rfl⟩ := eo
  obtain ⟨⟨cl, dl, dat, sl⟩, e2, c2, n2, d2⟩ := id hl
  simp only at c2 d2
  subst c2 d2
  have e3 : (h.push { cls := .type "set", dict := none, data := .set #[] 0 (.fresh 0 0 led) }).get? l = some ⟨.type "tuple", dl, .seq vs.toArray n2, sl⟩ := Heap.get?_push_of_some _ e2
  have e0 : (h.push { cls := .type "set", dict := none, data := .set #[] 0 (.fresh 0 0 led) }).get? h.objs.size = some { cls := .type "set", dict := none, data := .set #[] 0 (.fresh 0 0 led) } := Heap.get?_push_size _ rfl
  have s1 := F.sub_tuple_set
  have s2 := F.sub_tuple_frozenset
  have ne : (Value.type "tuple" == Value.type "dict") = false := by decide
  unfold Builtin.«set.__init__» noKeywords Builtin.Frozenset.updateFrom
  generalize g : pyIter = iter
  wp_walk
  subst g
  have hl1 : (h.push { cls := .type "set", dict := none, data := .set #[] 0 (.fresh 0 0 led) }).IsTuple l vs.toArray := hl.push _
  refine wpAny_pyIter_tuple hl1 (wpAny_bind (wpAny_runValue ?_))
  have lt : l < h.objs.size := Heap.lt_size e2
  have sz : (h.push { cls := .type "set", dict := none, data := .set #[] 0 (.fresh 0 0 led) }).objs.size = h.objs.size + 1 := Heap.size_push ..
  have e00 : IsSetS P w ((h.push { cls := .type "set", dict := none, data := .set #[] 0 (.fresh 0 0 led) })) h.objs.size [] := by
    refine ⟨_, _, _, _, e0, ⟨rfl, rfl, rfl⟩, rfl, fun e he => ?_, fun k => ?_, by decide, by cases led <;> rfl, rfl⟩
    · simp at he
    · simp
  refine setS_loop (vs := vs) (xs := xs) (by simpa using hh) (by rw [sz]; exact Nat.ne_of_lt (Nat.lt_succ_self _)) (Nat.ne_of_gt lt) (by rw [sz]; exact Nat.ne_of_gt (Nat.lt_succ_of_lt lt)) hv few xs 0 [] _ rfl (Nat.le_refl _) ⟨_, Heap.get?_push_size _ rfl, rfl, rfl⟩ (hl1.push _) (e00.ext fun o e => Heap.get?_push_of_some _ e) fun h' tk z1 z2 => ?_
  refine wpAny_pure (wpAny_pure (q h' tk z1 fun b o e => ?_))
  have bl := Heap.lt_size e
  exact z2 b o (Nat.ne_of_lt bl) (by rw [sz]; exact Nat.ne_of_lt (Nat.lt_succ_of_lt bl)) (Heap.get?_push_of_some _ (Heap.get?_push_of_some _ e))
theorem setS_call {s : Shared} {Q : Value → Shared → Prop} (hh : A.handled = none) (hl : s.heap.IsTuple l vs.toArray) (hv : Vals (xs.map V.str) vs) (few : xs.length < 1000)
    (q : ∀ h' tk, IsSetS P w h' s.heap.objs.size (ones xs) → (∀ b o, s.heap.get? b = some o → h'.get? b = some o) → Q (.ref s.heap.objs.size) { s with heap := h', toks := tk }) :
    wpAny (model P w) A (call (.type "set") [.ref l]) Q E s := by
  have lt : l < s.heap.objs.size := let ⟨_, e, _⟩ := hl; Heap.lt_size e
  obtain ⟨c, tl, mro⟩ := F.called_set.mro
  have made := F.called_set.made
  have sub := F.called_set.sub
  have noType := F.called_set.notType
  have may := F.called_set.canCreate
  have args := F.typeCall_set_1 (.ref l)
  have look := F.called_set.init.lookup
  have bnd := F.called_set.init.bind (.ref s.heap.objs.size)
  refine wpAny_call (codeAny_of_tree (show wpAny _ _ (callAny (.type "set") _) _ _ _ from wpAny_pure ⟨Code.quiet_builtin _ (by decide +kernel), codeAny_builtin F.entry_type_call ?_⟩))
  rw [Around.under_plain (weight_type_call_type "set" [.ref l] []) rfl]
  repeat (any_goals (first | assumption | wp_step))
  refine codeAny_mono (code_set_new_1 (.ref l) (E := E) (Q₁ := fun obj s₁ => ∃ o0, (∃ led, o0 = { cls := .type "set", dict := none, data := .set #[] 0 (.fresh 0 0 led) }) ∧ obj = .ref s.heap.objs.size ∧ s₁ = { s with heap := s.heap.push o0 }) fun led => ⟨_, ⟨led, rfl⟩, rfl, rfl⟩) fun r s1 z => ?_
  cases r with
  | error _ => exact z
  | ok f =>
    cases f <;> first | exact z.elim | skip
    obtain ⟨o0, eo, e1, e2⟩ := z
    subst e1 e2
    have oc : o0.cls = .type "set" := by obtain ⟨_, rfl⟩ := eo; rfl
    have e0 : (s.heap.push o0).get? s.heap.objs.size = some o0 := Heap.get?_push_size _ (by obtain ⟨_, rfl⟩ := eo; rfl)
    have ty : Shared.TypeIs { s with heap := s.heap.push o0 } (.ref s.heap.objs.size) "set" := ⟨_, e0, oc⟩
    repeat (any_goals (first | assumption | wp_step))
    refine codeAny_mono (codeAny_call_builtin (R := wants (fun v s2 => v = .none ∧ ∃ h' tk, s2 = { s with heap := h', toks := tk } ∧ IsSetS P w h' s.heap.objs.size (ones xs) ∧ ∀ b o, s.heap.get? b = some o → h'.get? b = some o) E)
      F.called_set.init.plain F.entry_set_init (check_set_init_1 ty ?_)) fun r s2 z => ?_
    · exact setS_init (A := A.in1.in1) eo (by simpa using hh) hl hv few fun h' tk z1 z2 => ⟨rfl, h', tk, rfl, z1, z2⟩
    · cases r with
      | error _ => exact z
      | ok f =>
        cases f <;> first | exact z.elim | skip
        obtain ⟨e1, h', tk, e2, z1, z2⟩ := z
        subst e1 e2
        repeat (any_goals (first | assumption | wp_step))
        exact q h' tk z1 z2
end
section
variable {X : Cx}
def SetSO (a : Addr) (xs : List Str) : HO := .ext fun h => ∃ P w, IsSetS P w h a (ones xs)
def rSetS (K : PySem.W.Frag) : List V → Hp → VK → Prop := fun vs H Q => ∃ p xs, vs = [.ref p] ∧ SqT K H p (xs.map V.str) ∧ xs.length < 1000 ∧ ∀ a, H a = none → Q (.ref a) (upd H a (SetSO a xs))
theorem call_setS (hc : X.calm = true) : CallR X (.type "set") (rSetS X.K) := by
  intro pins s σ H vs us Q I r h
  obtain ⟨p, xs, rfl, hl, few, q⟩ := h
  obtain ⟨u, rfl, ru⟩ := vals1 r
  cases ru
  obtain ⟨its, rv, pl, _⟩ := I.tuple hl
  refine setS_call (I.ok.hd hc) pl rv few fun h' tk z keep => ?_
  have I1 : Inv X pins σ H { s with heap := h', toks := tk } := I.kept keep
  obtain ⟨o, es, ep, t, ho, r⟩ := id z
  have ok : ObjOk X.prog X.w (upd H s.heap.objs.size (SetSO s.heap.objs.size xs)) h' s.heap.objs.size (SetSO s.heap.objs.size xs) := ⟨⟨_, _, z⟩, ⟨_, ho⟩, fun h1 h2 ⟨P, w, y⟩ k => ⟨P, w, y.ext fun o e => k _ e⟩⟩
  exact ⟨.ref s.heap.objs.size, _, Inv.trackNew I I1 ok, rfl, q _ I.fresh⟩
def rLenSS : List V → Hp → VK → Prop := fun vs H Q => ∃ a xs, vs = [.ref a] ∧ H a = some (SetSO a xs) ∧ Q (.int (ones xs).length) H
theorem call_lenSS : CallR X (.builtin "len") rLenSS := by
  intro pins s σ H vs us Q I r h
  obtain ⟨a, xs, rfl, ha, q⟩ := h
  obtain ⟨u, rfl, ru⟩ := vals1 r
  cases ru
  obtain ⟨⟨_, _, o, es, ep, t, ho, hx, hd, _, _, hb, hf, hn⟩, _⟩ := (show ObjOk X.prog X.w H s.heap a (SetSO a xs) from I.hok a _ ha)
  refine call_len_set ho hx hd hf (by have : scanBound = 4096 := rfl; omega) ?_
  exact ⟨.int (ones xs).length, H, I.tok _, ⟨_, by rw [hn]⟩, q⟩
end
end L2
namespace L2
open PySem PySem.Spec PyProof.Rows
section
variable {K : PySem.W.Frag} {H : Hp} {σ : St} {vs : List Str} {g : TG} {tt : TT} {te : TE} {Fin : List V → Hp → Prop} {t1 t2 : Addr} {xs zs : List V}
end
end L2
namespace L2
open PySem PySem.Spec PyProof.Rows
section
variable {X : Cx}
def rEqE (K : PySem.W.Frag) : R2 := fun x y H Q => ∃ (a b : Addr) (xs : List V), x = .ref a ∧ y = .ref b ∧ SqL K H a xs ∧ SqL K H b [] ∧ Q (.bl xs.isEmpty) H
end
end L2
namespace L2
open PySem PySem.Spec PyProof.Rows
section
variable {X : Cx}
def rSlS : V → Option Int → Option Int → Hp → VK → Prop := fun x lo hi H Q => ∃ z : Str, x = .str z ∧ z.length ≤ sizeLine ∧ Q (.str (Txt.slice z lo hi)) H
theorem sl_str : SlR X rSlS := by
  intro pins s σ H x v vl vu lo hi sl Q I rx hs pl pu h
  obtain ⟨z, rfl, hz, q⟩ := h
  obtain ⟨t, rfl⟩ := rx
  refine ⟨"str", _, F.slot_str_getitem.lookup, typeIs_str _ _ _, ?_⟩
  have fin : ∀ t' k, EP X pins σ Q (.str (Txt.slice z lo hi) t') { s with toks := k } := fun t' k => ⟨.str _, H, I.tok _, ⟨t', rfl⟩, q⟩
  have le := Nat.le_trans (Txt.slice_le z lo hi) hz
  cases pl with
  | none =>
    cases pu with
    | none => exact wpAny_getItem_str_slice (l := none) (u := none) (st := none) hs rfl (post_val_or_str ⟨le, fin⟩)
    | int j uj => exact wpAny_getItem_str_slice (l := none) (u := some (j, uj)) (st := none) hs rfl (post_val_or_str ⟨le, fin⟩)
  | int i ui =>
    cases pu with
    | none => exact wpAny_getItem_str_slice (l := some (i, ui)) (u := none) (st := none) hs rfl (post_val_or_str ⟨le, fin⟩)
    | int j uj => exact wpAny_getItem_str_slice (l := some (i, ui)) (u := some (j, uj)) (st := none) hs rfl (post_val_or_str ⟨le, fin⟩)
theorem slice_mem {z : Str} {lo hi : Option Int} {c : Nat} (h : c ∈ (Txt.slice z lo hi).cps.toList) : c ∈ z.cps.toList := by
  unfold Txt.slice at h
  split at h
  · exact h
  · have h : c ∈ ((Builtin.Str.strSliceIndices lo hi 1 z.length).filterMap (z.cps[·]?)).toArray.toList := h
    simp only [List.mem_filterMap] at h
    obtain ⟨i, _, e⟩ := h
    exact Array.mem_toList_iff.mpr (Array.mem_of_getElem? e)
end
end L2
namespace L2
open PySem PySem.Spec PyProof.Rows
section
variable {X : Cx}
def rEqB (K : PySem.W.Frag) : R2 := fun x y H Q => ∃ (a b : Addr) (xs ys : List Bool), x = .ref a ∧ y = .ref b ∧ SqL K H a (xs.map V.bl) ∧ SqL K H b (ys.map V.bl) ∧ Q (.bl (decide (xs = ys))) H
theorem op_eqB (hu : X.A.units + 64 < cLine) : OpR X (compareOp .Eq) (rEqB X.K) := by
  intro pins s σ H x y v u Q I rx ry h
  obtain ⟨a, a', xs, ys, rfl, rfl, h1, h2, q⟩ := h
  cases rx
  cases ry
  obtain ⟨its, rv, p, _⟩ := I.list h1
  obtain ⟨its', rv', p', _⟩ := I.list h2
  have l1 : its.length = xs.length := by rw [← rv.length, List.length_map]
  have l2 : its'.length = ys.length := by rw [← rv'.length, List.length_map]
  by_cases hs : xs.length = ys.length
  · have hz : its.toArray.size = its'.toArray.size := by simp only [List.size_toArray]; omega
    refine (SeqAt.RcAt.lists (A := X.A) (e := fun j => (xs.getD j false == ys.getD j false)) p.isList p'.isList hz (by omega) fun j g1 g2 => ?_) _ _ _ _ ⟨.bl _, H, I, rfl, ?_⟩
    · have g1 : j < its.length := by simpa using g1
      have g2 : j < its'.length := by simpa using g2
      obtain ⟨w1, z1, y1⟩ := rv.get (i := j) (x := .bl (xs.getD j false)) (by rw [List.getElem?_map, List.getD_eq_getElem?_getD, List.getElem?_eq_getElem (by omega)]; rfl)
      obtain ⟨w2, z2, y2⟩ := rv'.get (i := j) (x := .bl (ys.getD j false)) (by rw [List.getElem?_map, List.getD_eq_getElem?_getD, List.getElem?_eq_getElem (by omega)]; rfl)
      cases y1
      cases y2
      have e1 : its.toArray[j]'(by simpa using g1) = .bool (xs.getD j false) := by
        rw [List.getElem?_eq_getElem g1] at z1
        simpa using Option.some.inj z1
      have e2 : its'.toArray[j]'(by simpa using g2) = .bool (ys.getD j false) := by
        rw [List.getElem?_eq_getElem g2] at z2
        simpa using Option.some.inj z2
      rw [e1, e2]
      exact SeqAt.EqAt.bool_bool _ _
    · have e : (List.range its.toArray.size).all (fun j => (xs.getD j false == ys.getD j false)) = decide (xs = ys) := by
        rw [Bool.eq_iff_iff, decide_eq_true_iff, List.all_eq_true]
        constructor
        · intro h
          refine ext_items hs fun i x y e1 e2 => ?_
          have z := eq_of_beq (h i (List.mem_range.mpr (by rw [List.size_toArray, l1]; exact (List.getElem?_eq_some_iff.mp e1).1)))
          rw [List.getD_eq_getElem?_getD, List.getD_eq_getElem?_getD, e1, e2] at z
          exact z
        · rintro rfl
          exact fun _ _ => beq_self_eq_true _
      rw [e]
      exact q
  · have hz : (its.toArray.size != its'.toArray.size) = true := by
      rw [bne_iff_ne]
      simp only [List.size_toArray]
      omega
    refine (SeqAt.RcAt.lists_lengths p.isList p'.isList hz (by omega)) _ _ _ _ ⟨.bl false, H, I, rfl, ?_⟩
    rw [show decide (xs = ys) = false from decide_eq_false fun z => hs (by rw [z])] at q
    exact q
end
end L2
namespace My
open PySem L2 PyProof.Rows
def top (i : Nat) : Stmt := PySem.Challenge.pw_cascade_k81_texts_of_no_machine.main.body.getD i (.Pass ⟨0, 0, 0, 0⟩)
abbrev sIsWhole : Stmt := top 10
abbrev sIsRoom : Stmt := top 11
abbrev sIsTurn : Stmt := top 12
abbrev sCheck : Stmt := top 13
abbrev sHasOnly : Stmt := top 18
abbrev sIsName : Stmt := top 19
abbrev sIsFigures : Stmt := top 20
abbrev sReadRow : Stmt := top 21
abbrev sRead : Stmt := top 22
abbrev sLawCellAt : Stmt := top 24
abbrev sLawNames : Stmt := top 25
abbrev sLawTurn : Stmt := top 26
abbrev sLawMachine : Stmt := top 27
abbrev sLawWritten : Stmt := top 28
abbrev sLawTurnedText : Stmt := top 29
abbrev sLawRow : Stmt := top 30
abbrev sLawDue : Stmt := top 31
abbrev sLawKind : Stmt := top 32
abbrev sLawAsked : Stmt := top 33
abbrev sLaw : Stmt := top 34
def clsBody : Stmt → List Stmt
  | .ClassDef _ _ _ b _ _ _ _ _ _ _ => b
  | _ => []
abbrev sTooManyInit : Stmt := (clsBody (top 3)).getD 0 (.Pass ⟨0, 0, 0, 0⟩)
theorem scIsWhole : FnScope ["thing"] ["thing"] (defScope sIsWhole) := ⟨rfl, rfl, rfl, by decide +kernel, rfl, by decide +kernel, by decide +kernel⟩
theorem scIsRoom : FnScope ["thing", "rooms"] ["thing", "rooms"] (defScope sIsRoom) := ⟨rfl, rfl, rfl, by decide +kernel, rfl, by decide +kernel, by decide +kernel⟩
theorem scIsTurn : FnScope ["thing", "rooms"] ["thing", "rooms"] (defScope sIsTurn) := ⟨rfl, rfl, rfl, by decide +kernel, rfl, by decide +kernel, by decide +kernel⟩
theorem scCheck : FnScope ["thing", "first", "turn"] ["thing"] (defScope sCheck) := ⟨rfl, rfl, rfl, by decide +kernel, rfl, by decide +kernel, by decide +kernel⟩
theorem scHasOnly : FnScope ["text", "signs"] ["text", "signs"] (defScope sHasOnly) := ⟨rfl, rfl, rfl, by decide +kernel, rfl, by decide +kernel, by decide +kernel⟩
theorem scIsName : FnScope ["text"] ["text"] (defScope sIsName) := ⟨rfl, rfl, rfl, by decide +kernel, rfl, by decide +kernel, by decide +kernel⟩
theorem scIsFigures : FnScope ["text"] ["text"] (defScope sIsFigures) := ⟨rfl, rfl, rfl, by decide +kernel, rfl, by decide +kernel, by decide +kernel⟩
theorem scReadRow : FnScope ["row", "halves"] ["row"] (defScope sReadRow) := ⟨rfl, rfl, rfl, by decide +kernel, rfl, by decide +kernel, by decide +kernel⟩
theorem scRead : FnScope ["text", "rows", "names", "machine"] ["text"] (defScope sRead) := ⟨rfl, rfl, rfl, by decide +kernel, rfl, by decide +kernel, by decide +kernel⟩
theorem scLawCellAt : FnScope ["_law_script", "_law_k"] ["_law_script", "_law_k"] (defScope sLawCellAt) := ⟨rfl, rfl, rfl, by decide +kernel, rfl, by decide +kernel, by decide +kernel⟩
theorem scLawNames : FnScope ["_law_cell", "_law_many", "_law_letters", "_law_base", "_law_at", "_law_names_here", "_law_k", "_law_name", "_law_j"] ["_law_cell", "_law_many"] (defScope sLawNames) := ⟨rfl, rfl, rfl, by decide +kernel, rfl, by decide +kernel, by decide +kernel⟩
theorem scLawTurn : FnScope ["_law_rooms", "_law_cell", "_law_more", "_law_numbers", "_law_turn_here", "_law_k", "_law_j", "_law_kept"] ["_law_rooms", "_law_cell", "_law_more"] (defScope sLawTurn) := ⟨rfl, rfl, rfl, by decide +kernel, rfl, by decide +kernel, by decide +kernel⟩
theorem scLawMachine : FnScope ["_law_script", "_law_start", "_law_rooms", "_law_turns", "_law_k", "_law_cell"] ["_law_script", "_law_start"] (defScope sLawMachine) := ⟨rfl, rfl, rfl, by decide +kernel, rfl, by decide +kernel, by decide +kernel⟩
theorem scLawWritten : FnScope ["_law_names_here", "_law_machine_here", "_law_lines", "_law_k"] ["_law_names_here", "_law_machine_here"] (defScope sLawWritten) := ⟨rfl, rfl, rfl, by decide +kernel, rfl, by decide +kernel, by decide +kernel⟩
theorem scLawTurnedText : FnScope ["_law_text", "_law_cell", "_law_number", "_law_at", "_law_sign", "_law_rows", "_law_k"] ["_law_text", "_law_cell"] (defScope sLawTurnedText) := ⟨rfl, rfl, rfl, by decide +kernel, rfl, by decide +kernel, by decide +kernel⟩
theorem scLawRow : FnScope ["_law_line", "_law_name", "_law_mid", "_law_rest", "_law_turn_here", "_law_k"] ["_law_line"] (defScope sLawRow) := ⟨rfl, rfl, rfl, by decide +kernel, rfl, by decide +kernel, by decide +kernel⟩
theorem scLawDue : FnScope ["_law_text", "_law_rows", "_law_names_here", "_law_machine_here", "_law_rooms", "_law_good", "_law_turn_here"] ["_law_text"] (defScope sLawDue) := ⟨rfl, rfl, rfl, by decide +kernel, rfl, by decide +kernel, by decide +kernel⟩
theorem scLawKind : FnScope ["_law_e", "_law_some"] ["_law_e"] (defScope sLawKind) := ⟨rfl, rfl, rfl, by decide +kernel, rfl, by decide +kernel, by decide +kernel⟩
theorem scLawAsked : FnScope ["_law_thing", "_law_heard", "_law_e"] ["_law_thing"] (defScope sLawAsked) := ⟨rfl, rfl, rfl, by decide +kernel, rfl, by decide +kernel, by decide +kernel⟩
theorem scLaw : FnScope ["_law_script", "_law_machine_here", "_law_names_here", "_law_text", "_law_due_here", "_law_cell", "_law_bent", "_law_number", "_law_thing"] ["_law_script"] (defScope sLaw) := ⟨rfl, rfl, rfl, by decide +kernel, rfl, by decide +kernel, by decide +kernel⟩
def spCellAt (K : PySem.W.Frag) : Sp := fun vs H Q _ => ∃ (a : Addr) (ns : List Int) (k : Int), vs = [.ref a, .int k] ∧ 0 ≤ k ∧ SqL K H a (ns.map V.int) ∧ ∀ c, Q (.int c) H
section
variable {P : Program} {w : World} {K : PySem.W.Frag} {mg : Str → Option Value} {base : Heap} {f : Addr} {fd : FuncData}
theorem ok_cell_at (F : Fun K "_law_cell_at" "_law_cell_at" sLawCellAt f fd) (m_len : mg "len" = none) : FnOk P w K mg base CX0 1 f fd ["_law_script", "_law_k"] (spCellAt K) := by
  refine F.ok scLawCellAt (fun vs H Q E h => ?_) (fun cdv A outer s H vs Q E hr h => ?_)
  · obtain ⟨a, ns, k, rfl, _⟩ := h
    rfl
  obtain ⟨a, ns, k, rfl, h0, hS, q⟩ := h
  refine ⟨_, (pss_cons (ps_if (pt_cmpR op_lt (pv 1) (pe_callB call_len_seq rfl m_len boot_len (pa_cons (pv 0) pa_nil)) (nomark _)) (pss_one (ps_ret (pe_ix ix_list (pv 0) (pv 1) (fun _ _ => rfl)))) pss_nil) (pss_one (ps_ret pe_int))), ?_⟩
  refine ⟨_, rfl, _, rfl, a, _, rfl, .inl hS, _, _, rfl, rfl, _, rfl, ?_⟩
  refine ite2 (fun c => ?_) (fun c => ?_)
  · have c' : k < ((ns.map V.int).length : Nat) := of_decide_eq_true c
    rw [List.length_map] at c'
    have hk : k.toNat < ns.length := by omega
    have e : k = ((k.toNat : Nat) : Int) := by omega
    refine ⟨_, rfl, _, rfl, a, _, _, .int (ns.getD k.toNat 0), rfl, rfl, hS, ?_, q _⟩
    rw [e]
    exact at_int hk
  · exact q _
end
structure Mach (H : Hp) (m : Addr) (ts : List (List Nat)) (n : Nat) : Prop where
  refs : ∃ rs : List Addr, H m = some (.tup (rs.map V.ref)) ∧ rs.length = ts.length ∧ ∀ (i : Nat) r t, rs[i]? = some r → ts[i]? = some t → H r = some (.tup (t.map nv))
  some1 : 1 ≤ ts.length
  few : ts.length ≤ 4
  n1 : 1 ≤ n
  n5 : n ≤ 5
  each : ∀ t ∈ ts, t.length = n ∧ ∀ x ∈ t, x < n
theorem Mach.same {H H' : Hp} {m : Addr} {ts : List (List Nat)} {n : Nat} (M : Mach H m ts n) (g : Same H H') : Mach H' m ts n :=
  ⟨let ⟨rs, h1, h2, h3⟩ := M.refs; ⟨rs, g _ _ h1, h2, fun i r t e1 e2 => g _ _ (h3 i r t e1 e2)⟩, M.some1, M.few, M.n1, M.n5, M.each⟩
theorem Mach.at {H : Hp} {m : Addr} {ts : List (List Nat)} {n : Nat} (M : Mach H m ts n) {l : Nat} (hl : l < ts.length) :
    ∃ (rs : List Addr) (r : Addr), H m = some (.tup (rs.map V.ref)) ∧ rs.length = ts.length ∧ atI (rs.map V.ref) (l : Int) = some (.ref r) ∧ H r = some (.tup ((ts.getD l []).map nv)) ∧ (ts.getD l []).length = n ∧ ∀ x ∈ ts.getD l [], x < n := by
  obtain ⟨rs, h1, h2, h3⟩ := M.refs
  have hr : l < rs.length := by omega
  have e : ts.getD l [] = ts[l] := by rw [List.getD_eq_getElem?_getD, List.getElem?_eq_getElem hl]; rfl
  rw [e]
  obtain ⟨q1, q2⟩ := M.each ts[l] (List.getElem_mem hl)
  exact ⟨rs, rs[l], h1, h2, atI_nat (by rw [List.getElem?_map, List.getElem?_eq_getElem hr]; rfl), h3 l _ _ (by simp [hr]) (by simp [hl]), q1, q2⟩
def lead (ts : List (List Nat)) (r : Nat) (word : List Nat) : Nat := word.foldl (fun r l => (ts.getD l []).getD r 0) r
def leads (ts : List (List Nat)) (n : Nat) (word : List Nat) : List Nat := (List.range n).map fun r => lead ts r word
def spTurn : Sp := fun vs H Q _ => ∃ (n : Nat) (c m : Int), vs = [nv n, .int c, .int m] ∧ 1 ≤ n ∧ n ≤ 5 ∧
  ∀ (ys : List Nat) r H', Same H H' → H' r = some (.tup (ys.map nv)) → ys.length = n → (∀ y ∈ ys, y < n) → Q (.ref r) H'
def spMachine (K : PySem.W.Frag) : Sp := fun vs H Q _ => ∃ (a : Addr) (ns : List Int) (st : Int), vs = [.ref a, .int st] ∧ 0 ≤ st ∧ SqL K H a (ns.map V.int) ∧ ∀ m ts n H', Same H H' → Mach H' m ts n → Q (.ref m) H'
def TurnSt (H : Hp) (n : Nat) (c m : Int) (nl : Addr) (ms : List Int) (σ : L2.St) (H' : Hp) : Prop := Same H H' ∧ ∃ (l : Addr) (ys : List Nat) (o1 o2 o3 : Option V), σ = [some (nv n), some (.int c), some (.int m), some (.ref nl), some (.ref l), o1, o2, o3] ∧
  H' nl = some (.lst (ms.map V.int)) ∧ H' l = some (.lst (ys.map nv)) ∧ H l = none ∧ l ≠ nl ∧ ys.length = n ∧ ∀ y ∈ ys, y < n
def modV (n : Nat) : V → V
  | .int i => nv (i % (n : Int)).toNat
  | v => v
theorem at_last {ms : List Int} (h : 1 ≤ ms.length) : ∃ i, atI (ms.map V.int) (-1) = some (.int i) := by
  have ne : ms ≠ [] := fun z => by rw [z] at h; exact absurd h (by decide)
  refine ⟨ms.getLast ne, ?_⟩
  have e : ms.map V.int = ms.dropLast.map V.int ++ [V.int (ms.getLast ne)] := by
    conv => lhs; rw [← List.dropLast_concat_getLast ne]
    rw [List.map_append]
    rfl
  rw [e]
  exact atI_last _ _
section
variable {P : Program} {w : World} {K : PySem.W.Frag} {mg : Str → Option Value} {base : Heap} {f : Addr} {fd : FuncData}
theorem ok_turn (F : Fun K "_law_turn" "_law_turn" sLawTurn f fd) (m_range : mg "range" = none) (m_tuple : mg "tuple" = none) (m_list : mg "list" = none) : FnOk P w K mg base CX0 1 f fd ["_law_rooms", "_law_cell", "_law_more"] spTurn := by
  refine F.ok scLawTurn (fun vs H Q E h => ?_) (fun cdv A outer s H vs Q E hr h => ?_)
  · obtain ⟨n, c, m, rfl, _⟩ := h
    rfl
  obtain ⟨n, c, m, rfl, h1, h5, q⟩ := h
  refine ⟨_, (pss_cons (ps_setC1 (CompSc.to (N := ["_law_rooms", "_law_cell", "_law_more", "_law_numbers", "_law_turn_here", "_law_k", "_law_j", "_law_kept"]) (osc := defScope sLawTurn) (vs := ["_law_k"]) ⟨rfl, by decide +kernel, by decide +kernel, by decide +kernel, by decide +kernel, by decide +kernel, by decide +kernel⟩) rfl rfl scLawTurn.nd (j := 3) rfl rfl (pi_range1 rfl m_range (pa_cons (pv 0) pa_nil)) (fun _ _ _ _ => pts_nil) (fun _ _ _ _ => (pe_op op_mod (pe_op op_mul (pe_op op_add (pe_op op_add (pv 3) (pe_op op_mul (pe_op op_mul pe_int (pv 0)) (pv 0))) pe_int) pe_int) pe_int))) (pss_cons (ps_if (pt_cmpR op_eq (pe_op op_mod (pv 1) pe_int) pe_int (nomark _)) (pss_one (ps_ret (pe_callTy call_tuple_of rfl m_tuple boot_tuple (pa_cons (pe_comp1 (CompSc.to (N := ["_law_rooms", "_law_cell", "_law_more", "_law_numbers", "_law_turn_here", "_law_k", "_law_j", "_law_kept"]) (osc := defScope sLawTurn) (vs := ["_law_number"]) ⟨rfl, by decide +kernel, by decide +kernel, by decide +kernel, by decide +kernel, by decide +kernel, by decide +kernel⟩) rfl rfl (pi_list (pv 3)) (fun _ _ _ _ => pts_nil) (fun _ _ _ _ => (pe_op op_mod (pv 0) (pv 1)))) pa_nil)))) pss_nil) (pss_cons (ps_set (i := 4) scLawTurn.nd rfl (Or.inl rfl) (pe_callTy (call_list_rng rfl) rfl m_list boot_list (pa_cons (pe_callTy call_rangeV rfl m_range boot_range (pa_cons (pv 0) pa_nil)) pa_nil))) (pss_cons (ps_cut (ps_if (pt_cmpR op_eq (pe_op op_mod (pv 1) pe_int) pe_int (nomark _)) (pss_one (ps_for PassesOwn.never rfl (pi_range1 rfl m_range (pa_cons (pv 0) pa_nil)) (pg_name (i := 5) scLawTurn.nd rfl (Or.inl rfl)) (pss_cons (ps_set (i := 6) scLawTurn.nd rfl (Or.inl rfl) (pe_op op_add (pv 5) (pe_op op_mod (pe_op op_fdiv (pe_ix ix_list (pv 3) (pv 5) (fun _ _ => rfl)) pe_int) (pe_op op_sub (pv 0) (pv 5))))) (pss_cons (ps_set (i := 7) scLawTurn.nd rfl (Or.inl rfl) (pe_ix ix_list (pv 4) (pv 5) (fun _ _ => rfl))) (pss_cons (ps_asg (pe_ix ix_list (pv 4) (pv 6) (fun _ _ => rfl)) (pg_sub (pv 4) (pv 5) set_list)) (pss_one (ps_asg (pv 7) (pg_sub (pv 4) (pv 6) set_list)))))))) pss_nil)) (pss_cons (ps_cut (ps_if (pt_cmpR op_eq (pe_op op_mod (pv 1) pe_int) pe_int (nomark _)) (pss_one (ps_asg (pe_op op_mod (pe_op op_fdiv (pe_ix ix_list (pv 3) (pe_un un_neg pe_int) (fun _ _ => rfl)) pe_int) (pv 0)) (pg_sub (pv 4) (pe_op op_mod (pe_ix ix_list (pv 3) pe_int (fun _ _ => rfl)) (pv 0)) set_list))) pss_nil)) (pss_cons (ps_cut (ps_if (pt_cmpR op_eq (pe_op op_mod (pv 1) pe_int) pe_int (nomark _)) (pss_one (ps_for PassesOwn.never rfl (pi_range1 rfl m_range (pa_cons (pv 0) pa_nil)) (pg_name (i := 5) scLawTurn.nd rfl (Or.inl rfl)) (pss_one (ps_if (PW.pt (pw_or (pt_cmpR op_eq (pe_op op_mod (pe_op op_fdiv (pv 1) pe_int) pe_int) pe_int (nomark _)) (pw_or1 (pt_cmpR op_eq (pe_op op_mod (pe_op op_fdiv (pe_ix ix_list (pv 3) (pv 5) (fun _ _ => rfl)) pe_int) pe_int) pe_int (nomark _))))) (pss_one (ps_asg (pe_op op_mod (pe_ix ix_list (pv 3) pe_int (fun _ _ => rfl)) (pv 0)) (pg_sub (pv 4) (pv 5) set_list))) pss_nil)))) pss_nil)) (pss_one (ps_ret (pe_callTy call_tuple_of rfl m_tuple boot_tuple (pa_cons (pv 4) pa_nil)))))))))), ?_⟩
  have np : (0 : Int) < (n : Int) := by omega
  have e1 : (n : Int).toNat = n := Int.toNat_natCast n
  refine ⟨_, rfl, (n : Int), rfl, by omega, by omega, map_range (f := fun (i : Nat) => .int ((m + 31 * (0 + (i : Int)) * (0 + (i : Int)) + 7) * 48271 % 2147483647)) (small (by omega)) (fun i Q hi q => ?_) (fun nl hnl => ?_)⟩
  · have jb : CMul (31 * (0 + (i : Int))) (0 + (i : Int)) := .inr ⟨by omega, by omega⟩
    exact ⟨_, rfl, _, rfl, _, _, rfl, rfl, .inl ⟨by decide, by decide⟩, _, rfl, _, _, rfl, rfl, jb, _, _, rfl, rfl, _, _, rfl, rfl, _, _, rfl, rfl, .inr ⟨by decide, by decide⟩, _, _, rfl, rfl, (by decide : (0 : Int) < 2147483647), q⟩
  obtain ⟨ms, ems, lms⟩ : ∃ ms : List Int, (List.range (n : Int).toNat).map (fun (i : Nat) => V.int ((m + 31 * (0 + (i : Int)) * (0 + (i : Int)) + 7) * 48271 % 2147483647)) = ms.map V.int ∧ ms.length = n := ⟨(List.range n).map fun (i : Nat) => ((m + 31 * (0 + (i : Int)) * (0 + (i : Int)) + 7) * 48271 % 2147483647), by rw [e1, List.map_map]; rfl, by simp⟩
  rw [ems]
  have knl := same_new hnl (.lst (ms.map V.int))
  have enl : upd H nl (.lst (ms.map V.int)) nl = some (.lst (ms.map V.int)) := upd_same
  generalize upd H nl (.lst (ms.map V.int)) = H1 at knl enl ⊢
  refine ⟨_, rfl, _, _, rfl, rfl, (by decide : (0 : Int) < 4), rfl, _, rfl, ite2 (fun c1 => ?_) (fun c1 => ?_)⟩
  · refine ⟨_, rfl, nl, rfl, ⟨_, SqL.of enl⟩, map_list (f := modV n) (small (by rw [List.length_map]; omega)) (SqL.of enl) (fun v Q hv q => ?_) (fun p hp => ?_)⟩
    · obtain ⟨i, _, rfl⟩ := List.mem_map.mp hv
      refine ⟨_, rfl, _, rfl, _, _, rfl, rfl, np, ?_⟩
      try dsimp only
      rw [(mod_nv i h1).1]
      exact q
    · refine ⟨p, _, rfl, .inl ⟨SqL.of upd_same, fun t ht => q (ms.map fun i => (i % (n : Int)).toNat) t _ ((knl.trans (same_new hp _)).trans (same_new ht _)) (by rw [upd_same, List.map_map, List.map_map]; rfl) (by rw [List.length_map, lms]) fun y hy => ?_⟩⟩
      obtain ⟨i, _, rfl⟩ := List.mem_map.mp hy
      exact (mod_nv i h1).2
  refine ⟨_, rfl, (n : Int), rfl, fun p1 hp1 => ⟨p1, (n : Int), rfl, upd_same, by omega, by omega, fun l hl => ?_⟩⟩
  have k1 := same_new hp1 (.rng 0 (n : Int))
  have k2 := same_new hl (.lst (rangeV (n : Int).toNat))
  have enl2 := (k1.trans k2) _ _ enl
  have num : ∀ {k : Nat}, k < n → atI (ms.map V.int) ((k : Nat) : Int) = some (.int (ms.getD k 0)) := fun h => at_int (by omega)
  have s1 : TurnSt H n c m nl ms [some (nv n), some (.int c), some (.int m), some (.ref nl), some (.ref l), none, none, none] (upd (upd H1 p1 (.rng 0 (n : Int))) l (.lst (rangeV (n : Int).toNat))) :=
    ⟨(knl.trans k1).trans k2, l, List.range n, none, none, none, rfl, enl2, by rw [upd_same]; rfl, (knl.trans k1).free hl, (fun z => by rw [z, k1 _ _ enl] at hl; cases hl), by simp, fun y hy => List.mem_range.mp hy⟩
  refine ⟨TurnSt H n c m nl ms, ?_, fun σ2 H2 p2 => ?_⟩
  · refine ⟨_, rfl, _, _, rfl, rfl, (by decide : (0 : Int) < 4), rfl, _, rfl, ite2 (fun c2 => ?_) (fun c2 => s1)⟩
    refine ⟨_, rfl, (n : Int), rfl, by omega, by omega, for_range (fun _ σ H' => TurnSt H n c m nl ms σ H') s1 (fun i σ H' hi p => ?_) (fun σ H' p => p)⟩
    obtain ⟨g, l, ys, o1, o2, o3, rfl, en, el, hl, ln, hyl, hy⟩ := p
    have hi' : i < n := by omega
    have e0 : (0 + (i : Int)) = ((i : Nat) : Int) := by omega
    have ip : (0 : Int) < (n : Int) - (0 + (i : Int)) := by omega
    refine ⟨_, rfl, _, rfl, _, rfl, nl, _, _, _, rfl, rfl, SqL.of en, (by rw [e0]; exact num hi'), _, _, rfl, rfl, ⟨by decide, by decide⟩, _, rfl, _, rfl, _, _, rfl, rfl, _, _, rfl, rfl, ip, _, _, rfl, rfl, ?_⟩
    obtain ⟨k, ek, hk⟩ : ∃ k : Nat, 0 + (i : Int) + ms.getD i 0 / 8 % ((n : Int) - (0 + (i : Int))) = (k : Int) ∧ k < n := ⟨(0 + (i : Int) + ms.getD i 0 / 8 % ((n : Int) - (0 + (i : Int)))).toNat, by have := Int.emod_nonneg (ms.getD i 0 / 8) (Int.ne_of_gt ip); omega, by have := Int.emod_lt_of_pos (ms.getD i 0 / 8) ip; omega⟩
    try dsimp only
    rw [ek]
    refine ⟨_, rfl, _, rfl, l, _, _, _, rfl, rfl, SqL.of el, (by rw [e0]; exact at_nv (by omega)), ?_⟩
    refine ⟨_, rfl, _, rfl, l, _, _, _, rfl, rfl, SqL.of el, at_nv (by omega), _, rfl, _, rfl, l, _, _, i, rfl, rfl, el, (by rw [e0, List.length_map]; exact ixN_nat (by omega)), ?_⟩
    try dsimp only
    rw [set_nv]
    refine ⟨_, rfl, _, rfl, _, rfl, l, _, _, k, rfl, rfl, upd_same, (by rw [List.length_map, List.length_set]; exact ixN_nat (by omega)), ?_⟩
    try dsimp only
    rw [set_nv, upd_upd]
    exact ⟨same_upd g hl, l, _, _, _, _, rfl, by rw [upd_ne (Ne.symm ln)]; exact en, upd_same, hl, ln, by rw [List.length_set, List.length_set, hyl], set_lt (set_lt hy (getD_lt hy (by omega))) (getD_lt hy (by omega))⟩
  obtain ⟨g2, l2, ys2, o1, o2, o3, rfl, en2, el2, hl2, ln2, hyl2, hy2⟩ := id p2
  refine ⟨TurnSt H n c m nl ms, ?_, fun σ3 H3 p3 => ?_⟩
  · refine ⟨_, rfl, _, _, rfl, rfl, (by decide : (0 : Int) < 4), rfl, _, rfl, ite2 (fun c3 => ?_) (fun c3 => p2)⟩
    obtain ⟨v, ev⟩ := at_last (ms := ms) (by omega)
    refine ⟨_, rfl, _, rfl, nl, _, _, _, rfl, rfl, SqL.of en2, ev, _, _, rfl, rfl, ⟨by decide, by decide⟩, _, rfl, _, _, rfl, rfl, np, ?_⟩
    try dsimp only
    obtain ⟨m1, m2⟩ := mod_nv (v / 8) h1
    obtain ⟨m3, m4⟩ := mod_nv (ms.getD 0 0) h1
    rw [m1]
    refine ⟨_, rfl, _, rfl, nl, _, _, _, rfl, rfl, SqL.of en2, num (k := 0) (by omega), _, rfl, _, _, rfl, rfl, np, ?_⟩
    try dsimp only
    rw [m3]
    refine ⟨l2, _, _, (ms.getD 0 0 % (n : Int)).toNat, rfl, rfl, el2, (by rw [List.length_map]; exact ixN_nat (by omega)), ?_⟩
    try dsimp only
    rw [set_nv]
    exact ⟨same_upd g2 hl2, l2, _, _, _, _, rfl, by rw [upd_ne (Ne.symm ln2)]; exact en2, upd_same, hl2, ln2, by rw [List.length_set, hyl2], set_lt hy2 m2⟩
  obtain ⟨g3, l3, ys3, o1, o2, o3, rfl, en3, el3, hl3, ln3, hyl3, hy3⟩ := id p3
  refine ⟨TurnSt H n c m nl ms, ?_, fun σ4 H4 p4 => ?_⟩
  · refine ⟨_, rfl, _, _, rfl, rfl, (by decide : (0 : Int) < 4), rfl, _, rfl, ite2 (fun c4 => ?_) (fun c4 => p3)⟩
    refine ⟨_, rfl, (n : Int), rfl, by omega, by omega, for_range (fun _ σ H' => TurnSt H n c m nl ms σ H') p3 (fun i σ H' hi p => ?_) (fun σ H' p => p)⟩
    obtain ⟨g, l, ys, o1, o2, o3, rfl, en, el, hl, ln, hyl, hy⟩ := p
    have hi' : i < n := by omega
    have e0 : (0 + (i : Int)) = ((i : Nat) : Int) := by omega
    obtain ⟨m3, m4⟩ := mod_nv (ms.getD 0 0) h1
    have keep : TurnSt H n c m nl ms [some (nv n), some (.int c), some (.int m), some (.ref nl), some (.ref l), some (.int (0 + (i : Int))), o2, o3] H' := ⟨g, l, ys, _, _, _, rfl, en, el, hl, ln, hyl, hy⟩
    have set : TurnSt H n c m nl ms [some (nv n), some (.int c), some (.int m), some (.ref nl), some (.ref l), some (.int (0 + (i : Int))), o2, o3] (upd H' l (.lst ((ys.set i (ms.getD 0 0 % (n : Int)).toNat).map nv))) := ⟨same_upd g hl, l, _, _, _, _, rfl, by rw [upd_ne (Ne.symm ln)]; exact en, upd_same, hl, ln, by rw [List.length_set, hyl], set_lt hy m4⟩
    refine ⟨_, rfl, _, _, rfl, rfl, ⟨by decide, by decide⟩, _, _, rfl, rfl, (by decide : (0 : Int) < 3), rfl, _, rfl, ite2 (fun c5 => iteT ?_) (fun c5 => ⟨_, rfl, _, rfl, nl, _, _, _, rfl, rfl, SqL.of en, (by rw [e0]; exact num hi'), _, _, rfl, rfl, ⟨by decide, by decide⟩, _, _, rfl, rfl, (by decide : (0 : Int) < 2), rfl, _, rfl, ite2 (fun c6 => ?_) (fun c6 => keep)⟩)⟩
    all_goals
      refine ⟨_, rfl, nl, _, _, _, rfl, rfl, SqL.of en, num (k := 0) (by omega), _, rfl, _, _, rfl, rfl, np, ?_⟩
      try dsimp only
      rw [m3]
      refine ⟨_, rfl, _, rfl, l, _, _, i, rfl, rfl, el, (by rw [e0, List.length_map]; exact ixN_nat (by omega)), ?_⟩
      try dsimp only
      rw [set_nv]
      exact set
  · obtain ⟨g4, l4, ys4, o1, o2, o3, rfl, en4, el4, hl4, ln4, hyl4, hy4⟩ := p4
    exact ⟨_, rfl, l4, _, rfl, .inl ⟨SqL.of el4, fun t ht => q ys4 t _ (g4.trans (same_new ht _)) upd_same hyl4 hy4⟩⟩
theorem ok_machine (F : Fun K "_law_machine" "_law_machine" sLawMachine f fd) (c__law_cell_at : Callee P w K mg base "_law_cell_at" 1 ["_law_script", "_law_k"] (spCellAt K)) (c__law_turn : Callee P w K mg base "_law_turn" 1 ["_law_rooms", "_law_cell", "_law_more"] spTurn)
    (m_range : mg "range" = none) (m_tuple : mg "tuple" = none) : FnOk P w K mg base CX0 3 f fd ["_law_script", "_law_start"] (spMachine K) := by
  refine F.ok scLawMachine (fun vs H Q E h => ?_) (fun cdv A outer s H vs Q E hr h => ?_)
  · obtain ⟨a, ns, st, rfl, _⟩ := h
    rfl
  obtain ⟨a, ns, st, rfl, h0, hS, q⟩ := h
  refine ⟨_, (pss_cons (ps_set (i := 2) scLawMachine.nd rfl (Or.inl rfl) (pe_op op_add pe_int (pe_op op_mod (pe_callD c__law_cell_at (hr.mono (by decide)) rfl (pl_at (pl_cons (pv 0) (pl_cons (pv 1) pl_nil rfl) rfl))) pe_int))) (pss_cons (ps_set (i := 3) scLawMachine.nd rfl (Or.inl rfl) (pe_lst pa_nil)) (pss_cons (ps_for PassesOwn.never rfl (pi_range1 rfl m_range (pa_cons (pe_op op_add pe_int (pe_op op_mod (pe_op op_fdiv (pe_callD c__law_cell_at (hr.mono (by decide)) rfl (pl_at (pl_cons (pv 0) (pl_cons (pv 1) pl_nil rfl) rfl))) pe_int) pe_int)) pa_nil)) (pg_name (i := 4) scLawMachine.nd rfl (Or.inl rfl)) (pss_cons (ps_set (i := 5) scLawMachine.nd rfl (Or.inl rfl) (pe_callD c__law_cell_at (hr.mono (by decide)) rfl (pl_at (pl_cons (pv 0) (pl_cons (pe_op op_add (pe_op op_add (pv 1) pe_int) (pe_op op_mul pe_int (pv 4))) pl_nil rfl) rfl)))) (pss_one (ps_expr (pe_bm PySem.F.plainAttrs_list PySem.F.slot_list_append PySem.F.type_list_append mt_append (pv 3) (pa_cons (pe_callD c__law_turn (hr.mono (by decide)) rfl (pl_at (pl_cons (pv 2) (pl_cons (pv 5) (pl_cons (pe_callD c__law_cell_at (hr.mono (by decide)) rfl (pl_at (pl_cons (pv 0) (pl_cons (pe_op op_add (pe_op op_add (pv 1) pe_int) (pe_op op_mul pe_int (pv 4))) pl_nil rfl) rfl))) pl_nil rfl) rfl) rfl))) pa_nil)))))) (pss_one (ps_ret (pe_callTy call_tuple_of rfl m_tuple boot_tuple (pa_cons (pv 3) pa_nil))))))), ?_⟩
  refine ⟨_, rfl, _, rfl, a, ns, st, rfl, h0, hS, fun c => ⟨_, _, rfl, rfl, (by decide : (0 : Int) < 5), _, _, rfl, rfl, ?_⟩⟩
  obtain ⟨n, en, n1, n5⟩ : ∃ n : Nat, (1 + c % 5 : Int) = (n : Int) ∧ 1 ≤ n ∧ n ≤ 5 := ⟨(1 + c % 5).toNat, by omega, by omega, by omega⟩
  try dsimp only
  rw [en]
  refine ⟨by show 0 ≤ sizeLine; decide, fun tl ntl => ?_⟩
  have ktl := same_new ntl (.lst [])
  have etl : upd H tl (.lst []) tl = some (.lst []) := upd_same
  generalize upd H tl (.lst []) = H1 at ktl etl ⊢
  refine ⟨_, rfl, _, rfl, a, ns, st, rfl, h0, ktl.seq hS, fun c2 => ⟨_, _, rfl, rfl, ⟨by decide, by decide⟩, _, _, rfl, rfl, (by decide : (0 : Int) < 4), _, _, rfl, rfl, ?_⟩⟩
  obtain ⟨k, ek, k1, k4⟩ : ∃ k : Nat, (1 + c2 / 5 % 4 : Int) = (k : Int) ∧ 1 ≤ k ∧ k ≤ 4 := ⟨(1 + c2 / 5 % 4).toNat, by omega, by omega, by omega⟩
  let Pk : Nat → L2.St → Hp → Prop := fun i σ H' => Same H H' ∧ ∃ (rs : List Addr) (ts : List (List Nat)) (o4 o5 : Option V), H' tl = some (.lst (rs.map .ref)) ∧ rs.length = i ∧ ts.length = i ∧ (∀ (j : Nat) r t, rs[j]? = some r → ts[j]? = some t → H' r = some (.tup (t.map nv))) ∧ (∀ t ∈ ts, t.length = n ∧ ∀ x ∈ t, x < n) ∧ σ = [some (.ref a), some (.int st), some (nv n), some (.ref tl), o4, o5]
  refine ⟨(k : Int), (by show [V.int (1 + c2 / 5 % 4)] = _; rw [ek]), by omega, by omega, for_range Pk ⟨ktl, [], [], none, none, etl, rfl, rfl, (fun j r t e => absurd e (by simp)), (fun t ht => absurd ht (by simp)), rfl⟩ (fun i σ H2 hi p => ?_) (fun σ H2 p => ?_)⟩
  · obtain ⟨g2, rs, ts, o4, o5, et2, hrl, htl, hrt, ht, rfl⟩ := p
    have hi' : i < k := by simpa using hi
    refine ⟨_, rfl, _, rfl, _, _, rfl, rfl, _, rfl, _, _, rfl, rfl, .inl ⟨by decide, by decide⟩, _, _, rfl, rfl, a, ns, _, rfl, by omega, g2.seq hS, fun cl => ?_⟩
    refine ⟨_, rfl, .inl ⟨rfl, _, SqL.of et2⟩, _, rfl, _, rfl, _, rfl, _, rfl, _, _, rfl, rfl, _, rfl, _, _, rfl, rfl, .inl ⟨by decide, by decide⟩, _, _, rfl, rfl, a, ns, _, rfl, by omega, g2.seq hS, fun cm => ?_⟩
    refine ⟨n, cl, cm, rfl, n1, n5, fun ys r H3 g3 er hyl hy => ⟨tl, _, _, rfl, rfl, g3 _ _ et2, by rw [List.length_map, sizeLine_eq]; omega, ?_⟩⟩
    have rt : r ≠ tl := ne_of er (g3 _ _ et2) fun e => nomatch e
    refine ⟨same_upd (g2.trans g3) ntl, rs ++ [r], ts ++ [ys], _, _, by rw [upd_same, List.map_append]; rfl, by rw [List.length_append, hrl]; rfl, by rw [List.length_append, htl]; rfl, fun j r' t' e1 e2 => ?_, fun t' h' => ?_, rfl⟩
    · rcases Nat.lt_or_ge j i with hj | hj
      · rw [List.getElem?_append_left (by omega)] at e1 e2
        have z := g3 _ _ (hrt j r' t' e1 e2)
        rw [upd_ne (ne_of z (g3 _ _ et2) fun e => nomatch e)]
        exact z
      · rw [List.getElem?_append_right (by omega)] at e1 e2
        have j0 : j - rs.length = 0 := by
          have := (List.getElem?_eq_some_iff.mp e1).1
          simp at this
          omega
        have j1 : j - ts.length = 0 := by omega
        rw [j0] at e1
        rw [j1] at e2
        cases e1
        cases e2
        rw [upd_ne rt]
        exact er
    · rcases List.mem_append.mp h' with z | z
      · exact ht t' z
      · rw [List.mem_singleton.mp z]
        exact ⟨hyl, hy⟩
  · obtain ⟨g2, rs, ts, o4, o5, et2, hrl, htl, hrt, ht, rfl⟩ := p
    have e1 : (k : Int).toNat = k := Int.toNat_natCast k
    refine ⟨_, rfl, tl, _, rfl, .inl ⟨SqL.of et2, fun t nt => q t ts n _ (g2.trans (same_new nt _)) ⟨⟨rs, upd_same, by omega, fun j r t' a1 a2 => same_new nt _ _ _ (hrt j r t' a1 a2)⟩, by omega, by omega, n1, n5, ht⟩⟩⟩
end
def smallL (c : Nat) : Prop := 97 ≤ c ∧ c ≤ 122
structure NameOk (x : Str) : Prop where
  some1 : 1 ≤ x.cps.toList.length
  few : x.cps.toList.length ≤ 8
  small : ∀ c ∈ x.cps.toList, smallL c
def abc : Str := Str.ofString "abcdefghijklmnopqrstuvwxyz"
theorem abc_len : abc.length = 26 := by decide +kernel
theorem abc_at {i : Nat} (h : i < 26) : atI abc.cps.toList ((i : Nat) : Int) = some (97 + i) := by
  refine atI_nat ?_
  have z : ∀ i : Fin 26, abc.cps.toList[i.1]? = some (97 + i.1) := by decide +kernel
  exact z ⟨i, h⟩
theorem mod26 (c : Int) : V.int (c % 26) = nv (c % 26).toNat ∧ (c % 26).toNat < 26 := mod_nv (n := 26) c (by decide)
theorem empty_list : (Str.ofString "").cps.toList = [] := by decide +kernel
theorem app_list (x y : Str) : (x ++ y).cps.toList = x.cps.toList ++ y.cps.toList := by
  show (x.cps ++ y.cps).toList = _
  simp
theorem str_len (x : Str) : x.length = x.cps.toList.length := by
  show x.cps.size = _
  simp
def spNames : Sp := fun vs H Q _ => ∃ c : Int, vs = [.int c, .int 4] ∧ ∀ (l : Addr) (xs : List Str) H', Same H H' → H' l = some (.lst (xs.map V.str)) → H l = none → xs.length = 4 → xs.Nodup → (∀ x ∈ xs, NameOk x) → Q (.ref l) H'
section
variable {P : Program} {w : World} {K : PySem.W.Frag} {mg : Str → Option Value} {base : Heap} {f : Addr} {fd : FuncData}
theorem ok_names (F : Fun K "_law_names" "_law_names" sLawNames f fd) (m_range : mg "range" = none) (m_len : mg "len" = none) (m_int : mg "int" = none) : FnOk P w K mg base CX0 1 f fd ["_law_cell", "_law_many"] spNames := by
  refine F.ok scLawNames (fun vs H Q E h => ?_) (fun cdv A outer s H vs Q E hr h => ?_)
  · obtain ⟨c, rfl, _⟩ := h
    rfl
  obtain ⟨c, rfl, q⟩ := h
  refine ⟨_, (pss_cons (ps_set (i := 2) scLawNames.nd rfl (Or.inl rfl) pe_str) (pss_cons (ps_setC1 (CompSc.to (N := ["_law_cell", "_law_many", "_law_letters", "_law_base", "_law_at", "_law_names_here", "_law_k", "_law_name", "_law_j"]) (osc := defScope sLawNames) (vs := ["_law_k"]) ⟨rfl, by decide +kernel, by decide +kernel, by decide +kernel, by decide +kernel, by decide +kernel, by decide +kernel⟩) rfl rfl scLawNames.nd (j := 3) rfl rfl (pi_range1 rfl m_range (pa_cons (pe_op op_add pe_int (pe_op op_mod (pv 0) pe_int)) pa_nil)) (fun _ _ _ _ => pts_nil) (fun _ _ _ _ => (pe_op op_mod (pe_op op_add (pe_op op_fdiv (pe_op op_fdiv (pv 1) pe_int) (pe_op op_add (pe_op op_mul (pv 0) (pv 0)) pe_int)) (pe_op op_mul pe_int (pv 0))) pe_int))) (pss_cons (ps_set (i := 4) scLawNames.nd rfl (Or.inl rfl) (pe_op op_mod (pe_op op_fdiv (pv 0) pe_int) (pe_callB call_len_seq rfl m_len boot_len (pa_cons (pv 3) pa_nil)))) (pss_cons (ps_set (i := 5) scLawNames.nd rfl (Or.inl rfl) (pe_lst pa_nil)) (pss_cons (ps_for PassesOwn.never rfl (pi_range1 rfl m_range (pa_cons (pv 1) pa_nil)) (pg_name (i := 6) scLawNames.nd rfl (Or.inl rfl)) (pss_cons (ps_set (i := 7) scLawNames.nd rfl (Or.inl rfl) pe_str) (pss_cons (ps_for PassesOwn.never rfl (pi_range1 rfl m_range (pa_cons (pe_callB call_len_seq rfl m_len boot_len (pa_cons (pv 3) pa_nil)) pa_nil)) (pg_name (i := 8) scLawNames.nd rfl (Or.inl rfl)) (pss_one (ps_set (i := 7) scLawNames.nd rfl (Or.inl rfl) (pe_op op_add_str (pv 7) (pe_ix ix_str (pv 2) (pe_op op_mod (pe_op op_add (pe_ix ix_list (pv 3) (pv 8) (fun _ _ => rfl)) (pe_op op_mul (pv 6) (pe_callTy call_int1 rfl m_int boot_int (pa_cons (pe_cmpR op_eq (pv 8) (pv 4) (nomark _)) pa_nil)))) pe_int) (fun _ _ => rfl)))))) (pss_cons (ps_cut (ps_if (PW.pt (pw_and (pt_cmpR op_eq (pe_op op_mod (pe_op op_fdiv (pv 0) pe_int) pe_int) pe_int (nomark _)) (pw_and1 (pt_cmpR op_eq (pe_op op_mod (pv 6) pe_int) pe_int (nomark _))))) (pss_one (ps_set (i := 7) scLawNames.nd rfl (Or.inl rfl) (pe_op op_add_str (pv 7) (pe_ix ix_str (pv 2) (pe_op op_mod (pe_op op_fdiv (pv 0) pe_int) pe_int) (fun _ _ => rfl))))) pss_nil)) (pss_one (ps_expr (pe_bm PySem.F.plainAttrs_list PySem.F.slot_list_append PySem.F.type_list_append mt_append (pv 5) (pa_cons (pv 7) pa_nil)))))))) (pss_one (ps_ret (pv 5)))))))), ?_⟩
  have cN : ∀ {i : Nat}, i < 7 → CMul (0 + (i : Int)) (0 + (i : Int)) := fun {i} h => .inl ⟨by omega, by omega⟩
  obtain ⟨L, eL, L1, L7⟩ : ∃ L : Nat, (1 + c % 7 : Int) = (L : Int) ∧ 1 ≤ L ∧ L ≤ 7 := ⟨(1 + c % 7).toNat, by omega, by omega, by omega⟩
  have eL2 : (L : Int).toNat = L := Int.toNat_natCast L
  refine ⟨_, rfl, _, _, rfl, rfl, (by decide : (0 : Int) < 7), _, _, rfl, rfl, (L : Int), (by show [V.int (1 + c % 7)] = _; rw [eL]), by omega, by omega, map_range (f := fun (i : Nat) => nv ((c / 7 / ((0 + (i : Int)) * (0 + (i : Int)) + 1) + 5 * (0 + (i : Int))) % 26).toNat) (small (by omega)) (fun i Q hi q => ?_) (fun bl hbl => ?_)⟩
  · have hi' : i < 7 := by omega
    have sq : (0 + (i : Int)) * (0 + (i : Int)) ≤ 49 := by
      have := Int.mul_le_mul (show (0 + (i : Int)) ≤ 7 by omega) (show (0 + (i : Int)) ≤ 7 by omega) (by omega) (by decide)
      omega
    have sq0 : 0 ≤ (0 + (i : Int)) * (0 + (i : Int)) := Int.mul_nonneg (by omega) (by omega)
    refine ⟨_, rfl, _, _, rfl, rfl, ⟨by decide, by decide⟩, _, rfl, _, rfl, _, _, rfl, rfl, cN hi', _, _, rfl, rfl, _, _, rfl, rfl, ⟨by omega, by omega⟩, _, rfl, _, _, rfl, rfl, .inl ⟨by decide, by decide⟩, _, _, rfl, rfl, _, _, rfl, rfl, (by decide : (0 : Int) < 26), ?_⟩
    try dsimp only
    rw [(mod26 _).1]
    exact q
  obtain ⟨bs, ebs, lbs, lt26⟩ : ∃ bs : List Nat, (List.range (L : Int).toNat).map (fun (i : Nat) => nv ((c / 7 / ((0 + (i : Int)) * (0 + (i : Int)) + 1) + 5 * (0 + (i : Int))) % 26).toNat) = bs.map nv ∧ bs.length = L ∧ ∀ b ∈ bs, b < 26 :=
    ⟨(List.range L).map fun (i : Nat) => ((c / 7 / ((0 + (i : Int)) * (0 + (i : Int)) + 1) + 5 * (0 + (i : Int))) % 26).toNat, by rw [eL2, List.map_map]; rfl, by simp, fun b hb => by
      obtain ⟨i, _, rfl⟩ := List.mem_map.mp hb
      exact (mod_nv (n := 26) _ (by decide)).2⟩
  rw [ebs]
  have kbl := same_new hbl (.lst (bs.map nv))
  have ebl : upd H bl (.lst (bs.map nv)) bl = some (.lst (bs.map nv)) := upd_same
  generalize upd H bl (.lst (bs.map nv)) = H1 at kbl ebl ⊢
  have Lp : (0 : Int) < (((bs.map nv).length : Nat) : Int) := by rw [List.length_map, lbs]; omega
  refine ⟨_, rfl, _, _, rfl, rfl, ⟨by decide, by decide⟩, _, rfl, bl, _, rfl, .inl (SqL.of ebl), _, _, rfl, rfl, Lp, ?_⟩
  obtain ⟨m1, m2⟩ := mod_nv (c / 7) L1
  try dsimp only
  rw [List.length_map, lbs, m1]
  generalize (c / 7 % (L : Int)).toNat = at' at m2
  refine ⟨by show 0 ≤ sizeLine; decide, fun nl hnl => ?_⟩
  have knl := same_new hnl (.lst [])
  have enl : upd H1 nl (.lst []) nl = some (.lst []) := upd_same
  have nlH : H nl = none := kbl.free hnl
  have nb : bl ≠ nl := fun z => by rw [z, hnl] at ebl; cases ebl
  have ebl2 := knl _ _ ebl
  generalize upd H1 nl (.lst []) = H2 at knl enl ebl2 ⊢
  let good (x : Str) (k m : Nat) : Prop := x.cps.toList.length = m ∧ (∀ c ∈ x.cps.toList, smallL c) ∧ (at' < m → x.cps.toList[at']? = some (97 + (bs.getD at' 0 + k) % 26))
  let Pk : Nat → L2.St → Hp → Prop := fun k σ H' => Same H H' ∧ ∃ (xs : List Str) (o6 o7 o8 : Option V), H' bl = some (.lst (bs.map nv)) ∧ H' nl = some (.lst (xs.map V.str)) ∧ xs.length = k ∧ (∀ (j : Nat) x, xs[j]? = some x → NameOk x ∧ x.cps.toList[at']? = some (97 + (bs.getD at' 0 + j) % 26)) ∧ σ = [some (.int c), some (.int 4), some (.str abc), some (.ref bl), some (nv at'), some (.ref nl), o6, o7, o8]
  refine ⟨_, rfl, 4, rfl, by decide, by decide, for_range Pk ⟨kbl.trans knl, [], none, none, none, ebl2, enl, rfl, (fun j x e => absurd e (by simp)), rfl⟩ (fun k σ H3 hk p => ?_) (fun σ H3 p => ?_)⟩
  · obtain ⟨g3, xs, o6, o7, o8, eb3, en3, lx, each, rfl⟩ := p
    have hk' : k < 4 := by simpa using hk
    let Pj : Nat → L2.St → Hp → Prop := fun j σ H' => H' = H3 ∧ ∃ (x : Str) (o8 : Option V), good x k j ∧ σ = [some (.int c), some (.int 4), some (.str abc), some (.ref bl), some (nv at'), some (.ref nl), some (.int (0 + (k : Int))), some (.str x), o8]
    refine ⟨_, rfl, bl, _, rfl, .inl (SqL.of eb3), (L : Int), (by rw [List.length_map, lbs]), by omega, by omega, for_range Pj ⟨rfl, _, _, ⟨by rw [empty_list]; rfl, (fun c hc => absurd hc (by rw [empty_list]; simp)), fun h => absurd h (by omega)⟩, rfl⟩ (fun j σ H4 hj p => ?_) (fun σ H4 p => ?_)⟩
    · obtain ⟨rfl, x, o8, ⟨g1, g2, g4⟩, rfl⟩ := p
      have hj' : j < L := by simpa using hj
      have e0 : (0 + (j : Int)) = ((j : Nat) : Int) := by omega
      obtain ⟨b, eb, b1⟩ : ∃ b : Int, (if decide (V.int (0 + (j : Int)) = nv at') = true then (1 : Int) else 0) = b ∧ b = if j = at' then 1 else 0 := ⟨_, rfl, by
        by_cases z : j = at'
        · rw [if_pos z, if_pos (decide_eq_true (by rw [z, Int.zero_add]))]
        · rw [if_neg z, if_neg fun y => z (by have y' := of_decide_eq_true y; injection y' with y'; omega)]⟩
      have b2 : b = 0 ∨ b = 1 := by rw [b1]; split <;> simp
      have cm : CMul (0 + (k : Int)) b := .inl ⟨by omega, by omega⟩
      obtain ⟨m3, m4⟩ := mod_nv (n := 26) ((bs.getD j 0 : Int) + (0 + (k : Int)) * b) (by decide)
      have bad : atI (bs.map nv) ((j : Nat) : Int) = some (nv (bs.getD j 0)) := at_nv (by omega)
      refine ⟨_, rfl, _, rfl, _, rfl, _, rfl, bl, _, _, _, rfl, rfl, SqL.of eb3, (by rw [e0]; exact bad), _, rfl, _, rfl, _, rfl, rfl, .inr ⟨_, rfl, ?_⟩⟩
      rw [eb]
      refine ⟨_, _, rfl, rfl, cm, _, _, rfl, rfl, _, _, rfl, rfl, (by decide : (0 : Int) < 26), ?_⟩
      try dsimp only
      have m3' : V.int (((bs.getD j 0 : Nat) : Int) + (0 + (k : Int)) * b) = V.int (((bs.getD j 0 : Nat) : Int) + (0 + (k : Int)) * b) := rfl
      rw [show V.int ((((bs.getD j 0 : Nat) : Int) + (0 + (k : Int)) * b) % 26) = nv ((((bs.getD j 0 : Nat) : Int) + (0 + (k : Int)) * b) % 26).toNat from m3]
      generalize ed : ((((bs.getD j 0 : Nat) : Int) + (0 + (k : Int)) * b) % 26).toNat = d at m4
      refine ⟨_, _, _, rfl, rfl, by rw [abc_len, sizeLine_eq]; decide, abc_at m4, _, _, rfl, rfl, ?_, rfl, x ++ ⟨#[97 + d]⟩, _, ⟨?_, ?_, ?_⟩, rfl⟩
      · rw [str_len, g1]
        show j + 1 ≤ sizeLine
        rw [sizeLine_eq]
        omega
      · rw [app_list, List.length_append, g1]
        rfl
      · intro c' hc
        rw [app_list] at hc
        rcases List.mem_append.mp hc with h | h
        · exact g2 _ h
        · rw [List.mem_singleton.mp h]
          exact ⟨by omega, by omega⟩
      · intro h
        rw [app_list]
        rcases Nat.lt_or_ge at' j with h2 | h2
        · rw [List.getElem?_append_left (by omega)]
          exact g4 h2
        · have ea : at' = j := by omega
          rw [List.getElem?_append_right (by omega), g1, ea, Nat.sub_self]
          show some (97 + d) = _
          rw [← ed, b1, if_pos ea.symm]
          congr 2
          omega
    · obtain ⟨rfl, x, o8, ⟨g1, g2, g4⟩, rfl⟩ := p
      have g1 : x.cps.toList.length = L := g1.trans eL2
      have g4 : x.cps.toList[at']? = some (97 + (bs.getD at' 0 + k) % 26) := g4 (by rw [eL2]; exact m2)
      refine ⟨fun σ' H' => H' = H4 ∧ ∃ (y : Str) (o8 : Option V), NameOk y ∧ y.cps.toList[at']? = some (97 + (bs.getD at' 0 + k) % 26) ∧ σ' = [some (.int c), some (.int 4), some (.str abc), some (.ref bl), some (nv at'), some (.ref nl), some (.int (0 + (k : Int))), some (.str y), o8], ?_, fun σ' H' p' => ?_⟩
      · have stay : NameOk x := ⟨by omega, by omega, g2⟩
        refine ⟨_, rfl, _, _, rfl, rfl, ⟨by decide, by decide⟩, _, _, rfl, rfl, (by decide : (0 : Int) < 2), rfl, _, rfl, ite2 (fun c5 => ?_) (fun c5 => iteF ⟨rfl, x, _, stay, g4, rfl⟩)⟩
        refine ⟨_, rfl, _, _, rfl, rfl, (by decide : (0 : Int) < 2), rfl, _, rfl, ite2 (fun c6 => ?_) (fun c6 => ⟨rfl, x, _, stay, g4, rfl⟩)⟩
        obtain ⟨m5, m6⟩ := mod26 (c / 98)
        refine ⟨_, rfl, _, rfl, _, rfl, _, _, rfl, rfl, ⟨by decide, by decide⟩, _, _, rfl, rfl, (by decide : (0 : Int) < 26), ?_⟩
        try dsimp only
        rw [m5]
        generalize (c / 98 % 26).toNat = d at m6
        refine ⟨_, _, _, rfl, rfl, by rw [abc_len, sizeLine_eq]; decide, abc_at m6, _, _, rfl, rfl, ?_, rfl, x ++ ⟨#[97 + d]⟩, _, ⟨?_, ?_, ?_⟩, ?_, rfl⟩
        · rw [str_len, g1]
          show L + 1 ≤ sizeLine
          rw [sizeLine_eq]
          omega
        · rw [app_list, List.length_append]
          omega
        · rw [app_list, List.length_append, g1]
          show L + 1 ≤ 8
          omega
        · intro c' hc
          rw [app_list] at hc
          rcases List.mem_append.mp hc with h | h
          · exact g2 _ h
          · rw [List.mem_singleton.mp h]
            exact ⟨by omega, by omega⟩
        · rw [app_list, List.getElem?_append_left (by omega)]
          exact g4
      · obtain ⟨rfl, y, o8, oky, aty, rfl⟩ := p'
        refine ⟨_, rfl, .inl ⟨rfl, _, SqL.of en3⟩, _, rfl, nl, _, _, rfl, rfl, en3, by rw [List.length_map, sizeLine_eq]; omega, ?_⟩
        refine ⟨same_upd g3 nlH, xs ++ [y], _, _, _, by rw [upd_ne nb]; exact eb3, by rw [upd_same, List.map_append]; rfl, by rw [List.length_append, lx]; rfl, fun j x' e => ?_, rfl⟩
        rcases Nat.lt_or_ge j k with h | h
        · rw [List.getElem?_append_left (by omega)] at e
          exact each j x' e
        · rw [List.getElem?_append_right (by omega)] at e
          have j0 : j - xs.length = 0 := by
            have := (List.getElem?_eq_some_iff.mp e).1
            simp at this
            omega
          have jk : j = k := by omega
          rw [j0] at e
          cases e
          rw [jk]
          exact ⟨oky, aty⟩
  · obtain ⟨g3, xs, o6, o7, o8, eb3, en3, lx, each, rfl⟩ := p
    refine ⟨_, rfl, q nl xs _ g3 en3 nlH lx ?_ fun x hx => ?_⟩
    · rw [List.nodup_iff_pairwise_ne]
      refine List.pairwise_iff_getElem.mpr fun i j hi hj hij e => ?_
      have hj4 : j < 4 := by have : xs.length = 4 := lx; omega
      have ei := (each i xs[i] (List.getElem?_eq_getElem _)).2
      have ej := (each j xs[j] (List.getElem?_eq_getElem _)).2
      rw [e, ej] at ei
      have z := Option.some.inj ei
      omega
    · obtain ⟨j, hj, e⟩ := List.getElem_of_mem hx
      exact (each j x (by rw [List.getElem?_eq_getElem hj, e])).1
end
theorem str_ext {x y : Str} (h : x.cps.toList = y.cps.toList) : x = y := by
  cases x
  cases y
  congr 1
  exact Array.toList_inj.mp h
def jl (c : List Nat) : List (List Nat) → List Nat
  | [] => []
  | [x] => x
  | x :: y :: r => x ++ c ++ jl c (y :: r)
theorem join_list (sep : Str) : ∀ l : List Str, (Str.join sep l).cps.toList = jl sep.cps.toList (l.map fun x => x.cps.toList)
  | [] => rfl
  | [x] => rfl
  | x :: y :: r => by
    show (x ++ sep ++ Str.join sep (y :: r)).cps.toList = x.cps.toList ++ sep.cps.toList ++ jl _ _
    rw [app_list, app_list, join_list sep (y :: r)]
    rfl
theorem tjoin_list (sep : Str) (l : List Str) : (Txt.join sep l).cps.toList = jl sep.cps.toList (l.map fun x => x.cps.toList) := by
  rw [eq_of_beq (join_plain_closes sep l), join_list]
theorem cut_uniq {c : Nat} : ∀ {x y A B : List Nat}, c ∉ x → c ∉ y → x ++ c :: A = y ++ c :: B → x = y ∧ A = B
  | [], [], A, B, _, _, h => ⟨rfl, by injection h⟩
  | [], b :: y, A, B, _, hy, h => by
    injection h with h1 _
    exact absurd (by rw [h1]; exact List.mem_cons_self ..) hy
  | a :: x, [], A, B, hx, _, h => by
    injection h with h1 _
    exact absurd (by rw [← h1]; exact List.mem_cons_self ..) hx
  | a :: x, b :: y, A, B, hx, hy, h => by
    injection h with h1 h2
    obtain ⟨e1, e2⟩ := cut_uniq (fun z => hx (List.mem_cons_of_mem _ z)) (fun z => hy (List.mem_cons_of_mem _ z)) h2
    exact ⟨by rw [h1, e1], e2⟩
theorem jl_uniq {c : Nat} : ∀ {ps qs : List (List Nat)}, ps ≠ [] → qs ≠ [] → (∀ p ∈ ps, c ∉ p) → (∀ p ∈ qs, c ∉ p) → jl [c] ps = jl [c] qs → ps = qs
  | [], _, h, _, _, _, _ => absurd rfl h
  | _, [], _, h, _, _, _ => absurd rfl h
  | [x], [y], _, _, _, _, h => by
    have h' : x = y := h
    rw [h']
  | [x], y :: z :: r, _, _, hp, _, h => by
    have h' : x = y ++ [c] ++ jl [c] (z :: r) := h
    exact absurd (by rw [h']; simp) (hp x (List.mem_singleton.mpr rfl))
  | x :: z :: r, [y], _, _, _, hq, h => by
    have h' : x ++ [c] ++ jl [c] (z :: r) = y := h
    exact absurd (by rw [← h']; simp) (hq y (List.mem_singleton.mpr rfl))
  | x :: z :: r, y :: z' :: r', _, _, hp, hq, h => by
    have h' : x ++ [c] ++ jl [c] (z :: r) = y ++ [c] ++ jl [c] (z' :: r') := h
    rw [List.append_assoc, List.append_assoc] at h'
    obtain ⟨e1, e2⟩ := cut_uniq (hp x (List.mem_cons_self ..)) (hq y (List.mem_cons_self ..)) h'
    have e3 := jl_uniq (ps := z :: r) (qs := z' :: r') (by simp) (by simp) (fun p h => hp p (List.mem_cons_of_mem _ h)) (fun p h => hq p (List.mem_cons_of_mem _ h)) e2
    rw [e1, e3]
theorem split_join {c : Nat} {ps : List Str} (ne : ps ≠ []) (h : ∀ p ∈ ps, c ∉ p.cps.toList) : Txt.split (Txt.join ⟨#[c]⟩ ps) ⟨#[c]⟩ = ps := by
  have e1 := StrLaws.join_split (Txt.join ⟨#[c]⟩ ps) ⟨#[c]⟩
  have e2 : (Str.join ⟨#[c]⟩ (Txt.split (Txt.join ⟨#[c]⟩ ps) ⟨#[c]⟩)).cps.toList = (Txt.join ⟨#[c]⟩ ps).cps.toList := by rw [e1]
  rw [join_list, tjoin_list] at e2
  have e3 := jl_uniq (c := c) (by
      intro z
      have := split_pos (Txt.join ⟨#[c]⟩ ps) ⟨#[c]⟩
      rw [List.map_eq_nil_iff.mp z] at this
      exact absurd this (by decide)) (by intro z; exact ne (List.map_eq_nil_iff.mp z)) (fun p hp => by
      obtain ⟨x, hx, rfl⟩ := List.mem_map.mp hp
      exact StrLaws.split_free _ c x hx) (fun p hp => by
      obtain ⟨x, hx, rfl⟩ := List.mem_map.mp hp
      exact h x hx) e2
  exact List.map_inj_right (fun x y z => str_ext z) |>.mp e3
theorem part_at {c : Nat} {a b : Str} (h : c ∉ a.cps.toList) : Txt.partition (a ++ ⟨#[c]⟩ ++ b) ⟨#[c]⟩ = (a, ⟨#[c]⟩, b) := by
  have ex : (a ++ ⟨#[c]⟩ ++ b).cps.toList = a.cps.toList ++ c :: b.cps.toList := by
    rw [app_list, app_list, List.append_assoc]
    rfl
  generalize a ++ ⟨#[c]⟩ ++ b = x at ex
  have here : x.cps.toList[a.cps.toList.length]? = some c := by rw [ex, List.getElem?_append_right (Nat.le_refl _), Nat.sub_self]; rfl
  have lx : x.length = a.cps.toList.length + 1 + b.cps.toList.length := by rw [str_len, ex, List.length_append, List.length_cons]; omega
  unfold Txt.partition
  rcases StrLaws.occ_head x ⟨#[c]⟩ 1 (Nat.le_refl 1) with ⟨h0, hn⟩ | ⟨i, r, h0, hi, hn⟩
  · exact absurd ((StrLaws.subAt_one x c _).mpr here) (hn _)
  · rw [h0]
    have hi' := (StrLaws.subAt_one x c i).mp hi
    have ei : i = a.cps.toList.length := by
      rcases Nat.lt_trichotomy i a.cps.toList.length with z | z | z
      · rw [ex, List.getElem?_append_left z] at hi'
        exact absurd (List.mem_of_getElem? hi') h
      · exact z
      · exact absurd ((StrLaws.subAt_one x c _).mpr here) (hn _ z)
    show (Builtin.Str.strSub x 0 i, (⟨#[c]⟩ : Str), Builtin.Str.strSub x (i + 1) x.length) = _
    congr 1
    · refine str_ext ?_
      rw [StrLaws.strSub_toList, ex, ei]
      simp
    · congr 1
      refine str_ext ?_
      rw [StrLaws.strSub_toList, ex, ei, lx]
      have e1 : List.drop (a.cps.toList.length + 1) (a.cps.toList ++ c :: b.cps.toList) = b.cps.toList := by
        rw [List.drop_append]
        simp
      rw [e1]
      exact List.take_of_length_le (by omega)
def cellL (d : Nat) : List Nat := [32, 48 + d]
def figL (t : List Nat) : List Nat := t.flatMap cellL
def figS (t : List Nat) : Str := ⟨(figL t).toArray⟩
def rowS (x : Str) (t : List Nat) : Str := x ++ ⟨#[58]⟩ ++ figS t
def rowsS (xs : List Str) (ts : List (List Nat)) : List Str := List.zipWith rowS xs ts
def textS (xs : List Str) (ts : List (List Nat)) : Str := Txt.join ⟨#[10]⟩ (rowsS xs ts)
theorem figS_list (t : List Nat) : (figS t).cps.toList = figL t := by
  show (figL t).toArray.toList = _
  simp
theorem figL_len (t : List Nat) : (figL t).length = 2 * t.length := by
  unfold figL
  induction t with
  | nil => rfl
  | cons a t ih => rw [List.flatMap_cons, List.length_append, ih, List.length_cons]; show 2 + _ = _; omega
theorem evs0 : ∀ t : List Nat, evs (figL t) = t.map fun _ => 32
  | [] => rfl
  | a :: t => by
    show evs (32 :: (48 + a) :: figL t) = 32 :: t.map fun _ => 32
    rw [← evs0 t]
    rfl
theorem evs1 : ∀ t : List Nat, evs ((figL t).drop 1) = t.map fun d => 48 + d
  | [] => rfl
  | [a] => rfl
  | a :: b :: t => by
    have ih := evs1 (b :: t)
    show evs ((48 + a) :: 32 :: (48 + b) :: figL t) = (48 + a) :: (b :: t).map fun d => 48 + d
    rw [← ih]
    rfl
theorem mem_figL {t : List Nat} {c : Nat} (h : c ∈ figL t) : c = 32 ∨ ∃ d ∈ t, c = 48 + d := by
  unfold figL at h
  obtain ⟨d, hd, hc⟩ := List.mem_flatMap.mp h
  simp only [cellL, List.mem_cons, List.not_mem_nil, or_false] at hc
  rcases hc with rfl | rfl
  · exact .inl rfl
  · exact .inr ⟨d, hd, rfl⟩
theorem row_part {x : Str} {t : List Nat} (h : NameOk x) : Txt.partition (rowS x t) ⟨#[58]⟩ = (x, ⟨#[58]⟩, figS t) := part_at fun z => by
  have := h.small _ z
  unfold smallL at this
  omega
theorem row_list (x : Str) (t : List Nat) : (rowS x t).cps.toList = x.cps.toList ++ [58] ++ figL t := by
  unfold rowS
  rw [app_list, app_list, figS_list]
theorem row_free {x : Str} {t : List Nat} (h : NameOk x) : 10 ∉ (rowS x t).cps.toList := fun z => by
  rw [row_list] at z
  rcases List.mem_append.mp z with z | z
  · rcases List.mem_append.mp z with z | z
    · have := h.small _ z
      unfold smallL at this
      omega
    · exact absurd (List.mem_singleton.mp z) (by decide)
  · rcases mem_figL z with e | ⟨d, _, e⟩ <;> omega
theorem row_len {x : Str} {t : List Nat} (h : NameOk x) (ht : t.length ≤ 5) : (rowS x t).length ≤ 19 := by
  rw [str_len, row_list, List.length_append, List.length_append, figL_len]
  have := h.few
  show _ + 1 + _ ≤ 19
  omega
theorem text_split {xs : List Str} {ts : List (List Nat)} (el : xs.length = ts.length) (some1 : 1 ≤ ts.length) (h : ∀ x ∈ xs, NameOk x) : Txt.split (textS xs ts) ⟨#[10]⟩ = rowsS xs ts := by
  refine split_join (fun z => ?_) fun p hp => ?_
  · have e := congrArg List.length z
    unfold rowsS at e
    rw [List.length_zipWith, el, Nat.min_self] at e
    have e' : ts.length = 0 := e
    omega
  · unfold rowsS at hp
    obtain ⟨i, hi, e⟩ := List.getElem_of_mem hp
    rw [List.getElem_zipWith] at e
    rw [← e]
    exact row_free (h _ (List.getElem_mem _))
theorem dig_is {d : Nat} (h : d < 10) : Str.ofString (toString (d : Int)) = (⟨#[48 + d]⟩ : Str) := by
  have z : ∀ d : Fin 10, Str.ofString (toString ((d.1 : Nat) : Int)) = (⟨#[48 + d.1]⟩ : Str) := by decide +kernel
  exact z ⟨d, h⟩
theorem jl_nil : ∀ l : List (List Nat), jl [] l = l.flatten
  | [] => rfl
  | [x] => by simp [jl]
  | x :: y :: r => by
    show x ++ [] ++ jl [] (y :: r) = _
    rw [jl_nil (y :: r)]
    simp
theorem figs_join (t : List Nat) : Txt.join (Str.ofString "") (t.map fun d => (⟨#[32, 48 + d]⟩ : Str)) = figS t := by
  refine str_ext ?_
  rw [tjoin_list, empty_list, jl_nil, figS_list, List.map_map]
  unfold figL
  rw [List.flatMap_def]
  rfl
theorem fig_asc {t : List Nat} (h : ∀ d ∈ t, d < 10) : ∀ c ∈ figL t, c < 128 := fun c hc => by
  rcases mem_figL hc with e | ⟨d, hd, e⟩
  · omega
  · have := h d hd
    omega
def only (x y : Str) : Bool := x.cps.toList.all fun c => decide (c ∈ y.cps.toList)
def figs : Str := Str.ofString "0123456789"
def colon : Str := Str.ofString ":"
def nlS : Str := Str.ofString "\n"
def ev (i : Nat) (x : Str) : Str := ⟨(evs (x.cps.toList.drop i)).toArray⟩
def isNm (x : Str) : Bool := (decide (1 ≤ x.length) && decide (x.length ≤ 8)) && only x abc
def isFg (x : Str) : Bool := (decide (x ≠ Str.ofString "") && decide (x.length % 2 = 0)) && (only (ev 0 x) (Str.ofString " ") && only (ev 1 x) figs)
def rowR (x : Str) : Option (Str × List Nat) := if isNm (Txt.partition x colon).1 && isFg (Txt.partition x colon).2.2 then some ((Txt.partition x colon).1, (ev 1 (Txt.partition x colon).2.2).cps.toList.map (· - 48)) else none
theorem asc_iff {x : Str} : Asc x ↔ ∀ c ∈ x.cps.toList, c < 128 := by
  unfold Asc
  rw [← Array.all_toList, List.all_eq_true]
  exact ⟨fun h c hc => of_decide_eq_true (h c hc), fun h c hc => decide_eq_true (h c hc)⟩
theorem ev_list (i : Nat) (x : Str) : (ev i x).cps.toList = evs (x.cps.toList.drop i) := by simp [ev]
theorem evs_mem : ∀ {l : List Nat} {c : Nat}, c ∈ evs l → c ∈ l
  | [], _, h => h
  | [a], _, h => h
  | a :: b :: r, c, h => by
    rcases List.mem_cons.mp (show c ∈ a :: evs r from h) with z | z
    · exact z ▸ List.mem_cons_self ..
    · exact List.mem_cons_of_mem _ (List.mem_cons_of_mem _ (evs_mem z))
theorem evs_at : ∀ (l : List Nat) (j : Nat), (evs l)[j]? = l[2 * j]?
  | [], j => by simp [evs]
  | [a], 0 => rfl
  | [a], j + 1 => by
    show ([] : List Nat)[j]? = [a][2 * j + 1 + 1]?
    simp
  | a :: b :: r, 0 => rfl
  | a :: b :: r, j + 1 => by
    show (evs r)[j]? = r[2 * j]?
    exact evs_at r j
theorem evs_len : ∀ l : List Nat, (evs l).length = (l.length + 1) / 2
  | [] => rfl
  | [a] => by simp [evs]
  | a :: b :: r => by
    show (evs r).length + 1 = (r.length + 1 + 1 + 1) / 2
    rw [evs_len r]
    omega
def Within (x y : Str) : Prop := (∀ c ∈ x.cps.toList, c ∈ y.cps.toList) ∧ x.length ≤ y.length
theorem Within.trans {x y z : Str} (a : Within x y) (b : Within y z) : Within x z := ⟨fun c h => b.1 c (a.1 c h), Nat.le_trans a.2 b.2⟩
theorem Within.asc {x y : Str} (a : Within x y) (b : Asc y) : Asc x := asc_iff.mpr fun c h => asc_iff.mp b c (a.1 c h)
theorem within_list {x y : Str} {l : List Nat} (e : x.cps.toList = l) (h : ∀ c ∈ l, c ∈ y.cps.toList) (n : l.length ≤ y.cps.toList.length) : Within x y := ⟨fun c hc => h c (e ▸ hc), by rw [str_len, str_len, e]; exact n⟩
theorem within_sub (x : Str) (i j : Nat) : Within (Builtin.Str.strSub x i j) x := within_list (StrLaws.strSub_toList x i j) (fun c h => List.mem_of_mem_drop (List.mem_of_mem_take h)) (by rw [List.length_take, List.length_drop]; omega)
theorem within_none (x : Str) : Within (Str.ofString "") x := within_list empty_list (fun c h => nomatch h) (Nat.zero_le _)
theorem within_self (x : Str) : Within x x := ⟨fun _ h => h, Nat.le_refl _⟩
theorem part_in (x y : Str) : Within (Txt.partition x y).1 x ∧ Within (Txt.partition x y).2.2 x := by
  unfold Txt.partition
  split
  · exact ⟨within_sub .., within_sub ..⟩
  · exact ⟨within_self x, within_none x⟩
theorem ev_in (i : Nat) (x : Str) : Within (ev i x) x := within_list (ev_list i x) (fun c h => List.mem_of_mem_drop (evs_mem h)) (by rw [evs_len, List.length_drop]; omega)
theorem slice_in (x : Str) (lo hi : Option Int) : Within (Txt.slice x lo hi) x := ⟨fun c h => slice_mem h, Txt.slice_le x lo hi⟩
theorem jl_piece {c : List Nat} : ∀ {ps : List (List Nat)} {p : List Nat}, p ∈ ps → (∀ a ∈ p, a ∈ jl c ps) ∧ p.length ≤ (jl c ps).length
  | [x], p, h => by
    rw [List.mem_singleton.mp h]
    exact ⟨fun _ h => h, Nat.le_refl _⟩
  | x :: y :: r, p, h => by
    show (∀ a ∈ p, a ∈ x ++ c ++ jl c (y :: r)) ∧ p.length ≤ (x ++ c ++ jl c (y :: r)).length
    rw [List.length_append, List.length_append]
    rcases List.mem_cons.mp h with rfl | h
    · exact ⟨fun a h => List.mem_append_left _ (List.mem_append_left _ h), by omega⟩
    · obtain ⟨a, b⟩ := jl_piece (c := c) h
      exact ⟨fun z h => List.mem_append_right _ (a z h), by omega⟩
theorem jl_many {c : Nat} : ∀ (ps : List (List Nat)), ps.length ≤ (jl [c] ps).length + 1
  | [] => by simp
  | [x] => by simp
  | x :: y :: r => by
    have z := jl_many (c := c) (y :: r)
    show _ ≤ (x ++ [c] ++ jl [c] (y :: r)).length + 1
    rw [List.length_append, List.length_append]
    simp only [List.length_cons, List.length_nil] at z ⊢
    omega
theorem nl_is : nlS = (⟨#[10]⟩ : Str) := by decide +kernel
theorem split_list (x : Str) : jl [10] ((Txt.split x nlS).map fun x => x.cps.toList) = x.cps.toList := by
  rw [nl_is]
  have e := StrLaws.join_split x ⟨#[10]⟩
  have z := join_list ⟨#[10]⟩ (Txt.split x ⟨#[10]⟩)
  rw [e] at z
  exact z.symm
theorem split_in {x p : Str} (h : p ∈ Txt.split x nlS) : Within p x := by
  obtain ⟨a, b⟩ := jl_piece (c := [10]) (List.mem_map_of_mem (f := fun x : Str => x.cps.toList) h)
  rw [split_list] at a b
  exact ⟨a, by rw [str_len, str_len]; exact b⟩
theorem split_many (x : Str) : (Txt.split x nlS).length ≤ x.length + 1 := by
  have z := jl_many (c := 10) ((Txt.split x nlS).map fun x => x.cps.toList)
  rw [split_list, List.length_map] at z
  rw [str_len]
  exact z
theorem split_some (x : Str) : 1 ≤ (Txt.split x nlS).length := split_pos x nlS
theorem figs_mem {c : Nat} : c ∈ figs.cps.toList ↔ 48 ≤ c ∧ c ≤ 57 := by
  rw [show figs.cps.toList = [48, 49, 50, 51, 52, 53, 54, 55, 56, 57] by decide +kernel]
  simp
  omega
structure RowOk (n : Str) (t : List Nat) : Prop where
  nm : n.length ≤ 8
  some1 : 1 ≤ t.length
  d10 : ∀ d ∈ t, d < 10
theorem rowR_ok {x : Str} {n : Str} {t : List Nat} (h : rowR x = some (n, t)) : RowOk n t ∧ t.length ≤ x.length := by
  unfold rowR at h
  split at h
  · rename_i c
    cases h
    rw [Bool.and_eq_true] at c
    obtain ⟨c1, c2⟩ := c
    unfold isNm at c1
    unfold isFg at c2
    simp only [Bool.and_eq_true, decide_eq_true_eq] at c1 c2
    obtain ⟨⟨n1, n8⟩, _⟩ := c1
    obtain ⟨⟨b1, b2⟩, _, b4⟩ := c2
    have w := (part_in x colon).2
    have hb : (Txt.partition x colon).2.2.length ≠ 0 := fun z => b1 (str_ext (by rw [empty_list]; rw [str_len] at z; exact List.length_eq_zero_iff.mp z))
    have le : (ev 1 (Txt.partition x colon).2.2).cps.toList.length = (Txt.partition x colon).2.2.length / 2 := by
      rw [ev_list, evs_len, List.length_drop, ← str_len]
      omega
    refine ⟨⟨n8, by rw [List.length_map, le]; omega, fun d hd => ?_⟩, by rw [List.length_map, le]; have := w.2; omega⟩
    obtain ⟨c, hc, rfl⟩ := List.mem_map.mp hd
    have := figs_mem.mp (of_decide_eq_true (List.all_eq_true.mp b4 c hc))
    omega
  · cases h
def spHasOnly : Sp := fun vs H Q _ => ∃ x y : Str, vs = [.str x, .str y] ∧ Asc x ∧ x.length ≤ 1000 ∧ ∀ H', Same H H' → Q (.bl (only x y)) H'
def spIsName : Sp := fun vs H Q _ => ∃ x : Str, vs = [.str x] ∧ Asc x ∧ x.length ≤ 1000 ∧ ∀ H', Same H H' → Q (.bl (isNm x)) H'
def spIsFigures : Sp := fun vs H Q _ => ∃ x : Str, vs = [.str x] ∧ Asc x ∧ x.length ≤ 1000 ∧ ∀ H', Same H H' → Q (.bl (isFg x)) H'
def spReadRow (C : Addr) : Sp := fun vs H Q E => ∃ x : Str, vs = [.str x] ∧ Asc x ∧ x.length ≤ 1000 ∧ (∀ n t p r H', Same H H' → rowR x = some (n, t) → H' p = some (.tup [.str n, .ref r]) → H' r = some (.tup (t.map nv)) → Q (.ref p) H') ∧ ∀ H', Same H H' → rowR x = none → E (.ref C) none H'
section
variable {P : Program} {w : World} {K : PySem.W.Frag} {mg : Str → Option Value} {base : Heap} {f : Addr} {fd : FuncData}
theorem ok_has_only (F : Fun K "has_only" "has_only" sHasOnly f fd) (m_all : mg "all" = none) : FnOk P w K mg base CX0 1 f fd ["text", "signs"] spHasOnly := by
  refine F.ok scHasOnly (fun vs H Q E h => ?_) (fun cdv A outer s H vs Q E hr h => ?_)
  · obtain ⟨x, y, rfl, _⟩ := h
    rfl
  obtain ⟨x, y, rfl, ax, lx, q⟩ := h
  refine ⟨_, (pss_one (ps_ret (pe_callB (call_allL rfl) rfl m_all boot_all (pa_cons (pe_comp1 (CompSc.to (N := ["text", "signs"]) (osc := defScope sHasOnly) (vs := ["sign"]) ⟨rfl, by decide +kernel, by decide +kernel, by decide +kernel, by decide +kernel, by decide +kernel, by decide +kernel⟩) rfl rfl (pi_str (pv 0)) (fun _ _ _ _ => pts_nil) (fun _ _ _ _ => (pe_cmpR op_in_str (pv 0) (pv 2) (by with_unfolding_all rfl)))) pa_nil)))), ?_⟩
  refine ⟨_, rfl, x, rfl, ax, map_str (f := fun c => .bl (decide (c ∈ y.cps.toList))) (small lx) (fun c Q hc q => ?_) (fun p hp => ?_)⟩
  · refine ⟨_, rfl, _, rfl, _, _, rfl, rfl, ?_⟩
    rw [show sgn c = (⟨#[c]⟩ : Str) from rfl, StrLaws.found_one]
    exact q
  · have e : x.cps.toList.map (fun c => V.bl (decide (c ∈ y.cps.toList))) = (x.cps.toList.map fun c => decide (c ∈ y.cps.toList)).map V.bl := by rw [List.map_map]; rfl
    try dsimp only
    rw [e]
    refine ⟨p, _, rfl, SqL.of upd_same, ?_⟩
    rw [List.all_map]
    exact q _ (same_new hp _)
theorem ok_is_name (F : Fun K "is_name" "is_name" sIsName f fd) (c_has_only : Callee P w K mg base "has_only" 1 ["text", "signs"] spHasOnly) {t1 t2 : Tok} (m_MOST_SIGNS : mg "MOST_SIGNS" = some (.int 8 t1)) (m_SMALL_LETTERS : mg "SMALL_LETTERS" = some (.str (Str.ofString "abcdefghijklmnopqrstuvwxyz") t2)) (m_len : mg "len" = none) : FnOk P w K mg base CX0 3 f fd ["text"] spIsName := by
  refine F.ok scIsName (fun vs H Q E h => ?_) (fun cdv A outer s H vs Q E hr h => ?_)
  · obtain ⟨x, rfl, _⟩ := h
    rfl
  obtain ⟨x, rfl, ax, lx, q⟩ := h
  refine ⟨_, (pss_one (ps_ret (pe_and (pe_chain op_le op_le pe_int (pe_callB call_len_str rfl m_len boot_len (pa_cons (pv 0) pa_nil)) (pe_glob (v := .int 8) rfl m_MOST_SIGNS ⟨_, rfl⟩)) (pe_one (pe_callD c_has_only (hr.mono (by decide)) rfl (pl_at (pl_cons (pv 0) (pl_cons (pe_glob (v := .str (Str.ofString "abcdefghijklmnopqrstuvwxyz")) rfl m_SMALL_LETTERS ⟨_, rfl⟩) pl_nil rfl) rfl))))))), ?_⟩
  unfold isNm at q
  refine ⟨_, rfl, x, rfl, small (by omega), _, _, rfl, rfl, _, rfl, ite2 (fun c => ?_) (fun c => ?_)⟩
  · have c1 : 1 ≤ x.length := by have := of_decide_eq_true c; omega
    rw [decide_eq_true c1] at q
    refine ⟨_, _, rfl, rfl, _, rfl, ite2 (fun c => ?_) (fun c => ?_)⟩
    · have c8 : x.length ≤ 8 := by have := of_decide_eq_true c; omega
      rw [decide_eq_true c8] at q
      exact ⟨_, rfl, x, abc, rfl, ax, lx, q⟩
    · have c8 : ¬ x.length ≤ 8 := fun z => c (decide_eq_true (by omega))
      rw [decide_eq_false c8] at q
      exact q H (Same.refl _)
  · have c1 : ¬ 1 ≤ x.length := fun z => c (decide_eq_true (by omega))
    rw [decide_eq_false c1] at q
    exact ⟨_, rfl, iteF (q H (Same.refl _))⟩
theorem ok_is_figures (F : Fun K "is_figures" "is_figures" sIsFigures f fd) (c_has_only : Callee P w K mg base "has_only" 1 ["text", "signs"] spHasOnly) {t1 : Tok} (m_FIGURES : mg "FIGURES" = some (.str (Str.ofString "0123456789") t1)) (m_len : mg "len" = none) : FnOk P w K mg base CX0 3 f fd ["text"] spIsFigures := by
  refine F.ok scIsFigures (fun vs H Q E h => ?_) (fun cdv A outer s H vs Q E hr h => ?_)
  · obtain ⟨x, rfl, _⟩ := h
    rfl
  obtain ⟨x, rfl, ax, lx, q⟩ := h
  refine ⟨_, (pss_cons (ps_if (PW.pt (pw_or (pt_cmpR op_eq (pv 0) pe_str (nomark _)) (pw_or1 (pt_cmpR op_ne (pe_op op_mod (pe_callB call_len_str rfl m_len boot_len (pa_cons (pv 0) pa_nil)) pe_int) pe_int (nomark _))))) (pss_one (ps_ret pe_bl)) pss_nil) (pss_one (ps_ret (pe_and (pe_callD c_has_only (hr.mono (by decide)) rfl (pl_at (pl_cons (pe_slice2 (pv 0) pe_int pe_int) (pl_cons pe_str pl_nil rfl) rfl))) (pe_one (pe_callD c_has_only (hr.mono (by decide)) rfl (pl_at (pl_cons (pe_slice2 (pv 0) pe_int pe_int) (pl_cons (pe_glob (v := .str (Str.ofString "0123456789")) rfl m_FIGURES ⟨_, rfl⟩) pl_nil rfl) rfl)))))))), ?_⟩
  have hz : x.length ≤ sizeLine := small lx
  unfold isFg at q
  refine ⟨_, rfl, rfl, _, rfl, ite2 (fun c => ?_) (fun c => ?_)⟩
  · have c := of_decide_eq_true c
    injection c with c
    rw [decide_eq_false (fun z => z c)] at q
    exact q H (Same.refl _)
  have c1 : x ≠ Str.ofString "" := fun z => c (decide_eq_true (by rw [z]))
  rw [decide_eq_true c1] at q
  refine ⟨_, rfl, x, rfl, hz, _, _, rfl, rfl, (by decide : (0 : Int) < 2), rfl, _, rfl, ite2 (fun c => ?_) (fun c => ?_)⟩
  · have c2 : ¬ x.length % 2 = 0 := fun z => by
      have : V.int ((x.length : Int) % 2) = V.int 0 := by congr 1; omega
      simp [this] at c
    rw [decide_eq_false c2] at q
    exact q H (Same.refl _)
  have c2 : x.length % 2 = 0 := by
    have c : V.int ((x.length : Int) % 2) = V.int 0 := by simpa using c
    injection c with c
    omega
  rw [decide_eq_true c2] at q
  have w0 := ev_in 0 x
  have w1 := ev_in 1 x
  refine ⟨_, rfl, x, 0, rfl, rfl, rfl, by decide, hz, ?_⟩
  refine ⟨ev 0 x, _, rfl, w0.asc ax, Nat.le_trans w0.2 lx, fun H1 g1 => ⟨_, rfl, ?_⟩⟩
  cases o : only (ev 0 x) (Str.ofString " ") with
  | false =>
    rw [o] at q
    exact iteF (q H1 g1)
  | true =>
    rw [o] at q
    refine iteT ⟨_, rfl, x, 1, rfl, rfl, rfl, by decide, hz, ?_⟩
    exact ⟨ev 1 x, _, rfl, w1.asc ax, Nat.le_trans w1.2 lx, fun H2 g2 => q H2 (g1.trans g2)⟩
theorem ok_read_row {C : Addr} (F : Fun K "read_row" "read_row" sReadRow f fd) (c_is_name : Callee P w K mg base "is_name" 3 ["text"] spIsName) (c_is_figures : Callee P w K mg base "is_figures" 3 ["text"] spIsFigures) {t1 : Tok} (m_MOST_SIGNS : mg "MOST_SIGNS" = some (.int 8 t1)) (m_NoText : mg "NoText" = some (.ref C)) (q_NoText : ErrC K C) (m_tuple : mg "tuple" = none) (m_int : mg "int" = none) : FnOk P w K mg base (CX1 P w) 5 f fd ["row"] (spReadRow C) := by
  refine F.okX scReadRow (fun vs H Q E h => ?_) (fun cdv A outer s H vs Q E hr h => ?_)
  · obtain ⟨x, rfl, _⟩ := h
    rfl
  obtain ⟨x, rfl, ax, lx, q, qE⟩ := h
  have hu := hr.units
  refine ⟨_, (pss_cons (ps_set (i := 1) scReadRow.nd rfl (Or.inl rfl) (pe_bm PySem.F.plainAttrs_str PySem.F.slot_str_partition PySem.F.type_str_partition mt_part (pv 0) (pa_cons pe_str pa_nil))) (pss_cons (ps_if (PW.pt (pw_or (pt_not (pt_val (pe_callD c_is_name (hr.mono (by decide)) rfl (pa_cons (pe_ix ix_tup (pv 1) pe_int (fun _ _ => rfl)) pa_nil)))) (pw_or1 (pt_not (pt_val (pe_callD c_is_figures (hr.mono (by decide)) rfl (pa_cons (pe_ix ix_tup (pv 1) pe_int (fun _ _ => rfl)) pa_nil))))))) (pss_one (ps_raise rfl throws_def rfl m_NoText q_NoText (pa_cons (pe_fstr (pj_str (pj_int (pe_glob (v := .int 8) rfl m_MOST_SIGNS ⟨_, rfl⟩) (pj_str pj_nil)))) pa_nil))) pss_nil) (pss_one (ps_ret (pe_tup (pl_at (pl_cons (pe_ix ix_tup (pv 1) pe_int (fun _ _ => rfl)) (pl_cons (pe_callTy call_tuple_of rfl m_tuple boot_tuple (pa_cons (pe_comp1 (CompSc.to (N := ["row", "halves"]) (osc := defScope sReadRow) (vs := ["figure"]) ⟨rfl, by decide +kernel, by decide +kernel, by decide +kernel, by decide +kernel, by decide +kernel, by decide +kernel⟩) rfl rfl (pi_str (pe_slice2 (pe_ix ix_tup (pv 1) pe_int (fun _ _ => rfl)) pe_int pe_int)) (fun _ _ _ _ => pts_nil) (fun _ _ _ _ => (pe_callTy call_int_fig rfl m_int boot_int (pa_cons (pv 0) pa_nil)))) pa_nil)) pl_nil rfl) rfl))))))), ?_⟩
  have wa := (part_in x colon).1
  have wb := (part_in x colon).2
  unfold rowR at q qE
  refine ⟨_, rfl, rfl, x, _, rfl, rfl, by decide, small (by omega), fun ha nha => ?_⟩
  rw [show Str.ofString ":" = colon from rfl]
  obtain ⟨⟨a, m, b⟩, ep⟩ : ∃ p, Txt.partition x colon = p := ⟨_, rfl⟩
  rw [ep] at wa wb q qE ⊢
  have kh := same_new nha (.tup [.str a, .str m, .str b])
  have eh : upd H ha (.tup [.str a, .str m, .str b]) ha = some (.tup [.str a, .str m, .str b]) := upd_same
  show tSeq _ _ _ _ (upd H ha (.tup [.str a, .str m, .str b]))
  generalize upd H ha (.tup [.str a, .str m, .str b]) = H1 at kh eh ⊢
  refine ⟨_, rfl, ha, _, _, _, rfl, rfl, SqT.of eh, rfl, a, rfl, wa.asc ax, Nat.le_trans wa.2 lx, fun H2 g2 => ⟨_, rfl, ?_⟩⟩
  have l0 : ∀ {x : Nat}, x ≤ 100 → x ≤ sizeLine := fun {x} z => by rw [sizeLine_eq]; omega
  have g12 := kh.trans g2
  cases na : isNm a with
  | false =>
    exact iteT ⟨l0 (by decide +kernel), 8, rfl, by decide +kernel, l0 (by decide +kernel), l0 (by decide +kernel), l0 (by decide +kernel), (by show 1 ≤ sizeLine; decide), qE H2 g12 (by rw [show isNm (a, m, b).fst = false from na]; rfl)⟩
  | true =>
    have eh2 := g2 _ _ eh
    refine iteF ⟨_, rfl, ha, _, _, _, rfl, rfl, SqT.of eh2, rfl, b, rfl, wb.asc ax, Nat.le_trans wb.2 lx, fun H3 g3 => ⟨_, rfl, ?_⟩⟩
    have g13 := g12.trans g3
    cases nb : isFg b with
    | false =>
      exact iteT ⟨l0 (by decide +kernel), 8, rfl, by decide +kernel, l0 (by decide +kernel), l0 (by decide +kernel), l0 (by decide +kernel), (by show 1 ≤ sizeLine; decide), qE H3 g13 (by rw [show isNm (a, m, b).fst = true from na, show isFg (a, m, b).snd.snd = false from nb]; rfl)⟩
    | true =>
      have eh3 := g3 _ _ eh2
      have wb1 := (ev_in 1 b).trans wb
      have dig : ∀ c ∈ (ev 1 b).cps.toList, ∃ d, c = 48 + d ∧ d < 10 := fun c hc => by
        unfold isFg at nb
        simp only [Bool.and_eq_true] at nb
        have := figs_mem.mp (of_decide_eq_true (List.all_eq_true.mp nb.2.2 c hc))
        exact ⟨c - 48, by omega, by omega⟩
      refine iteF ⟨_, rfl, ha, _, _, _, rfl, rfl, SqT.of eh3, rfl, _, rfl, ha, _, _, _, rfl, rfl, SqT.of eh3, rfl, b, 1, rfl, rfl, rfl, by decide, small (Nat.le_trans wb.2 lx), ?_⟩
      refine ⟨ev 1 b, rfl, wb1.asc ax, map_str (f := fun c => nv (c - 48)) (small (Nat.le_trans wb1.2 lx)) (fun c Q hc q => ?_) (fun l hl => ?_)⟩
      · obtain ⟨d, rfl, hd⟩ := dig c hc
        refine ⟨_, rfl, d, rfl, hd, ?_⟩
        rw [show 48 + d - 48 = d by omega] at q
        exact q
      · have em : (ev 1 b).cps.toList.map (fun c => nv (c - 48)) = ((ev 1 b).cps.toList.map (· - 48)).map nv := by rw [List.map_map]; rfl
        rw [em]
        refine ⟨l, _, rfl, .inl ⟨SqL.of upd_same, fun r nr => ⟨by show 2 ≤ sizeLine; decide, fun p np => ?_⟩⟩⟩
        exact q a _ p r _ (g13.trans ((same_new hl _).trans ((same_new nr _).trans (same_new np _)))) (by rw [show isNm (a, m, b).fst = true from na, show isFg (a, m, b).snd.snd = true from nb]; rfl) upd_same (same_new np _ _ _ upd_same)
end
def machOk (ts : List (List Nat)) : Prop := ts.length ≤ 4 ∧ (ts.headD []).length ≤ 5 ∧ ∀ t ∈ ts, t.length = (ts.headD []).length ∧ ∀ x ∈ t, x < (ts.headD []).length
def spIsWhole : Sp := fun vs H Q _ => ∃ i : Int, vs = [.int i] ∧ Q (.bl true) H
def spIsRoom : Sp := fun vs H Q _ => ∃ r k : Nat, vs = [nv r, nv k] ∧ Q (.bl (decide (r < k))) H
def spIsTurn : Sp := fun vs H Q _ => ∃ (a : Addr) (t : List Nat) (k : Nat), vs = [.ref a, nv k] ∧ H a = some (.tup (t.map nv)) ∧ t.length ≤ 1000 ∧ ∀ H', Same H H' → Q (.bl (decide (t.length = k ∧ ∀ x ∈ t, x < k))) H'
def spCheck (C : Addr) : Sp := fun vs H Q E => ∃ (m : Addr) (rs : List Addr) (ts : List (List Nat)), vs = [.ref m] ∧ H m = some (.tup (rs.map .ref)) ∧ TupsAt H rs ts ∧ 1 ≤ ts.length ∧ ts.length ≤ 1001 ∧ (∀ t ∈ ts, 1 ≤ t.length ∧ t.length ≤ 1000) ∧ (machOk ts → ∀ H', Same H H' → Q .non H') ∧ (¬ machOk ts → ∀ H', Same H H' → E (.ref C) none H')
section
variable {P : Program} {w : World} {K : PySem.W.Frag} {mg : Str → Option Value} {base : Heap} {f : Addr} {fd : FuncData}
theorem isi_tup_tup {K : PySem.W.Frag} : PySem.W.kitOne K (.type "tuple") (.type "tuple") = some true := by rfl
theorem ok_is_whole (F : Fun K "is_whole" "is_whole" sIsWhole f fd) (m_isinstance : mg "isinstance" = none) (m_int : mg "int" = none) (m_bool : mg "bool" = none) : FnOk P w K mg base CX0 1 f fd ["thing"] spIsWhole := by
  refine F.ok scIsWhole (fun vs H Q E h => ?_) (fun cdv A outer s H vs Q E hr h => ?_)
  · obtain ⟨i, rfl, _⟩ := h
    rfl
  obtain ⟨i, rfl, q⟩ := h
  refine ⟨_, (pss_one (ps_ret (pe_and (pe_callB call_isi rfl m_isinstance boot_isinstance (pl_at (pl_cons (pv 0) (pl_cons (pe_ty rfl m_int boot_int) pl_nil rfl) rfl))) (pe_one (pe_not (pe_callB call_isi rfl m_isinstance boot_isinstance (pl_at (pl_cons (pv 0) (pl_cons (pe_ty rfl m_bool boot_bool) pl_nil rfl) rfl)))))))), ?_⟩
  refine ⟨_, rfl, _, _, _, _, rfl, .int i, isi_int_int, _, rfl, iteT ?_⟩
  exact ⟨_, rfl, _, _, _, _, rfl, .int i, isi_int_bool, _, rfl, q⟩
theorem ok_is_room (F : Fun K "is_room" "is_room" sIsRoom f fd) (c_is_whole : Callee P w K mg base "is_whole" 1 ["thing"] spIsWhole) : FnOk P w K mg base CX0 3 f fd ["thing", "rooms"] spIsRoom := by
  refine F.ok scIsRoom (fun vs H Q E h => ?_) (fun cdv A outer s H vs Q E hr h => ?_)
  · obtain ⟨r, k, rfl, _⟩ := h
    rfl
  obtain ⟨r, k, rfl, q⟩ := h
  refine ⟨_, (pss_one (ps_ret (pe_and (pe_callD c_is_whole (hr.mono (by decide)) rfl (pa_cons (pv 0) pa_nil)) (pe_one (pe_chain op_le op_lt pe_int (pv 0) (pv 1)))))), ?_⟩
  refine ⟨_, rfl, (r : Int), rfl, _, rfl, iteT ⟨_, rfl, _, _, rfl, rfl, _, rfl, iteD (by omega) ⟨_, rfl, _, _, rfl, rfl, ?_⟩⟩⟩
  try dsimp only
  rw [show decide ((r : Int) < (k : Int)) = decide (r < k) from decide_eq_decide.mpr (by omega)]
  exact q
theorem ok_is_turn (F : Fun K "is_turn" "is_turn" sIsTurn f fd) (c_is_room : Callee P w K mg base "is_room" 3 ["thing", "rooms"] spIsRoom) (m_isinstance : mg "isinstance" = none) (m_tuple : mg "tuple" = none) (m_len : mg "len" = none) (m_all : mg "all" = none) : FnOk P w K mg base CX0 5 f fd ["thing", "rooms"] spIsTurn := by
  refine F.ok scIsTurn (fun vs H Q E h => ?_) (fun cdv A outer s H vs Q E hr h => ?_)
  · obtain ⟨a, t, k, rfl, _⟩ := h
    rfl
  obtain ⟨a, t, k, rfl, ea, lt, q⟩ := h
  refine ⟨_, (pss_cons (ps_if (PW.pt (pw_or (pt_not (pt_val (pe_callB call_isi rfl m_isinstance boot_isinstance (pl_at (pl_cons (pv 0) (pl_cons (pe_ty rfl m_tuple boot_tuple) pl_nil rfl) rfl))))) (pw_or1 (pt_cmpR op_ne (pe_callB call_len_seq rfl m_len boot_len (pa_cons (pv 0) pa_nil)) (pv 1) (nomark _))))) (pss_one (ps_ret pe_bl)) pss_nil) (pss_one (ps_ret (pe_callB (call_allL rfl) rfl m_all boot_all (pa_cons (pe_comp1 (CompSc.to (N := ["thing", "rooms"]) (osc := defScope sIsTurn) (vs := ["room"]) ⟨rfl, by decide +kernel, by decide +kernel, by decide +kernel, by decide +kernel, by decide +kernel, by decide +kernel⟩) rfl rfl (pi_tup (pv 0)) (fun _ _ _ _ => pts_nil) (fun _ _ _ _ => (pe_callD c_is_room (hr.mono (by decide)) rfl (pl_at (pl_cons (pv 0) (pl_cons (pv 2) pl_nil rfl) rfl))))) pa_nil))))), ?_⟩
  refine ⟨_, rfl, _, _, _, _, rfl, .tup ea, isi_tup_tup, _, rfl, iteF ?_⟩
  refine ⟨_, rfl, a, _, rfl, .inr (SqT.of ea), _, rfl, rfl, _, rfl, ite2 (fun c => ?_) (fun c => ?_)⟩
  · have ne : t.length ≠ k := fun z => by
      rw [List.length_map, z] at c
      simp at c
    rw [decide_eq_false fun z => ne z.1] at q
    exact q H (Same.refl _)
  have e : t.length = k := by
    rw [List.length_map] at c
    have c : V.int (t.length : Int) = V.int (k : Int) := by simpa using c
    injection c with c
    omega
  refine ⟨_, rfl, a, rfl, ⟨_, SqT.of ea⟩, map_tup (f := fun v => match v with | .int i => .bl (decide (i.toNat < k)) | v => v) (small (by rw [List.length_map]; omega)) (SqT.of ea) (fun v Q hv q => ?_) (fun p hp => ?_)⟩
  · obtain ⟨x, hx, rfl⟩ := List.mem_map.mp hv
    exact ⟨_, rfl, _, rfl, x, k, rfl, q⟩
  · have e2 : (t.map nv).map (fun v => match v with | .int i => V.bl (decide (i.toNat < k)) | v => v) = (t.map fun x => decide (x < k)).map V.bl := by rw [List.map_map, List.map_map]; rfl
    try dsimp only
    rw [e2]
    refine ⟨p, _, rfl, SqL.of upd_same, ?_⟩
    have e3 : (t.map fun x => decide (x < k)).all id = decide (t.length = k ∧ ∀ x ∈ t, x < k) := by
      rw [Bool.eq_iff_iff, decide_eq_true_iff, List.all_map, List.all_eq_true]
      exact ⟨fun h => ⟨e, fun x hx => of_decide_eq_true (h x hx)⟩, fun h x hx => decide_eq_true (h.2 x hx)⟩
    rw [e3]
    exact q _ (same_new hp _)
theorem ok_check {C : Addr} (F : Fun K "check" "check" sCheck f fd) (c_is_turn : Callee P w K mg base "is_turn" 5 ["thing", "rooms"] spIsTurn) (m_isinstance : mg "isinstance" = none) (m_tuple : mg "tuple" = none) (m_len : mg "len" = none) {t1 t2 : Tok} (m_MOST_LETTERS : mg "MOST_LETTERS" = some (.int 4 t1)) (m_MOST_ROOMS : mg "MOST_ROOMS" = some (.int 5 t2)) (m_NoMachine : mg "NoMachine" = some (.ref C)) (q_NoMachine : ErrC K C) : FnOk P w K mg base (CX1 P w) 7 f fd ["thing"] (spCheck C) := by
  refine F.okX scCheck (fun vs H Q E h => ?_) (fun cdv A outer s H vs Q E hr h => ?_)
  · obtain ⟨m, rs, ts, rfl, _⟩ := h
    rfl
  obtain ⟨m, rs, ts, rfl, h1, T, s1, few, ok, q, qE⟩ := h
  have hu := hr.units
  refine ⟨_, (pss_cons (ps_if (pt_not (pt_val (pe_callB call_isi rfl m_isinstance boot_isinstance (pl_at (pl_cons (pv 0) (pl_cons (pe_ty rfl m_tuple boot_tuple) pl_nil rfl) rfl))))) (pss_one (ps_raise rfl throws_def rfl m_NoMachine q_NoMachine (pa_cons pe_str pa_nil))) pss_nil) (pss_cons (ps_if (pt_not (pt_chain op_le op_le pe_int (pe_callB call_len_seq rfl m_len boot_len (pa_cons (pv 0) pa_nil)) (pe_glob (v := .int 4) rfl m_MOST_LETTERS ⟨_, rfl⟩))) (pss_one (ps_raise rfl throws_def rfl m_NoMachine q_NoMachine (pa_cons (pe_fstr (pj_str (pj_int (pe_glob (v := .int 4) rfl m_MOST_LETTERS ⟨_, rfl⟩) (pj_str pj_nil)))) pa_nil))) pss_nil) (pss_cons (ps_set (i := 1) scCheck.nd rfl (Or.inl rfl) (pe_ix ix_tup (pv 0) pe_int (fun _ _ => rfl))) (pss_cons (ps_if (PW.pt (pw_or (pt_not (pt_val (pe_callB call_isi rfl m_isinstance boot_isinstance (pl_at (pl_cons (pv 1) (pl_cons (pe_ty rfl m_tuple boot_tuple) pl_nil rfl) rfl))))) (pw_or1 (pt_not (pt_chain op_le op_le pe_int (pe_callB call_len_seq rfl m_len boot_len (pa_cons (pv 1) pa_nil)) (pe_glob (v := .int 5) rfl m_MOST_ROOMS ⟨_, rfl⟩)))))) (pss_one (ps_raise rfl throws_def rfl m_NoMachine q_NoMachine (pa_cons (pe_fstr (pj_str (pj_int (pe_glob (v := .int 5) rfl m_MOST_ROOMS ⟨_, rfl⟩) (pj_str pj_nil)))) pa_nil))) pss_nil) (pss_one (ps_for PassesOwn.leaving rfl (pi_tup (pv 0)) (pg_name (i := 2) scCheck.nd rfl (Or.inl rfl)) (pss_one (ps_if (pt_not (pt_val (pe_callD c_is_turn (hr.mono (by decide)) rfl (pl_at (pl_cons (pv 2) (pl_cons (pe_callB call_len_seq rfl m_len boot_len (pa_cons (pv 1) pa_nil)) pl_nil rfl) rfl))))) (pss_one (ps_raise rfl throws_def rfl m_NoMachine q_NoMachine (pa_cons pe_str pa_nil))) pss_nil)))))))), ?_⟩
  have l0 : ∀ {x : Nat}, x ≤ 100 → x ≤ sizeLine := fun {x} z => by rw [sizeLine_eq]; omega
  have lr : (rs.map V.ref).length = ts.length := by rw [List.length_map, T.len]
  have lrs := T.len
  refine ⟨_, rfl, _, _, _, _, rfl, .tup h1, isi_tup_tup, _, rfl, iteF ?_⟩
  refine ⟨_, rfl, m, _, rfl, .inr (SqT.of h1), _, _, rfl, rfl, _, rfl, iteD (by rw [lr]; omega) ⟨_, _, rfl, rfl, _, rfl, ?_⟩⟩
  by_cases f4 : ts.length ≤ 4
  rotate_left
  · exact iteND (by rw [lr]; omega) ⟨l0 (by decide +kernel), 4, rfl, by decide +kernel, l0 (by decide +kernel), l0 (by decide +kernel), l0 (by decide +kernel), (by show 1 ≤ sizeLine; decide), qE (fun z => f4 z.1) H (Same.refl H)⟩
  refine iteNS (by rw [lr]; omega) ?_
  obtain ⟨r0, er0⟩ : ∃ r, rs[0]? = some r := ⟨_, List.getElem?_eq_getElem (by omega)⟩
  obtain ⟨t0, et0⟩ : ∃ t, ts[0]? = some t := ⟨_, List.getElem?_eq_getElem (by omega)⟩
  have hd : ts.headD [] = t0 := by
    cases ts with
    | nil => cases et0
    | cons a r => cases et0; rfl
  have b4 := T.is 0 r0 t0 er0 et0
  obtain ⟨o1, o2⟩ := ok t0 (List.mem_of_getElem? et0)
  have l1 : (t0.map nv).length = t0.length := List.length_map _
  refine ⟨_, rfl, m, _, _, _, rfl, rfl, SqT.of h1, atI_nat (j := 0) (v := .ref r0) (by rw [List.getElem?_map, er0]; rfl), ?_⟩
  refine ⟨_, rfl, _, _, _, _, rfl, .tup b4, isi_tup_tup, _, rfl, iteF ?_⟩
  refine ⟨_, rfl, r0, _, rfl, .inr (SqT.of b4), _, _, rfl, rfl, _, rfl, iteD (by rw [l1]; omega) ⟨_, _, rfl, rfl, _, rfl, ?_⟩⟩
  by_cases f5 : t0.length ≤ 5
  rotate_left
  · exact iteND (by rw [l1]; omega) ⟨l0 (by decide +kernel), 5, rfl, by decide +kernel, l0 (by decide +kernel), l0 (by decide +kernel), l0 (by decide +kernel), (by show 1 ≤ sizeLine; decide), qE (fun z => f5 (hd ▸ z.2.1)) H (Same.refl H)⟩
  refine iteNS (by rw [l1]; omega) ?_
  refine ⟨_, rfl, m, rfl, ⟨_, SqT.of h1⟩, for_tup (xs := rs.map V.ref) (fun i σ H' => Same H H' ∧ (∀ t ∈ ts.take i, t.length = t0.length ∧ ∀ x ∈ t, x < t0.length) ∧ ∃ o, σ = [some (.ref m), some (.ref r0), o]) ⟨Same.refl H, (fun t ht => by simp at ht), _, rfl⟩ (fun i σ H' _ p => ?_) (fun i v σ H' hv p => ?_) (fun σ H' p => ?_)⟩
  · obtain ⟨g, _⟩ := p
    exact SqT.of (g _ _ h1)
  · obtain ⟨g, al, o, rfl⟩ := p
    rw [List.getElem?_map] at hv
    obtain ⟨r, er, rfl⟩ := Option.map_eq_some_iff.mp hv
    obtain ⟨t, et⟩ : ∃ t, ts[i]? = some t := ⟨_, List.getElem?_eq_getElem (by have := (List.getElem?_eq_some_iff.mp er).1; omega)⟩
    have z := T.is i r t er et
    refine ⟨_, rfl, _, rfl, r0, _, rfl, .inr (SqT.of (g _ _ b4)), ?_⟩
    rw [l1]
    refine ⟨r, t, t0.length, rfl, g _ _ z, (ok t (List.mem_of_getElem? et)).2, fun H2 g2 => ⟨_, rfl, ?_⟩⟩
    by_cases c : t.length = t0.length ∧ ∀ x ∈ t, x < t0.length
    · rw [decide_eq_true c]
      refine iteF ⟨g.trans g2, fun t' ht => ?_, _, rfl⟩
      rw [List.take_add_one, et] at ht
      rcases List.mem_append.mp ht with y | y
      · exact al t' y
      · rw [List.mem_singleton.mp y]
        exact c
    · rw [decide_eq_false c]
      exact iteT ⟨(by show 1 ≤ sizeLine; decide), qE (fun z => c (hd ▸ z.2.2 t (List.mem_of_getElem? et))) H2 (g.trans g2)⟩
  · obtain ⟨g, al, _⟩ := p
    rw [List.length_map, lrs, List.take_length] at al
    exact q ⟨f4, by rw [hd]; exact f5, fun t ht => by rw [hd]; exact al t ht⟩ H' g
end
def RowsOk (x : Str) (rs : List (Str × List Nat)) : Prop := (Txt.split x nlS).map rowR = rs.map some
def good (rs : List (Str × List Nat)) : Prop := (rs.map (·.1)).Nodup ∧ machOk (rs.map (·.2))
theorem RowsOk.uniq {x : Str} {rs rs' : List (Str × List Nat)} (h : RowsOk x rs) (h' : RowsOk x rs') : rs = rs' := by
  have e : rs.map some = rs'.map some := h.symm.trans h'
  exact List.map_inj_right (fun x y z => Option.some.inj z) |>.mp e
structure ReadAt (H : Hp) (p : Addr) (rs : List (Str × List Nat)) : Prop where
  here : ∃ a b bs, H p = some (.tup [.ref a, .ref b]) ∧ H a = some (.tup ((rs.map (·.1)).map V.str)) ∧ H b = some (.tup (bs.map .ref)) ∧ TupsAt H bs (rs.map (·.2))
def spRead (K : PySem.W.Frag) (CT CM : Addr) : Sp := fun vs H Q E => (∃ x : Str, vs = [.str x] ∧ Asc x ∧ x.length ≤ 950 ∧ (∀ rs p H', Same H H' → RowsOk x rs → good rs → ReadAt H' p rs → Q (.ref p) H') ∧ (∀ H', Same H H' → (∀ rs, ¬ RowsOk x rs) → E (.ref CT) none H') ∧ ∀ rs H', Same H H' → RowsOk x rs → ¬ good rs → E (.ref CM) none H') ∨
  ∃ (v : V) (t : Value), vs = [v] ∧ TyOf K H v t ∧ PySem.W.kitOne K t (.type "str") = some false ∧ E (.ref CT) none H
theorem isi_str_str {K : PySem.W.Frag} : PySem.W.kitOne K (.type "str") (.type "str") = some true := by rfl
theorem ones_nodup {xs : List Str} (h : xs.Nodup) : ones xs = xs := by
  have go : ∀ (ys acc : List Str), (acc ++ ys).Nodup → ys.foldl addS acc = acc ++ ys := by
    intro ys
    induction ys with
    | nil => intro acc _; simp
    | cons y ys ih =>
      intro acc nd
      have e : addS acc y = acc ++ [y] := by
        unfold addS
        rw [if_neg fun z => (List.nodup_append.mp nd).2.2 y z y (List.mem_cons_self ..) rfl]
      rw [List.foldl_cons, e, ih _ (by rw [List.append_assoc]; exact nd), List.append_assoc]
      rfl
  exact go xs [] h
theorem ones_len {xs : List Str} (h : (ones xs).length = xs.length) : xs.Nodup := by
  have nd : ∀ (ys acc : List Str), acc.Nodup → (ys.foldl addS acc).Nodup ∧ (ys.foldl addS acc).length ≤ acc.length + ys.length ∧ ((ys.foldl addS acc).length = acc.length + ys.length → (acc ++ ys).Nodup) := by
    intro ys
    induction ys with
    | nil => intro acc h; exact ⟨h, by simp, fun _ => by simpa using h⟩
    | cons y ys ih =>
      intro acc h
      rw [List.foldl_cons]
      by_cases hy : y ∈ acc
      · rw [show addS acc y = acc by unfold addS; rw [if_pos hy]]
        obtain ⟨a, b, _⟩ := ih acc h
        refine ⟨a, by rw [List.length_cons]; omega, fun z => ?_⟩
        rw [List.length_cons] at z
        omega
      · rw [show addS acc y = acc ++ [y] by unfold addS; rw [if_neg hy]]
        have h2 : (acc ++ [y]).Nodup := List.nodup_append.mpr ⟨h, by simp, fun a ha b hb => by rw [List.mem_singleton.mp hb]; exact fun z => hy (z ▸ ha)⟩
        obtain ⟨a, b, c⟩ := ih (acc ++ [y]) h2
        have l1 : (acc ++ [y]).length = acc.length + 1 := List.length_append
        rw [l1] at b c
        refine ⟨a, by rw [List.length_cons]; omega, fun z => ?_⟩
        have := c (by rw [z, List.length_cons]; omega)
        rw [List.append_assoc] at this
        exact this
  have z := (nd xs [] List.nodup_nil).2.2 (by rw [List.length_nil, Nat.zero_add]; exact h)
  simpa using z
section
variable {P : Program} {w : World} {K : PySem.W.Frag} {mg : Str → Option Value} {base : Heap} {f : Addr} {fd : FuncData}
theorem ok_read {CT CM : Addr} (F : Fun K "read" "read" sRead f fd) (c_read_row : CalleeX P w K mg base "read_row" 5 ["row"] (spReadRow CT)) (c_check : CalleeX P w K mg base "check" 7 ["thing"] (spCheck CM)) (m_NoText : mg "NoText" = some (.ref CT)) (q_NoText : ErrC K CT) (m_NoMachine : mg "NoMachine" = some (.ref CM)) (q_NoMachine : ErrC K CM) (m_isinstance : mg "isinstance" = none) (m_str : mg "str" = none) (m_tuple : mg "tuple" = none) (m_set : mg "set" = none) (m_len : mg "len" = none) : FnOk P w K mg base (CX1 P w) 9 f fd ["text"] (spRead K CT CM) := by
  refine F.okX scRead (fun vs H Q E h => ?_) (fun cdv A outer s H vs Q E hr h => ?_)
  · rcases h with ⟨x, rfl, _⟩ | ⟨v, t, rfl, _⟩ <;> rfl
  have hu := hr.units
  obtain ⟨v, rfl⟩ : ∃ v, vs = [v] := by
    rcases h with ⟨x, rfl, _⟩ | ⟨v, t, rfl, _⟩ <;> exact ⟨_, rfl⟩
  refine ⟨_, (pss_cons (ps_if (pt_not (pt_val (pe_callB call_isi rfl m_isinstance boot_isinstance (pl_at (pl_cons (pv 0) (pl_cons (pe_ty rfl m_str boot_str) pl_nil rfl) rfl))))) (pss_one (ps_raise rfl throws_def rfl m_NoText q_NoText (pa_cons pe_str pa_nil))) pss_nil) (pss_cons (ps_setCX (CompSc.to (N := ["text", "rows", "names", "machine"]) (osc := defScope sRead) (vs := ["row"]) ⟨rfl, by decide +kernel, by decide +kernel, by decide +kernel, by decide +kernel, by decide +kernel, by decide +kernel⟩) out_def rfl rfl rfl rfl scRead.nd (j := 1) rfl rfl (pi_list (pe_bm PySem.F.plainAttrs_str PySem.F.slot_str_split PySem.F.type_str_split mt_split (pv 0) (pa_cons pe_str pa_nil))) (pg_own (CompSc.to (N := ["text", "rows", "names", "machine"]) (osc := defScope sRead) (vs := ["row"]) ⟨rfl, by decide +kernel, by decide +kernel, by decide +kernel, by decide +kernel, by decide +kernel, by decide +kernel⟩) rfl) (fun _ _ _ _ => pts_nil) (fun _ _ _ _ => (pex_callX c_read_row (hr.mono (by decide)) rfl (pa_cons (pv 0) pa_nil))) (by decide)) (pss_cons (ps_set (i := 2) scRead.nd rfl (Or.inl rfl) (pe_callTy call_tuple_of rfl m_tuple boot_tuple (pa_cons (pe_comp (CompSc.to (N := ["text", "rows", "names", "machine"]) (osc := defScope sRead) (vs := ["name", "turn"]) ⟨rfl, by decide +kernel, by decide +kernel, by decide +kernel, by decide +kernel, by decide +kernel, by decide +kernel⟩) rfl (pi_list (pv 1)) (pg_own2 (CompSc.to (N := ["text", "rows", "names", "machine"]) (osc := defScope sRead) (vs := ["name", "turn"]) ⟨rfl, by decide +kernel, by decide +kernel, by decide +kernel, by decide +kernel, by decide +kernel, by decide +kernel⟩) rfl rfl rfl) (fun _ _ _ _ => pts_nil) (fun _ _ _ _ => (pv 0))) pa_nil))) (pss_cons (ps_if (pt_cmpR op_ne (pe_callB call_lenSS rfl m_len boot_len (pa_cons (pe_callTy (call_setS rfl) rfl m_set PyProof.Rows.boot_set (pa_cons (pv 2) pa_nil)) pa_nil)) (pe_callB call_len_seq rfl m_len boot_len (pa_cons (pv 2) pa_nil)) (nomark _)) (pss_one (ps_raise rfl throws_def rfl m_NoMachine q_NoMachine (pa_cons pe_str pa_nil))) pss_nil) (pss_cons (ps_set (i := 3) scRead.nd rfl (Or.inl rfl) (pe_callTy call_tuple_of rfl m_tuple boot_tuple (pa_cons (pe_comp (CompSc.to (N := ["text", "rows", "names", "machine"]) (osc := defScope sRead) (vs := ["name", "turn"]) ⟨rfl, by decide +kernel, by decide +kernel, by decide +kernel, by decide +kernel, by decide +kernel, by decide +kernel⟩) rfl (pi_list (pv 1)) (pg_own2 (CompSc.to (N := ["text", "rows", "names", "machine"]) (osc := defScope sRead) (vs := ["name", "turn"]) ⟨rfl, by decide +kernel, by decide +kernel, by decide +kernel, by decide +kernel, by decide +kernel, by decide +kernel⟩) rfl rfl rfl) (fun _ _ _ _ => pts_nil) (fun _ _ _ _ => (pv 1))) pa_nil))) (pss_cons (ps_expr (pe_callX c_check (hr.mono (by decide)) passes_def rfl (pa_cons (pv 3) pa_nil))) (pss_one (ps_ret (pe_tup (pl_at (pl_cons (pv 2) (pl_cons (pv 3) pl_nil rfl) rfl))))))))))), ?_⟩
  rcases h with h | ⟨v', t, e, ty, kt, qT⟩
  rotate_left
  · cases e
    exact ⟨_, rfl, _, _, _, _, rfl, ty, kt, _, rfl, iteT ⟨(by show 1 ≤ sizeLine; decide), qT⟩⟩
  obtain ⟨x, e, ax, lx, q, qT, qM⟩ := h
  cases e
  refine ⟨_, rfl, _, _, _, _, rfl, .str _, isi_str_str, _, rfl, iteF ?_⟩
  refine ⟨_, rfl, rfl, x, _, rfl, rfl, by decide +kernel, small (by omega), fun sl nsl => ?_⟩
  rw [show Str.ofString "\n" = nlS from rfl]
  obtain ⟨ps, eps⟩ : ∃ ps, Txt.split x nlS = ps := ⟨_, rfl⟩
  have pin : ∀ p ∈ ps, Within p x := fun p hp => split_in (eps ▸ hp)
  have many : ps.length ≤ x.length + 1 := eps ▸ split_many x
  have some1 : 1 ≤ ps.length := eps ▸ split_some x
  rw [eps]
  have ks := same_new nsl (.lst (ps.map V.str))
  have es : upd H sl (.lst (ps.map V.str)) sl = some (.lst (ps.map V.str)) := upd_same
  generalize upd H sl (.lst (ps.map V.str)) = H1 at ks es ⊢
  refine ⟨sl, rfl, ⟨_, SqL.of es⟩, comp_list (xs := ps.map V.str) (fun i ys H' => Same H1 H' ∧ ∃ (as bs : List Addr) (rs : List (Str × List Nat)), ys = as.map V.ref ∧ as.length = i ∧ bs.length = i ∧ (ps.take i).map rowR = rs.map some ∧ ∀ (j : Nat) a b r, as[j]? = some a → bs[j]? = some b → rs[j]? = some r → H' a = some (.tup [.str r.1, .ref b]) ∧ H' b = some (.tup (r.2.map nv))) (small (by rw [List.length_map]; omega)) ⟨Same.refl _, [], [], [], rfl, rfl, rfl, rfl, (fun j a b r e => absurd e (by simp))⟩ (fun i ys H' hi p => ?_) (fun i v ys H' hv p => ?_) (fun ys H2 p rl nrl => ?_)⟩
  · obtain ⟨g, as, bs, rs, rfl, l1, _⟩ := p
    exact ⟨SqL.of (g _ _ es), by rw [List.length_map, l1]; exact Nat.le_refl _⟩
  · obtain ⟨g, as, bs, rs, rfl, l1, l2, er, all⟩ := p
    rw [List.getElem?_map] at hv
    obtain ⟨y, ey, rfl⟩ := Option.map_eq_some_iff.mp hv
    have wy := pin y (List.mem_of_getElem? ey)
    have il := (List.getElem?_eq_some_iff.mp ey).1
    have lrs : rs.length = i := by
      have := congrArg List.length er
      rw [List.length_map, List.length_map, List.length_take] at this
      omega
    refine ⟨keep_one, yes_of ⟨_, rfl, y, rfl, wy.asc ax, by have := wy.2; omega, fun n t p r H3 g3 eR ep er3 => ⟨g.trans g3, as ++ [p], bs ++ [r], rs ++ [(n, t)], by simp, by simp [l1], by simp [l2], ?_, fun j a b r' a1 a2 a3 => ?_⟩, fun H3 g3 eR => qT H3 ((ks.trans g).trans g3) fun rs' h' => ?_⟩⟩
    · rw [List.take_add_one, ey, List.map_append, List.map_append, er]
      show _ ++ [rowR y] = _
      rw [eR]
      rfl
    · rcases Nat.lt_or_ge j i with hj | hj
      · rw [List.getElem?_append_left (by omega)] at a1 a2 a3
        obtain ⟨z1, z2⟩ := all j a b r' a1 a2 a3
        exact ⟨g3 _ _ z1, g3 _ _ z2⟩
      · have ji : j = i := by
          have := (List.getElem?_eq_some_iff.mp a1).1
          rw [List.length_append] at this
          have : j < as.length + 1 := this
          omega
        subst ji
        rw [List.getElem?_append_right (by omega), l1, Nat.sub_self] at a1
        rw [List.getElem?_append_right (by omega), l2, Nat.sub_self] at a2
        rw [List.getElem?_append_right (by omega), lrs, Nat.sub_self] at a3
        cases a1
        cases a2
        cases a3
        exact ⟨ep, er3⟩
    · unfold RowsOk at h'
      rw [eps] at h'
      have z : (ps.map rowR)[i]? = some none := by rw [List.getElem?_map, ey]; exact congrArg some eR
      rw [h', List.getElem?_map] at z
      obtain ⟨_, _, z⟩ := Option.map_eq_some_iff.mp z
      cases z
  obtain ⟨g2, as, bs, rs, rfl, l1, l2, er, all⟩ := p
  rw [List.length_map] at l1 l2 er
  rw [List.take_length] at er
  have R : RowsOk x rs := by
    unfold RowsOk
    rw [eps]
    exact er
  have lrs : rs.length = ps.length := by
    have := congrArg List.length er
    rw [List.length_map, List.length_map] at this
    omega
  have krl := same_new nrl (.lst (as.map V.ref))
  have erl : upd H2 rl (.lst (as.map V.ref)) rl = some (.lst (as.map V.ref)) := upd_same
  have gH3 := (ks.trans g2).trans krl
  have all3 : ∀ (j : Nat) a b r, as[j]? = some a → bs[j]? = some b → rs[j]? = some r → upd H2 rl (.lst (as.map V.ref)) a = some (.tup [.str r.1, .ref b]) ∧ upd H2 rl (.lst (as.map V.ref)) b = some (.tup (r.2.map nv)) := fun j a b r a1 a2 a3 => ⟨krl _ _ (all j a b r a1 a2 a3).1, krl _ _ (all j a b r a1 a2 a3).2⟩
  generalize upd H2 rl (.lst (as.map V.ref)) = H3 at erl gH3 all3 ⊢
  have row_at : ∀ i, i < as.length → ∃ a b r, as[i]? = some a ∧ bs[i]? = some b ∧ rs[i]? = some r := fun i hi => ⟨as[i], bs[i]'(by omega), rs[i]'(by omega), List.getElem?_eq_getElem _, List.getElem?_eq_getElem _, List.getElem?_eq_getElem _⟩
  refine ⟨_, rfl, rl, rfl, ⟨_, SqL.of erl⟩, comp_list (xs := as.map V.ref) (fun i ys H' => H' = H3 ∧ ys = ((rs.take i).map (·.1)).map V.str) (small (by rw [List.length_map]; omega)) ⟨rfl, rfl⟩ (fun i ys H' hi p => ?_) (fun i v ys H' hv p => ?_) (fun ys H4 p cl ncl => ?_)⟩
  · obtain ⟨rfl, rfl⟩ := p
    exact ⟨SqL.of erl, by rw [List.length_map, List.length_map, List.length_take]; exact Nat.min_le_left ..⟩
  · obtain ⟨rfl, rfl⟩ := p
    rw [List.getElem?_map] at hv
    obtain ⟨pa, epa, rfl⟩ := Option.map_eq_some_iff.mp hv
    obtain ⟨a, b, r, a1, a2, a3⟩ := row_at i (List.getElem?_eq_some_iff.mp epa).1
    rw [epa] at a1
    cases a1
    obtain ⟨z1, z2⟩ := all3 i pa b r epa a2 a3
    refine ⟨pa, _, rfl, SqT.of z1, rfl, _, _, rfl, _, _, rfl, rfl, keep_two, yes_of ⟨_, rfl, rfl, ?_⟩⟩
    rw [List.take_add_one, a3, List.map_append, List.map_append]
    rfl
  obtain ⟨rfl, rfl⟩ := p
  rw [List.length_map, l1, ← lrs, List.take_length]
  have kcl := same_new ncl (.lst ((rs.map (·.1)).map V.str))
  refine ⟨cl, _, rfl, .inl ⟨SqL.of upd_same, fun nm nnm => ?_⟩⟩
  have knm := kcl.trans (same_new nnm (.tup ((rs.map (·.1)).map V.str)))
  have enm : upd (upd H4 cl (.lst ((rs.map (·.1)).map V.str))) nm (.tup ((rs.map (·.1)).map V.str)) nm = some (.tup ((rs.map (·.1)).map V.str)) := upd_same
  generalize upd (upd H4 cl (.lst ((rs.map (·.1)).map V.str))) nm (.tup ((rs.map (·.1)).map V.str)) = H5 at knm enm ⊢
  refine ⟨_, rfl, nm, rs.map (·.1), rfl, SqT.of enm, by rw [List.length_map]; omega, fun sa nsa => ?_⟩
  have ksa := same_new nsa (SetSO sa (rs.map (·.1)))
  refine ⟨sa, rs.map (·.1), rfl, upd_same, _, rfl, nm, _, rfl, .inr (SqT.of (ksa _ _ enm)), rfl, _, rfl, ?_⟩
  have enm6 := ksa _ _ enm
  have k36 := knm.trans ksa
  have erl6 := k36 _ _ erl
  have all6 : ∀ (j : Nat) a b r, as[j]? = some a → bs[j]? = some b → rs[j]? = some r → upd H5 sa (SetSO sa (rs.map (·.1))) a = some (.tup [.str r.1, .ref b]) ∧ upd H5 sa (SetSO sa (rs.map (·.1))) b = some (.tup (r.2.map nv)) := fun j a b r a1 a2 a3 => ⟨k36 _ _ (all3 j a b r a1 a2 a3).1, k36 _ _ (all3 j a b r a1 a2 a3).2⟩
  have gH6 := gH3.trans k36
  clear all all3
  generalize upd H5 sa (SetSO sa (rs.map (·.1))) = H6 at enm6 erl6 all6 gH6 ⊢
  by_cases nd : (rs.map (·.1)).Nodup
  rotate_left
  · refine iteND (fun z => ?_) ⟨(by show 1 ≤ sizeLine; decide), qM rs _ gH6 R fun z => nd z.1⟩
    have z : V.int ((ones (rs.map (·.1))).length : Int) = V.int ((((rs.map (·.1)).map V.str).length : Nat) : Int) := z
    injection z with z
    rw [List.length_map] at z
    exact nd (ones_len (by omega))
  refine iteNS (by rw [ones_nodup nd]; simp) ?_
  refine ⟨_, rfl, rl, rfl, ⟨_, SqL.of erl6⟩, comp_list (xs := as.map V.ref) (fun i ys H' => H' = H6 ∧ ys = (bs.take i).map V.ref) (small (by rw [List.length_map]; omega)) ⟨rfl, rfl⟩ (fun i ys H' hi p => ?_) (fun i v ys H' hv p => ?_) (fun ys H7 p dl ndl => ?_)⟩
  · obtain ⟨rfl, rfl⟩ := p
    exact ⟨SqL.of erl6, by rw [List.length_map, List.length_take]; exact Nat.min_le_left ..⟩
  · obtain ⟨rfl, rfl⟩ := p
    rw [List.getElem?_map] at hv
    obtain ⟨pa, epa, rfl⟩ := Option.map_eq_some_iff.mp hv
    obtain ⟨a, b, r, a1, a2, a3⟩ := row_at i (List.getElem?_eq_some_iff.mp epa).1
    rw [epa] at a1
    cases a1
    obtain ⟨z1, z2⟩ := all6 i pa b r epa a2 a3
    refine ⟨pa, _, rfl, SqT.of z1, rfl, _, _, rfl, _, _, rfl, rfl, keep_two, yes_of ⟨_, rfl, rfl, ?_⟩⟩
    rw [List.take_add_one, a2, List.map_append]
    rfl
  obtain ⟨rfl, rfl⟩ := p
  rw [List.length_map, l1, ← l2, List.take_length]
  have kdl := same_new ndl (.lst (bs.map V.ref))
  refine ⟨dl, _, rfl, .inl ⟨SqL.of upd_same, fun mm nmm => ?_⟩⟩
  have kmm := kdl.trans (same_new nmm (.tup (bs.map V.ref)))
  have emm : upd (upd H7 dl (.lst (bs.map V.ref))) mm (.tup (bs.map V.ref)) mm = some (.tup (bs.map V.ref)) := upd_same
  have TT : TupsAt (upd (upd H7 dl (.lst (bs.map V.ref))) mm (.tup (bs.map V.ref))) bs (rs.map (·.2)) := ⟨by rw [List.length_map]; omega, fun i b t a2 a3 => by
    rw [List.getElem?_map] at a3
    obtain ⟨r, a4, rfl⟩ := Option.map_eq_some_iff.mp a3
    obtain ⟨a, _, _, a1, _, _⟩ := row_at i (by have := (List.getElem?_eq_some_iff.mp a2).1; omega)
    exact kmm _ _ (all6 i a b r a1 a2 a4).2⟩
  generalize upd (upd H7 dl (.lst (bs.map V.ref))) mm (.tup (bs.map V.ref)) = H8 at kmm emm TT ⊢
  have each : ∀ t ∈ rs.map (·.2), 1 ≤ t.length ∧ t.length ≤ 1000 := fun t ht => by
    obtain ⟨r, hr, rfl⟩ := List.mem_map.mp ht
    obtain ⟨i, ei⟩ := List.getElem?_of_mem hr
    obtain ⟨y, ey⟩ : ∃ y, ps[i]? = some y := ⟨_, List.getElem?_eq_getElem (by have := (List.getElem?_eq_some_iff.mp ei).1; omega)⟩
    have z : (ps.map rowR)[i]? = some (rowR y) := by rw [List.getElem?_map, ey]; rfl
    rw [er, List.getElem?_map, ei] at z
    obtain ⟨o, le⟩ := rowR_ok (n := r.1) (t := r.2) (Option.some.inj z).symm
    have := (pin y (List.mem_of_getElem? ey)).2
    exact ⟨o.some1, by omega⟩
  refine ⟨_, rfl, mm, bs, rs.map (·.2), rfl, emm, TT, by rw [List.length_map]; omega, by rw [List.length_map]; omega, each, fun mk H9 g9 => ?_, fun mk H9 g9 => qM rs H9 ((gH6.trans kmm).trans g9) R fun z => mk z.2⟩
  refine ⟨_, rfl, _, rfl, by show 2 ≤ sizeLine; decide, fun p np => q rs p _ (((gH6.trans kmm).trans g9).trans (same_new np _)) R ⟨nd, mk⟩ ⟨⟨nm, mm, bs, upd_same, same_new np _ _ _ (g9 _ _ (kmm _ _ enm6)), same_new np _ _ _ (g9 _ _ emm), (TT.same g9).same (same_new np _)⟩⟩⟩
end
def spLRow : Sp := fun vs H Q _ => ∃ x : Str, vs = [.str x] ∧ Asc x ∧ x.length ≤ 1000 ∧ (∀ H', Same H H' → rowR x = none → Q .non H') ∧ ∀ n t p r H', Same H H' → rowR x = some (n, t) → H' p = some (.tup [.str n, .ref r]) → H' r = some (.tup (t.map nv)) → Q (.ref p) H'
theorem part_mid {x y a m b : Str} (h : Txt.partition x y = (a, m, b)) : m = Str.ofString "" → y ≠ Str.ofString "" → b = Str.ofString "" := by
  unfold Txt.partition at h
  split at h
  · cases h
    exact fun z z2 => absurd z z2
  · cases h
    exact fun _ _ => rfl
section
variable {P : Program} {w : World} {K : PySem.W.Frag} {mg : Str → Option Value} {base : Heap} {f : Addr} {fd : FuncData}
theorem ok_lrow (F : Fun K "_law_row" "_law_row" sLawRow f fd) (m_len : mg "len" = none) (m_range : mg "range" = none) (m_int : mg "int" = none) (m_tuple : mg "tuple" = none) : FnOk P w K mg base CX0 1 f fd ["_law_line"] spLRow := by
  refine F.ok scLawRow (fun vs H Q E h => ?_) (fun cdv A outer s H vs Q E hr h => ?_)
  · obtain ⟨x, rfl, _⟩ := h
    rfl
  obtain ⟨x, rfl, ax, lx, qN, q⟩ := h
  have hu := hr.units
  refine ⟨_, (pss_cons (ps_asg (pe_bm PySem.F.plainAttrs_str PySem.F.slot_str_partition PySem.F.type_str_partition mt_part (pv 0) (pa_cons pe_str pa_nil)) (pg_tup rfl (pgs_cons (pg_name (i := 1) scLawRow.nd rfl (Or.inl rfl)) (pgs_cons (pg_name (i := 2) scLawRow.nd rfl (Or.inl rfl)) (pgs_cons (pg_name (i := 3) scLawRow.nd rfl (Or.inl rfl)) pgs_nil))))) (pss_cons (ps_if (PW.pt (pw_or (pt_cmpR op_eq (pv 2) pe_str (nomark _)) (pw_or (pt_not (pt_chain op_le op_le pe_int (pe_callB call_len_str rfl m_len boot_len (pa_cons (pv 1) pa_nil)) pe_int)) (pw_or (pt_cmpR op_eq (pv 3) pe_str (nomark _)) (pw_or1 (pt_cmpR op_eq (pe_op op_mod (pe_callB call_len_str rfl m_len boot_len (pa_cons (pv 3) pa_nil)) pe_int) pe_int (nomark _))))))) (pss_one (ps_ret pe_non)) pss_nil) (pss_cons (ps_if (pt_cmpR (op_neD hu) (pe_comp1 (CompSc.to (N := ["_law_line", "_law_name", "_law_mid", "_law_rest", "_law_turn_here", "_law_k"]) (osc := defScope sLawRow) (vs := ["_law_sign"]) ⟨rfl, by decide +kernel, by decide +kernel, by decide +kernel, by decide +kernel, by decide +kernel, by decide +kernel⟩) rfl rfl (pi_str (pv 1)) (fun _ _ _ _ => pts_one (pt_cmpR op_notIn_str (pv 0) pe_str (by with_unfolding_all rfl))) (fun _ _ _ _ => (pv 0))) (pe_lst pa_nil) (nomark _)) (pss_one (ps_ret pe_non)) pss_nil) (pss_cons (ps_set (i := 4) scLawRow.nd rfl (Or.inl rfl) (pe_lst pa_nil)) (pss_cons (ps_for PassesOwn.never rfl (pi_step2 rfl m_range (pa_cons pe_int (pa_cons (pe_callB call_len_str rfl m_len boot_len (pa_cons (pv 3) pa_nil)) (pa_cons pe_int pa_nil)))) (pg_name (i := 5) scLawRow.nd rfl (Or.inl rfl)) (pss_cons (ps_if (PW.pt (pw_or (pt_cmpR op_ne (pe_ix ix_str (pv 3) (pv 5) (fun _ _ => rfl)) pe_str (nomark _)) (pw_or1 (pt_cmpR op_notIn_str (pe_ix ix_str (pv 3) (pe_op op_add (pv 5) pe_int) (fun _ _ => rfl)) pe_str (by with_unfolding_all rfl))))) (pss_one (ps_ret pe_non)) pss_nil) (pss_one (ps_expr (pe_bm PySem.F.plainAttrs_list PySem.F.slot_list_append PySem.F.type_list_append mt_append (pv 4) (pa_cons (pe_callTy call_int_fig rfl m_int boot_int (pa_cons (pe_ix ix_str (pv 3) (pe_op op_add (pv 5) pe_int) (fun _ _ => rfl)) pa_nil)) pa_nil)))))) (pss_one (ps_ret (pe_tup (pl_at (pl_cons (pv 1) (pl_cons (pe_callTy call_tuple_of rfl m_tuple boot_tuple (pa_cons (pv 4) pa_nil)) pl_nil rfl) rfl)))))))))), ?_⟩
  have wa := (part_in x colon).1
  have wb := (part_in x colon).2
  unfold rowR at q qN
  refine ⟨_, rfl, rfl, x, _, rfl, rfl, by decide, small (by omega), fun ha nha => ?_⟩
  rw [show Str.ofString ":" = colon from rfl]
  obtain ⟨⟨a, m, b⟩, ep⟩ : ∃ p, Txt.partition x colon = p := ⟨_, rfl⟩
  have mb : m = Str.ofString "" → b = Str.ofString "" := fun z => part_mid ep z (by decide +kernel)
  rw [ep] at wa wb q qN ⊢
  have kh := same_new nha (.tup [.str a, .str m, .str b])
  have eh : upd H ha (.tup [.str a, .str m, .str b]) ha = some (.tup [.str a, .str m, .str b]) := upd_same
  have no : ∀ {H'}, Same (upd H ha (.tup [.str a, .str m, .str b])) H' → (isNm a && isFg b) = false → Q .non H' := fun g h => qN _ (kh.trans g) (if_neg (by show ¬ (isNm a && isFg b) = true; rw [h]; decide))
  have yes : ∀ {p r H'}, Same (upd H ha (.tup [.str a, .str m, .str b])) H' → (isNm a && isFg b) = true → H' p = some (.tup [.str a, .ref r]) → H' r = some (.tup (((ev 1 b).cps.toList.map (· - 48)).map nv)) → Q (.ref p) H' := fun g h => q _ _ _ _ _ (kh.trans g) (if_pos h)
  have nob : ∀ {H'}, Same (upd H ha (.tup [.str a, .str m, .str b])) H' → isFg b = false → Q .non H' := fun g h => no g (by rw [h, Bool.and_false])
  refine ⟨ha, _, rfl, SqT.of eh, rfl, _, _, rfl, _, _, rfl, _, _, rfl, rfl, ?_⟩
  show tSeq _ _ _ [some (.str x), some (.str a), some (.str m), some (.str b), none, none] (upd H ha (.tup [.str a, .str m, .str b]))
  generalize upd H ha (.tup [.str a, .str m, .str b]) = H1 at no yes nob ⊢
  have hza : a.length ≤ sizeLine := small (Nat.le_trans wa.2 lx)
  have hzb : b.length ≤ sizeLine := small (Nat.le_trans wb.2 lx)
  have lb : b.length ≤ 1000 := Nat.le_trans wb.2 lx
  refine ⟨_, rfl, rfl, _, rfl, ?_⟩
  by_cases hm : m = Str.ofString ""
  · refine iteD (by rw [hm]) (nob (Same.refl _) ?_)
    unfold isFg
    rw [decide_eq_false (fun z => z (mb hm)), Bool.false_and, Bool.false_and]
  refine iteDN (fun z => hm (by injection z)) ⟨_, rfl, a, rfl, hza, _, _, rfl, rfl, _, rfl, ?_⟩
  by_cases n1 : 1 ≤ a.length
  rotate_left
  · refine iteDN (by omega) ⟨_, rfl, iteT (no (Same.refl _) ?_)⟩
    unfold isNm
    rw [decide_eq_false n1, Bool.false_and, Bool.false_and, Bool.false_and]
  refine iteD (by omega) ⟨_, _, rfl, rfl, _, rfl, ?_⟩
  by_cases n8 : a.length ≤ 8
  rotate_left
  · refine iteND (by omega) (no (Same.refl _) ?_)
    unfold isNm
    rw [decide_eq_false n8, Bool.and_false, Bool.false_and, Bool.false_and]
  refine iteNS (by omega) ⟨_, rfl, rfl, _, rfl, ?_⟩
  by_cases hb : b = Str.ofString ""
  · refine iteD (by rw [hb]) (nob (Same.refl _) ?_)
    unfold isFg
    rw [decide_eq_false (fun z => z hb), Bool.false_and, Bool.false_and]
  refine iteDN (fun z => hb (by injection z)) ⟨_, rfl, b, rfl, hzb, _, _, rfl, rfl, (by decide : (0 : Int) < 2), rfl, _, rfl, ?_⟩
  by_cases ev2 : b.length % 2 = 0
  rotate_left
  · refine iteD (by show V.int _ = V.int _; rw [show ((b.length : Int) % 2) = 1 by omega]) (nob (Same.refl _) ?_)
    unfold isFg
    rw [decide_eq_false ev2, Bool.and_false, Bool.false_and]
  refine iteDN (fun z => by injection z with z; omega) ?_
  refine ⟨_, rfl, a, rfl, wa.asc ax, comp_str (fun i ys H' => H' = H1 ∧ ys = (((a.cps.toList.take i).filter fun c => !decide (c ∈ abc.cps.toList)).map fun c => V.str (sgn c))) hza ⟨rfl, rfl⟩ (fun i ys H' hi p => ?_) (fun i c ys H' hc p => ?_) (fun ys H' p fl hfl => ?_)⟩
  · obtain ⟨_, rfl⟩ := p
    rw [List.length_map]
    exact Nat.le_trans (List.length_filter_le _ _) (by rw [List.length_take]; exact Nat.min_le_left ..)
  · obtain ⟨rfl, rfl⟩ := p
    refine ⟨keep_one, _, rfl, _, _, rfl, rfl, _, rfl, ?_⟩
    rw [show sgn c = (⟨#[c]⟩ : Str) from rfl, StrLaws.found_one, List.take_add_one, hc, List.filter_append, List.map_append]
    show if (!decide (c ∈ abc.cps.toList)) = true then _ else _
    cases o : decide (c ∈ abc.cps.toList) with
    | true =>
      have e : List.filter (fun c => !decide (c ∈ abc.cps.toList)) (some c).toList = [] := List.filter_cons_of_neg (by rw [o]; decide)
      exact iteF ⟨rfl, by rw [e]; exact (List.append_nil _).symm⟩
    | false =>
      have e : List.filter (fun c => !decide (c ∈ abc.cps.toList)) (some c).toList = [c] := List.filter_cons_of_pos (by rw [o]; rfl)
      exact iteT ⟨_, rfl, rfl, by rw [e]; rfl⟩
  obtain ⟨rfl, rfl⟩ := p
  rw [str_len, List.take_length]
  have kf := same_new hfl (.lst ((a.cps.toList.filter fun c => !decide (c ∈ abc.cps.toList)).map fun c => V.str (sgn c)))
  refine ⟨by show 0 ≤ sizeLine; decide, fun z hz => ?_⟩
  have kz := same_new hz (.lst [])
  have k2 := kf.trans kz
  refine ⟨fl, z, 0, .lst ((a.cps.toList.filter fun c => !decide (c ∈ abc.cps.toList)).map fun c => Dt.str (sgn c)), .lst [], rfl, rfl, .lst (SqL.of (kz _ _ upd_same)) (by rw [List.length_map, List.length_map]) (fun i d v e1 e2 => ?_), .lst (SqL.of upd_same) rfl (fun i d v e1 _ => by simp at e1), by decide, fun c hc => ⟨_, rfl, ?_⟩⟩
  · rw [List.getElem?_map] at e1 e2
    obtain ⟨c, ec, rfl⟩ := Option.map_eq_some_iff.mp e1
    rw [ec] at e2
    cases e2
    exact .str 0 _
  have hc : c = true ↔ only a abc = true := by
    rw [hc]
    unfold only
    rw [List.all_eq_true]
    constructor
    · intro z c' hc'
      injection z with z
      have := List.filter_eq_nil_iff.mp (List.map_eq_nil_iff.mp z) c' hc'
      simpa using this
    · intro z
      rw [List.filter_eq_nil_iff.mpr fun c' hc' => by have := z c' hc'; simpa using this]
      rfl
  have k2' := k2
  generalize upd (upd H' fl (.lst ((a.cps.toList.filter fun c => !decide (c ∈ abc.cps.toList)).map fun c => V.str (sgn c)))) z (.lst []) = H2 at k2 k2' ⊢
  have nmE : isNm a = only a abc := by
    unfold isNm
    rw [decide_eq_true n1, decide_eq_true n8, Bool.true_and, Bool.true_and]
  cases c with
  | false =>
    refine iteT (no k2 ?_)
    rw [nmE]
    cases o : only a abc with
    | false => rfl
    | true => exact absurd (hc.mpr o) (by decide)
  | true =>
    have nmT : isNm a = true := nmE.trans (hc.mp rfl)
    rw [nmT, Bool.true_and] at yes
    refine iteF ⟨by show 0 ≤ sizeLine; decide, fun tl htl => ?_⟩
    have kt := same_new htl (.lst [])
    have etl : upd H2 tl (.lst []) tl = some (.lst []) := upd_same
    generalize upd H2 tl (.lst []) = H3 at kt etl ⊢
    have ll : b.cps.toList.length = b.length := (str_len b).symm
    let Pv : Nat → L2.St → Hp → Prop := fun i σ H' => Same H2 H' ∧ H' tl = some (.lst (((evs (b.cps.toList.drop 1)).take i).map fun c => nv (c - 48))) ∧ (∀ j, j < i → b.cps.toList[2 * j]? = some 32) ∧ (∀ j, j < i → ∃ c, b.cps.toList[2 * j + 1]? = some c ∧ 48 ≤ c ∧ c ≤ 57) ∧ ∃ o5, σ = [some (.str x), some (.str a), some (.str m), some (.str b), some (.ref tl), o5]
    refine ⟨_, rfl, b, rfl, hzb, b.length, rfl, by omega, for_step2 Pv ⟨kt, etl, fun j hj => absurd hj (Nat.not_lt_zero _), fun j hj => absurd hj (Nat.not_lt_zero _), _, rfl⟩ (fun i σ H4 hi p => ?_) (fun σ H4 p => ?_)⟩
    · obtain ⟨g, et, e0, e1, o5, rfl⟩ := p
      have g14 := k2.trans g
      obtain ⟨c0, h0⟩ : ∃ c, b.cps.toList[2 * i]? = some c := ⟨_, List.getElem?_eq_getElem (by omega)⟩
      obtain ⟨c1, h1⟩ : ∃ c, b.cps.toList[2 * i + 1]? = some c := ⟨_, List.getElem?_eq_getElem (by omega)⟩
      have a0 : atI b.cps.toList (2 * (i : Int)) = some c0 := by rw [show (2 * (i : Int)) = ((2 * i : Nat) : Int) by omega]; exact atI_nat h0
      have a1 : atI b.cps.toList (2 * (i : Int) + 1) = some c1 := by rw [show (2 * (i : Int) + 1) = ((2 * i + 1 : Nat) : Int) by omega]; exact atI_nat h1
      have at1 : (evs (b.cps.toList.drop 1))[i]? = some c1 := by rw [evs_at, List.getElem?_drop, show 1 + 2 * i = 2 * i + 1 by omega]; exact h1
      refine ⟨_, rfl, _, rfl, b, _, c0, rfl, rfl, hzb, a0, rfl, _, rfl, ?_⟩
      by_cases s0 : c0 = 32
      rotate_left
      · refine iteND (fun z => s0 ?_) (nob g14 ?_)
        · injection z with z
          have z := congrArg (fun y : Str => y.cps.toList) z
          rw [show (Str.ofString " ").cps.toList = [32] by decide +kernel] at z
          injection z
        · unfold isFg
          have : only (ev 0 b) (Str.ofString " ") = false := by
            cases o : only (ev 0 b) (Str.ofString " ") with
            | false => rfl
            | true =>
              have y := List.all_eq_true.mp o c0 (by rw [ev_list]; exact List.mem_of_getElem? (i := i) (by rw [evs_at]; exact h0))
              rw [show (Str.ofString " ").cps.toList = [32] by decide +kernel] at y
              exact absurd (List.mem_singleton.mp (of_decide_eq_true y)) s0
          rw [this, Bool.false_and, Bool.and_false]
      subst s0
      refine iteNS (by decide +kernel) ⟨_, rfl, _, rfl, _, _, rfl, rfl, b, _, c1, rfl, rfl, hzb, a1, _, _, rfl, rfl, _, rfl, ?_⟩
      rw [StrLaws.found_one]
      by_cases s1 : 48 ≤ c1 ∧ c1 ≤ 57
      rotate_left
      · have m1 : ¬ c1 ∈ (Str.ofString "0123456789").cps.toList := fun z => s1 (figs_mem.mp z)
        rw [decide_eq_false m1]
        refine iteT (nob g14 ?_)
        unfold isFg
        have : only (ev 1 b) figs = false := by
          cases o : only (ev 1 b) figs with
          | false => rfl
          | true =>
            have y := List.all_eq_true.mp o c1 (by rw [ev_list]; exact List.mem_of_getElem? at1)
            exact absurd (figs_mem.mp (of_decide_eq_true y)) s1
        rw [this, Bool.and_false, Bool.and_false]
      have m1 : c1 ∈ (Str.ofString "0123456789").cps.toList := figs_mem.mpr s1
      rw [decide_eq_true m1]
      obtain ⟨d, rfl⟩ : ∃ d, c1 = 48 + d := ⟨c1 - 48, by omega⟩
      refine iteF ⟨_, rfl, .inl ⟨rfl, _, SqL.of et⟩, _, rfl, _, rfl, _, _, rfl, rfl, b, _, 48 + d, rfl, rfl, hzb, a1, d, rfl, by omega, tl, _, _, rfl, rfl, et, ?_, ?_⟩
      · rw [List.length_map, List.length_take, sizeLine_eq]
        omega
      refine ⟨same_upd g htl, ?_, fun j hj => ?_, fun j hj => ?_, _, rfl⟩
      · rw [upd_same, List.take_add_one, at1, List.map_append]
        show some (HO.lst (_ ++ [nv d])) = some (HO.lst (_ ++ [nv (48 + d - 48)]))
        rw [show 48 + d - 48 = d by omega]
      · rcases Nat.lt_or_ge j i with hj' | hj'
        · exact e0 j hj'
        · rw [show j = i by omega]
          exact h0
      · rcases Nat.lt_or_ge j i with hj' | hj'
        · exact e1 j hj'
        · rw [show j = i by omega]
          exact ⟨48 + d, h1, by omega, by omega⟩
    obtain ⟨g, et, e0, e1, o5, rfl⟩ := p
    have g14 := k2.trans g
    have fgT : isFg b = true := by
      unfold isFg
      rw [decide_eq_true hb, decide_eq_true ev2, Bool.true_and, Bool.true_and, Bool.and_eq_true]
      unfold only
      rw [List.all_eq_true, List.all_eq_true]
      refine ⟨fun c hc => ?_, fun c hc => ?_⟩
      · rw [ev_list] at hc
        obtain ⟨j, ej⟩ := List.getElem?_of_mem hc
        rw [evs_at, List.drop_zero] at ej
        have hj := (List.getElem?_eq_some_iff.mp ej).1
        rw [e0 j (by omega)] at ej
        cases ej
        decide +kernel
      · rw [ev_list] at hc
        obtain ⟨j, ej⟩ := List.getElem?_of_mem hc
        rw [evs_at, List.getElem?_drop, show 1 + 2 * j = 2 * j + 1 by omega] at ej
        have hj := (List.getElem?_eq_some_iff.mp ej).1
        obtain ⟨c', ec, h1, h2⟩ := e1 j (by omega)
        rw [ec] at ej
        cases ej
        exact decide_eq_true (figs_mem.mpr ⟨h1, h2⟩)
    have le : (evs (b.cps.toList.drop 1)).length = (b.length + 1) / 2 := by
      rw [evs_len, List.length_drop]
      omega
    rw [← le, List.take_length, show ((evs (b.cps.toList.drop 1)).map fun c => nv (c - 48)) = ((ev 1 b).cps.toList.map (· - 48)).map nv by rw [ev_list, List.map_map]; rfl] at et
    refine ⟨_, rfl, _, rfl, tl, _, rfl, .inl ⟨SqL.of et, fun r nr => ⟨by show 2 ≤ sizeLine; decide, fun p np => ?_⟩⟩⟩
    exact yes (g14.trans ((same_new nr _).trans (same_new np _))) fgT upd_same (same_new np _ _ _ upd_same)
end
abbrev dtT (t : List Nat) : Dt := .tup ((t.map fun (n : Nat) => (n : Int)).map Dt.int)
def txtD : Dt := .tup [.str (Str.ofString "text"), .non]
def macD : Dt := .tup [.str (Str.ofString "machine"), .non]
def rdD (rs : List (Str × List Nat)) : Dt := .tup [.str (Str.ofString "read"), .tup [.tup ((rs.map (·.1)).map Dt.str), .tup ((rs.map (·.2)).map dtT)]]
def DueOf (x : Str) (d : Dt) : Prop := (∃ rs, RowsOk x rs ∧ good rs ∧ d = rdD rs) ∨ ((∀ rs, ¬ RowsOk x rs) ∧ d = txtD) ∨ ∃ rs, RowsOk x rs ∧ ¬ good rs ∧ d = macD
theorem DueOf.uniq {x : Str} {d d' : Dt} (h : DueOf x d) (h' : DueOf x d') : d = d' := by
  rcases h with ⟨rs, a, b, rfl⟩ | ⟨a, rfl⟩ | ⟨rs, a, b, rfl⟩ <;> rcases h' with ⟨rs', a', b', rfl⟩ | ⟨a', rfl⟩ | ⟨rs', a', b', rfl⟩
  · rw [a.uniq a']
  · exact absurd a (a' _)
  · cases a.uniq a'
    exact absurd b b'
  · exact absurd a' (a _)
  · rfl
  · exact absurd a' (a _)
  · cases a.uniq a'
    exact absurd b' b
  · exact absurd a (a' _)
  · rfl
theorem rep_two {K : PySem.W.Frag} {H : Hp} {p : Addr} {n : Nat} {v1 v2 : V} {d1 d2 : Dt} (h : H p = some (.tup [v1, v2])) (r1 : Rep K H n d1 v1) (r2 : Rep K H n d2 v2) : Rep K H (n + 1) (.tup [d1, d2]) (.ref p) := .tup (SqT.of h) rfl fun i d v e1 e2 => by
  match i, e1, e2 with
  | 0, e1, e2 =>
    cases e1
    cases e2
    exact r1
  | 1, e1, e2 =>
    cases e1
    cases e2
    exact r2
theorem rep_strs {K : PySem.W.Frag} {H : Hp} {a : Addr} {xs : List Str} {n : Nat} (h : H a = some (.tup (xs.map V.str))) : Rep K H (n + 1) (.tup (xs.map Dt.str)) (.ref a) := .tup (SqT.of h) (by rw [List.length_map, List.length_map]) fun i d v e1 e2 => by
  rw [List.getElem?_map] at e1 e2
  obtain ⟨x, ex, rfl⟩ := Option.map_eq_some_iff.mp e1
  obtain ⟨y, ey, rfl⟩ := Option.map_eq_some_iff.mp e2
  rw [ex] at ey
  cases ey
  exact .str n x
theorem rep_turns {K : PySem.W.Frag} {H : Hp} {b : Addr} {bs : List Addr} {ts : List (List Nat)} {k : Nat} (h1 : H b = some (.tup (bs.map .ref))) (T : TupsAt H bs ts) : Rep K H (k + 2) (.tup (ts.map dtT)) (.ref b) := by
  refine .tup (SqT.of h1) (by rw [List.length_map, List.length_map, T.len]) fun i d v e1 e2 => ?_
  rw [List.getElem?_map] at e1 e2
  obtain ⟨t, et, rfl⟩ := Option.map_eq_some_iff.mp e1
  obtain ⟨r, er, rfl⟩ := Option.map_eq_some_iff.mp e2
  exact repTn (SqT.of (T.is i r t er et))
theorem ReadAt.rep {K : PySem.W.Frag} {H : Hp} {p : Addr} {rs : List (Str × List Nat)} (h : ReadAt H p rs) : Rep K H 3 (.tup [.tup ((rs.map (·.1)).map Dt.str), .tup ((rs.map (·.2)).map dtT)]) (.ref p) := by
  obtain ⟨a, b, bs, h1, h2, h3, h4⟩ := h.here
  exact rep_two h1 (rep_strs h2) (rep_turns h3 h4)
def RwL (H' : Hp) (y : Str) (v : V) : Prop := (rowR y = none ∧ v = .non) ∨ ∃ n t a b, rowR y = some (n, t) ∧ v = .ref a ∧ H' a = some (.tup [.str n, .ref b]) ∧ H' b = some (.tup (t.map nv))
def dR (y : Str) : Dt := match rowR y with
  | none => .non
  | some r => .tup [.str r.1, dtT r.2]
theorem RwL.rep {K : PySem.W.Frag} {H : Hp} {y : Str} {v : V} (h : RwL H y v) : Rep K H 2 (dR y) v := by
  unfold dR
  rcases h with ⟨e, rfl⟩ | ⟨n, t, a, b, e, rfl, h3, h4⟩
  · rw [e]
    exact .non 2
  · rw [e]
    exact rep_two h3 (.str 1 n) (repTn (SqT.of h4))
theorem rows_of {H : Hp} : ∀ {ps : List Str} {ys : List V}, ys.length = ps.length → (∀ (j : Nat) y v, ps[j]? = some y → ys[j]? = some v → RwL H y v) → (∀ y ∈ ps, rowR y ≠ none) →
    ∃ (as bs : List Addr) (rs : List (Str × List Nat)), ys = as.map V.ref ∧ as.length = ps.length ∧ bs.length = ps.length ∧ ps.map rowR = rs.map some ∧ ∀ (j : Nat) a b r, as[j]? = some a → bs[j]? = some b → rs[j]? = some r → H a = some (.tup [.str r.1, .ref b]) ∧ H b = some (.tup (r.2.map nv))
  | [], [], _, _, _ => ⟨[], [], [], rfl, rfl, rfl, rfl, fun j a b r e => by simp at e⟩
  | y :: ps, v :: ys, hl, h, ok => by
    obtain ⟨as, bs, rs, e1, e2, e3, e4, e5⟩ := rows_of (ps := ps) (ys := ys) (by simpa using hl) (fun j y v z1 z2 => h (j + 1) y v z1 z2) fun y hy => ok y (List.mem_cons_of_mem _ hy)
    rcases h 0 y v rfl rfl with ⟨e, _⟩ | ⟨n, t, a, b, e, rfl, h3, h4⟩
    · exact absurd e (ok y (List.mem_cons_self ..))
    refine ⟨a :: as, b :: bs, (n, t) :: rs, by rw [e1]; rfl, by simp [e2], by simp [e3], by rw [List.map_cons, e, e4]; rfl, fun j a' b' r' z1 z2 z3 => ?_⟩
    cases j with
    | zero =>
      cases z1
      cases z2
      cases z3
      exact ⟨h3, h4⟩
    | succ j => exact e5 j a' b' r' z1 z2 z3
def spLDue (K : PySem.W.Frag) : Sp := fun vs H Q _ => ∃ x : Str, vs = [.str x] ∧ Asc x ∧ x.length ≤ 950 ∧ ∀ p d H', Same H H' → DueOf x d → Rep K H' 4 d (.ref p) → Q (.ref p) H'
section
variable {P : Program} {w : World} {K : PySem.W.Frag} {mg : Str → Option Value} {base : Heap} {f : Addr} {fd : FuncData}
theorem ok_ldue (F : Fun K "_law_due" "_law_due" sLawDue f fd) (c__law_row : Callee P w K mg base "_law_row" 1 ["_law_line"] spLRow) (m_len : mg "len" = none) (m_tuple : mg "tuple" = none) (m_set : mg "set" = none) (m_max : mg "max" = none) : FnOk P w K mg base CX0 3 f fd ["_law_text"] (spLDue K) := by
  refine F.ok scLawDue (fun vs H Q E h => ?_) (fun cdv A outer s H vs Q E hr h => ?_)
  · obtain ⟨x, rfl, _⟩ := h
    rfl
  obtain ⟨x, rfl, ax, lx, q⟩ := h
  have hu := hr.units
  refine ⟨_, (qss_at (qss_cons (qs_of (ps_setC1 (CompSc.to (N := ["_law_text", "_law_rows", "_law_names_here", "_law_machine_here", "_law_rooms", "_law_good", "_law_turn_here"]) (osc := defScope sLawDue) (vs := ["_law_line"]) ⟨rfl, by decide +kernel, by decide +kernel, by decide +kernel, by decide +kernel, by decide +kernel, by decide +kernel⟩) rfl rfl scLawDue.nd (j := 1) rfl rfl (pi_list (pe_bm PySem.F.plainAttrs_str PySem.F.slot_str_split PySem.F.type_str_split mt_split (pv 0) (pa_cons pe_str pa_nil))) (fun _ _ _ _ => pts_nil) (fun _ _ _ _ => (pe_callD c__law_row (hr.mono (by decide)) rfl (pa_cons (pv 0) pa_nil))))) (qss_cons (qs_if (pt_cmpR (op_inD hu) pe_non (pv 1) (by with_unfolding_all rfl)) (qss_one (qs_ret (qe_tup (ql_cons (qe_of pe_str) (ql_cons (qe_of pe_non) pl_nil rfl) rfl)))) qss_nil) (qss_cons (qs_of (ps_set (i := 2) scLawDue.nd rfl (Or.inl rfl) (pe_callTy call_tuple_of rfl m_tuple boot_tuple (pa_cons (pe_comp (CompSc.to (N := ["_law_text", "_law_rows", "_law_names_here", "_law_machine_here", "_law_rooms", "_law_good", "_law_turn_here"]) (osc := defScope sLawDue) (vs := ["_law_name", "_law_turn_here"]) ⟨rfl, by decide +kernel, by decide +kernel, by decide +kernel, by decide +kernel, by decide +kernel, by decide +kernel⟩) rfl (pi_list (pv 1)) (pg_own2 (CompSc.to (N := ["_law_text", "_law_rows", "_law_names_here", "_law_machine_here", "_law_rooms", "_law_good", "_law_turn_here"]) (osc := defScope sLawDue) (vs := ["_law_name", "_law_turn_here"]) ⟨rfl, by decide +kernel, by decide +kernel, by decide +kernel, by decide +kernel, by decide +kernel, by decide +kernel⟩) rfl rfl rfl) (fun _ _ _ _ => pts_nil) (fun _ _ _ _ => (pv 0))) pa_nil)))) (qss_cons (qs_of (ps_set (i := 3) scLawDue.nd rfl (Or.inl rfl) (pe_callTy call_tuple_of rfl m_tuple boot_tuple (pa_cons (pe_comp (CompSc.to (N := ["_law_text", "_law_rows", "_law_names_here", "_law_machine_here", "_law_rooms", "_law_good", "_law_turn_here"]) (osc := defScope sLawDue) (vs := ["_law_name", "_law_turn_here"]) ⟨rfl, by decide +kernel, by decide +kernel, by decide +kernel, by decide +kernel, by decide +kernel, by decide +kernel⟩) rfl (pi_list (pv 1)) (pg_own2 (CompSc.to (N := ["_law_text", "_law_rows", "_law_names_here", "_law_machine_here", "_law_rooms", "_law_good", "_law_turn_here"]) (osc := defScope sLawDue) (vs := ["_law_name", "_law_turn_here"]) ⟨rfl, by decide +kernel, by decide +kernel, by decide +kernel, by decide +kernel, by decide +kernel, by decide +kernel⟩) rfl rfl rfl) (fun _ _ _ _ => pts_nil) (fun _ _ _ _ => (pv 1))) pa_nil)))) (qss_cons (qs_of (ps_set (i := 4) scLawDue.nd rfl (Or.inl rfl) (pe_callB call_len_seq rfl m_len boot_len (pa_cons (pe_ix ix_tup (pv 3) pe_int (fun _ _ => rfl)) pa_nil)))) (qss_cons (qs_of (ps_cut (ps_set (i := 5) scLawDue.nd rfl (Or.inl rfl) (pe_and (pe_cmpR op_eq (pe_callB call_lenSS rfl m_len boot_len (pa_cons (pe_callTy (call_setS rfl) rfl m_set PyProof.Rows.boot_set (pa_cons (pv 2) pa_nil)) pa_nil)) (pe_callB call_len_seq rfl m_len boot_len (pa_cons (pv 2) pa_nil)) (nomark _)) (pe_and (pe_cmpR op_le (pe_callB call_len_seq rfl m_len boot_len (pa_cons (pv 1) pa_nil)) pe_int (nomark _)) (pe_one (pe_cmpR op_le (pv 4) pe_int (nomark _)))))))) (qss_cons (qs_of (ps_for PassesOwn.never rfl (pi_tup (pv 3)) (pg_name (i := 6) scLawDue.nd rfl (Or.inl rfl)) (pss_one (ps_set (i := 5) scLawDue.nd rfl (Or.inl rfl) (pe_and (pv 5) (pe_and (pe_cmpR op_eq (pe_callB call_len_seq rfl m_len boot_len (pa_cons (pv 6) pa_nil)) (pv 4) (nomark _)) (pe_one (pe_cmpR op_lt (pe_callB (call_maxM rfl) rfl m_max boot_max (pa_cons (pv 6) pa_nil)) (pv 4) (nomark _))))))))) (qss_cons (qs_if (pt_not (pt_val (pv 5))) (qss_one (qs_ret (qe_tup (ql_cons (qe_of pe_str) (ql_cons (qe_of pe_non) pl_nil rfl) rfl)))) qss_nil) (qss_one (qs_ret (qe_tup (ql_cons (qe_of pe_str) (ql_cons (qe_of (pe_tup (pl_at (pl_cons (pv 2) (pl_cons (pv 3) pl_nil rfl) rfl)))) pl_nil rfl) rfl))))))))))))), ?_⟩
  refine ⟨_, rfl, rfl, x, _, rfl, rfl, by decide +kernel, small (by omega), fun sl nsl => ?_⟩
  rw [show Str.ofString "\n" = nlS from rfl]
  obtain ⟨ps, eps⟩ : ∃ ps, Txt.split x nlS = ps := ⟨_, rfl⟩
  have pin : ∀ p ∈ ps, Within p x := fun p hp => split_in (eps ▸ hp)
  have many : ps.length ≤ x.length + 1 := eps ▸ split_many x
  have some1 : 1 ≤ ps.length := eps ▸ split_some x
  rw [eps]
  have ks := same_new nsl (.lst (ps.map V.str))
  have es : upd H sl (.lst (ps.map V.str)) sl = some (.lst (ps.map V.str)) := upd_same
  generalize upd H sl (.lst (ps.map V.str)) = H1 at ks es ⊢
  have Rws : ∀ {H' H'' y v}, Same H' H'' → RwL H' y v → RwL H'' y v := fun g h => h.imp id fun ⟨n, t, a, b, h1, h2, h3, h4⟩ => ⟨n, t, a, b, h1, h2, g _ _ h3, g _ _ h4⟩
  refine ⟨sl, rfl, ⟨_, SqL.of es⟩, comp_list (xs := ps.map V.str) (fun i ys H' => Same H1 H' ∧ ys.length = i ∧ ∀ (j : Nat) y v, ps[j]? = some y → ys[j]? = some v → RwL H' y v) (small (by rw [List.length_map]; omega)) ⟨Same.refl _, rfl, fun j y v _ e => by simp at e⟩ (fun i ys H' hi p => ?_) (fun i v ys H' hv p => ?_) (fun ys H2 p rl nrl => ?_)⟩
  · obtain ⟨g, l1, _⟩ := p
    exact ⟨SqL.of (g _ _ es), by rw [l1]; exact Nat.le_refl _⟩
  · obtain ⟨g, l1, all⟩ := p
    rw [List.getElem?_map] at hv
    obtain ⟨y, ey, rfl⟩ := Option.map_eq_some_iff.mp hv
    have wy := pin y (List.mem_of_getElem? ey)
    have fin : ∀ {H3 v}, Same H' H3 → RwL H3 y v → ∀ (j : Nat) y' v', ps[j]? = some y' → (ys ++ [v])[j]? = some v' → RwL H3 y' v' := fun {H3 v} g3 h j y' v' a1 a2 => by
      rcases Nat.lt_or_ge j i with hj | hj
      · rw [List.getElem?_append_left (by omega)] at a2
        exact Rws g3 (all j y' v' a1 a2)
      · have ji : j = i := by
          have := (List.getElem?_eq_some_iff.mp a2).1
          rw [List.length_append] at this
          have : j < ys.length + 1 := this
          omega
        subst ji
        rw [List.getElem?_append_right (by omega), l1, Nat.sub_self] at a2
        rw [ey] at a1
        cases a1
        cases a2
        exact h
    exact ⟨keep_one, yes_of ⟨_, rfl, y, rfl, wy.asc ax, by have := wy.2; omega, fun H3 g3 eR => ⟨g.trans g3, by simp [l1], fin g3 (.inl ⟨eR, rfl⟩)⟩, fun n t p r H3 g3 eR ep er => ⟨g.trans g3, by simp [l1], fin g3 (.inr ⟨n, t, p, r, eR, rfl, ep, er⟩)⟩⟩⟩
  obtain ⟨g2, l1, all⟩ := p
  rw [List.length_map] at l1
  have krl := same_new nrl (.lst ys)
  have erl : upd H2 rl (.lst ys) rl = some (.lst ys) := upd_same
  have gH3 := (ks.trans g2).trans krl
  have all3 : ∀ (j : Nat) y v, ps[j]? = some y → ys[j]? = some v → RwL (upd H2 rl (.lst ys)) y v := fun j y v a1 a2 => Rws krl (all j y v a1 a2)
  generalize upd H2 rl (.lst ys) = H3 at erl gH3 all3 ⊢
  clear all g2 nrl
  refine ⟨_, rfl, rl, 2, .non, ps.map dR, ys, rfl, SqL.of erl, by rw [List.length_map, l1], .non 2, fun i d v e1 e2 => ?_, by decide, fun c hc => ⟨_, rfl, ?_⟩⟩
  · rw [List.getElem?_map] at e1
    obtain ⟨y, ey, rfl⟩ := Option.map_eq_some_iff.mp e1
    exact (all3 i y v ey e2).rep
  have hc : c = true ↔ ∃ y ∈ ps, rowR y = none := by
    rw [hc, List.mem_map]
    refine exists_congr fun y => and_congr_right fun _ => ?_
    unfold dR
    cases rowR y with
    | none => simp
    | some r => simp
  cases c with
  | true =>
    obtain ⟨y, hy, ny⟩ := hc.mp rfl
    refine iteT ⟨by show 2 ≤ sizeLine; decide, fun p np => q p txtD _ (gH3.trans (same_new np _)) (.inr (.inl ⟨fun rs h => ?_, rfl⟩)) (rep_two upd_same (.str 3 _) (.non 3))⟩
    unfold RowsOk at h
    rw [eps] at h
    have z : none ∈ ps.map rowR := List.mem_map.mpr ⟨y, hy, ny⟩
    rw [h] at z
    obtain ⟨_, _, z⟩ := List.mem_map.mp z
    cases z
  | false =>
  obtain ⟨as, bs, rs, rfl, l1, l2, er, all3⟩ := rows_of l1 all3 fun y hy z => Bool.noConfusion (hc.mpr ⟨y, hy, z⟩)
  have R : RowsOk x rs := by
    unfold RowsOk
    rw [eps]
    exact er
  have lrs : rs.length = ps.length := by
    have := congrArg List.length er
    rw [List.length_map, List.length_map] at this
    omega
  refine iteF ?_
  have row_at : ∀ i, i < as.length → ∃ a b r, as[i]? = some a ∧ bs[i]? = some b ∧ rs[i]? = some r := fun i hi => ⟨as[i], bs[i]'(by omega), rs[i]'(by omega), List.getElem?_eq_getElem _, List.getElem?_eq_getElem _, List.getElem?_eq_getElem _⟩
  refine ⟨_, rfl, rl, rfl, ⟨_, SqL.of erl⟩, comp_list (xs := as.map V.ref) (fun i ys H' => H' = H3 ∧ ys = ((rs.take i).map (·.1)).map V.str) (small (by rw [List.length_map]; omega)) ⟨rfl, rfl⟩ (fun i ys H' hi p => ?_) (fun i v ys H' hv p => ?_) (fun ys H4 p cl ncl => ?_)⟩
  · obtain ⟨rfl, rfl⟩ := p
    exact ⟨SqL.of erl, by rw [List.length_map, List.length_map, List.length_take]; exact Nat.min_le_left ..⟩
  · obtain ⟨rfl, rfl⟩ := p
    rw [List.getElem?_map] at hv
    obtain ⟨pa, epa, rfl⟩ := Option.map_eq_some_iff.mp hv
    obtain ⟨a, b, r, a1, a2, a3⟩ := row_at i (List.getElem?_eq_some_iff.mp epa).1
    rw [epa] at a1
    cases a1
    obtain ⟨z1, z2⟩ := all3 i pa b r epa a2 a3
    refine ⟨pa, _, rfl, SqT.of z1, rfl, _, _, rfl, _, _, rfl, rfl, keep_two, yes_of ⟨_, rfl, rfl, ?_⟩⟩
    rw [List.take_add_one, a3, List.map_append, List.map_append]
    rfl
  obtain ⟨rfl, rfl⟩ := p
  rw [List.length_map, l1, ← lrs, List.take_length]
  have kcl := same_new ncl (.lst ((rs.map (·.1)).map V.str))
  refine ⟨cl, _, rfl, .inl ⟨SqL.of upd_same, fun nm nnm => ?_⟩⟩
  have knm := kcl.trans (same_new nnm (.tup ((rs.map (·.1)).map V.str)))
  have enm : upd (upd H4 cl (.lst ((rs.map (·.1)).map V.str))) nm (.tup ((rs.map (·.1)).map V.str)) nm = some (.tup ((rs.map (·.1)).map V.str)) := upd_same
  generalize upd (upd H4 cl (.lst ((rs.map (·.1)).map V.str))) nm (.tup ((rs.map (·.1)).map V.str)) = H5 at knm enm ⊢
  have erl5 := knm _ _ erl
  have all5 : ∀ (j : Nat) a b r, as[j]? = some a → bs[j]? = some b → rs[j]? = some r → H5 a = some (.tup [.str r.1, .ref b]) ∧ H5 b = some (.tup (r.2.map nv)) := fun j a b r a1 a2 a3 => ⟨knm _ _ (all3 j a b r a1 a2 a3).1, knm _ _ (all3 j a b r a1 a2 a3).2⟩
  have gH5 := gH3.trans knm
  refine ⟨_, rfl, rl, rfl, ⟨_, SqL.of erl5⟩, comp_list (xs := as.map V.ref) (fun i ys H' => H' = H5 ∧ ys = (bs.take i).map V.ref) (small (by rw [List.length_map]; omega)) ⟨rfl, rfl⟩ (fun i ys H' hi p => ?_) (fun i v ys H' hv p => ?_) (fun ys H7 p dl ndl => ?_)⟩
  · obtain ⟨rfl, rfl⟩ := p
    exact ⟨SqL.of erl5, by rw [List.length_map, List.length_take]; exact Nat.min_le_left ..⟩
  · obtain ⟨rfl, rfl⟩ := p
    rw [List.getElem?_map] at hv
    obtain ⟨pa, epa, rfl⟩ := Option.map_eq_some_iff.mp hv
    obtain ⟨a, b, r, a1, a2, a3⟩ := row_at i (List.getElem?_eq_some_iff.mp epa).1
    rw [epa] at a1
    cases a1
    obtain ⟨z1, z2⟩ := all5 i pa b r epa a2 a3
    refine ⟨pa, _, rfl, SqT.of z1, rfl, _, _, rfl, _, _, rfl, rfl, keep_two, yes_of ⟨_, rfl, rfl, ?_⟩⟩
    rw [List.take_add_one, a2, List.map_append]
    rfl
  obtain ⟨rfl, rfl⟩ := p
  rw [List.length_map, l1, ← l2, List.take_length]
  have kdl := same_new ndl (.lst (bs.map V.ref))
  refine ⟨dl, _, rfl, .inl ⟨SqL.of upd_same, fun mm nmm => ?_⟩⟩
  have kmm := kdl.trans (same_new nmm (.tup (bs.map V.ref)))
  have emm : upd (upd H7 dl (.lst (bs.map V.ref))) mm (.tup (bs.map V.ref)) mm = some (.tup (bs.map V.ref)) := upd_same
  have TT : TupsAt (upd (upd H7 dl (.lst (bs.map V.ref))) mm (.tup (bs.map V.ref))) bs (rs.map (·.2)) := ⟨by rw [List.length_map]; omega, fun i b t a2 a3 => by
    rw [List.getElem?_map] at a3
    obtain ⟨r, a4, rfl⟩ := Option.map_eq_some_iff.mp a3
    obtain ⟨a, _, _, a1, _, _⟩ := row_at i (by have := (List.getElem?_eq_some_iff.mp a2).1; omega)
    exact kmm _ _ (all5 i a b r a1 a2 a4).2⟩
  generalize upd (upd H7 dl (.lst (bs.map V.ref))) mm (.tup (bs.map V.ref)) = H8 at kmm emm TT ⊢
  have each : ∀ t ∈ rs.map (·.2), 1 ≤ t.length ∧ t.length ≤ 1000 := fun t ht => by
    obtain ⟨r, hr, rfl⟩ := List.mem_map.mp ht
    obtain ⟨i, ei⟩ := List.getElem?_of_mem hr
    obtain ⟨y, ey⟩ : ∃ y, ps[i]? = some y := ⟨_, List.getElem?_eq_getElem (by have := (List.getElem?_eq_some_iff.mp ei).1; omega)⟩
    have z : (ps.map rowR)[i]? = some (rowR y) := by rw [List.getElem?_map, ey]; rfl
    rw [er, List.getElem?_map, ei] at z
    obtain ⟨o, le⟩ := rowR_ok (n := r.1) (t := r.2) (Option.some.inj z).symm
    have := (pin y (List.mem_of_getElem? ey)).2
    exact ⟨o.some1, by omega⟩
  have enm8 := kmm _ _ enm
  have erl8 := kmm _ _ erl5
  have g8 := gH5.trans kmm
  obtain ⟨b0, eb0⟩ : ∃ b, bs[0]? = some b := ⟨_, List.getElem?_eq_getElem (by omega)⟩
  obtain ⟨r0, er0⟩ : ∃ r, rs[0]? = some r := ⟨_, List.getElem?_eq_getElem (by omega)⟩
  have et0 : (rs.map (·.2))[0]? = some r0.2 := by rw [List.getElem?_map, er0]; rfl
  have h0 := TT.is 0 b0 r0.2 eb0 et0
  have hd : (rs.map (·.2)).headD [] = r0.2 := by
    cases rs with
    | nil => cases er0
    | cons a r => cases er0; rfl
  refine ⟨_, rfl, mm, _, _, _, rfl, rfl, SqT.of emm, atI_nat (j := 0) (v := .ref b0) (by rw [List.getElem?_map, eb0]; rfl), b0, _, rfl, .inr (SqT.of h0), ?_⟩
  refine ⟨fun σ' H' => Same H8 H' ∧ ∃ c : Bool, (c = true ↔ (rs.map (·.1)).Nodup ∧ rs.length ≤ 4 ∧ r0.2.length ≤ 5) ∧ σ' = [some (.str x), some (.ref rl), some (.ref nm), some (.ref mm), some (nv r0.2.length), some (.bl c), none], ?_, fun σ' H9 z => ?_⟩
  · refine ⟨_, rfl, nm, rs.map (·.1), rfl, SqT.of enm8, by rw [List.length_map]; omega, fun sa nsa => ?_⟩
    have ksa := same_new nsa (SetSO sa (rs.map (·.1)))
    refine ⟨sa, rs.map (·.1), rfl, upd_same, _, rfl, nm, _, rfl, .inr (SqT.of (ksa _ _ enm8)), rfl, _, rfl, ?_⟩
    have sg : ∀ c : Bool, [some (V.str x), some (.ref rl), some (.ref nm), some (.ref mm), some (V.int (((r0.2.map nv).length : Nat) : Int)), some (.bl c), none] = [some (V.str x), some (.ref rl), some (.ref nm), some (.ref mm), some (nv r0.2.length), some (.bl c), none] := fun c => by rw [List.length_map]
    by_cases nd : (rs.map (·.1)).Nodup
    rotate_left
    · refine iteDN (fun z => ?_) ⟨ksa, false, ⟨fun z => Bool.noConfusion z, fun z => absurd z.1 nd⟩, sg false⟩
      have z : V.int ((ones (rs.map (·.1))).length : Int) = V.int ((((rs.map (·.1)).map V.str).length : Nat) : Int) := z
      injection z with z
      rw [List.length_map] at z
      exact nd (ones_len (by omega))
    refine iteD (by rw [ones_nodup nd]; simp) ⟨_, rfl, rl, _, rfl, .inl (SqL.of (ksa _ _ erl8)), _, _, rfl, rfl, _, rfl, ?_⟩
    by_cases f4 : rs.length ≤ 4
    rotate_left
    · exact iteDN (by rw [List.length_map]; omega) ⟨ksa, false, ⟨fun z => Bool.noConfusion z, fun z => absurd z.2.1 f4⟩, sg false⟩
    refine iteD (by rw [List.length_map]; omega) ⟨_, rfl, _, _, rfl, rfl, ?_⟩
    exact ⟨ksa, decide ((((r0.2.map nv).length : Nat) : Int) ≤ 5), by rw [decide_eq_true_iff, List.length_map]; exact ⟨fun z => ⟨nd, f4, by omega⟩, fun z => by omega⟩, sg _⟩
  obtain ⟨g9, c0, hc0, rfl⟩ := z
  refine ⟨_, rfl, mm, rfl, ⟨_, SqT.of (g9 _ _ emm)⟩, for_tup (xs := bs.map V.ref) (fun i σ H' => Same H9 H' ∧ ∃ (c : Bool) (o : Option V), (c = true ↔ (c0 = true ∧ ∀ t ∈ (rs.map (·.2)).take i, t.length = r0.2.length ∧ ∀ x ∈ t, x < r0.2.length)) ∧ σ = [some (.str x), some (.ref rl), some (.ref nm), some (.ref mm), some (nv r0.2.length), some (.bl c), o]) ⟨Same.refl _, c0, none, ⟨fun z => ⟨z, fun t ht => by simp at ht⟩, fun z => z.1⟩, rfl⟩ (fun i σ H' _ p => ?_) (fun i v σ H' hv p => ?_) (fun σ H' p => ?_)⟩
  · obtain ⟨g, _⟩ := p
    exact SqT.of (g _ _ (g9 _ _ emm))
  · obtain ⟨g, c, o, hcc, rfl⟩ := p
    rw [List.getElem?_map] at hv
    obtain ⟨b, eb, rfl⟩ := Option.map_eq_some_iff.mp hv
    obtain ⟨t, et⟩ : ∃ t, (rs.map (·.2))[i]? = some t := ⟨_, List.getElem?_eq_getElem (by have := (List.getElem?_eq_some_iff.mp eb).1; rw [List.length_map]; omega)⟩
    have ht := g _ _ (g9 _ _ (TT.is i b t eb et))
    obtain ⟨t1, _⟩ := each t (List.mem_of_getElem? et)
    have next : ∀ c' : Bool, (c' = true ↔ (c = true ∧ t.length = r0.2.length ∧ ∀ x ∈ t, x < r0.2.length)) → (c' = true ↔ (c0 = true ∧ ∀ t ∈ (rs.map (·.2)).take (i + 1), t.length = r0.2.length ∧ ∀ x ∈ t, x < r0.2.length)) := fun c' h => by
      rw [h, hcc, List.take_add_one, et]
      constructor
      · rintro ⟨⟨z1, z2⟩, z3⟩
        refine ⟨z1, fun t' ht' => ?_⟩
        rcases List.mem_append.mp ht' with y | y
        · exact z2 t' y
        · rw [List.mem_singleton.mp y]
          exact z3
      · rintro ⟨z1, z2⟩
        exact ⟨⟨z1, fun t' ht' => z2 t' (List.mem_append_left _ ht')⟩, z2 t (List.mem_append_right _ (List.mem_singleton.mpr rfl))⟩
    refine ⟨_, rfl, _, rfl, ?_⟩
    cases c with
    | false => exact iteF ⟨g, false, _, next false ⟨fun z => Bool.noConfusion z, fun z => Bool.noConfusion z.1⟩, rfl⟩
    | true =>
      refine iteT ⟨_, rfl, b, _, rfl, .inr (SqT.of ht), _, rfl, rfl, _, rfl, ?_⟩
      by_cases le : t.length = r0.2.length
      rotate_left
      · refine iteDN (fun z => ?_) ⟨g, false, _, next false ⟨fun z => Bool.noConfusion z, fun z => absurd z.2.1 le⟩, rfl⟩
        have z : V.int (((t.map nv).length : Nat) : Int) = V.int (r0.2.length : Int) := z
        injection z with z
        rw [List.length_map] at z
        omega
      refine iteD (by show V.int (((t.map nv).length : Nat) : Int) = V.int (r0.2.length : Int); rw [List.length_map, le]) ?_
      rw [nv_ints] at ht
      refine ⟨_, rfl, b, _, rfl, SqT.of ht, fun z => ?_, fun M hM mx => ⟨_, rfl, _, _, rfl, rfl, ?_⟩⟩
      · have := congrArg List.length z
        rw [List.length_map] at this
        have : t.length = 0 := this
        omega
      refine ⟨g, _, _, next _ ?_, rfl⟩
      rw [decide_eq_true_iff]
      constructor
      · intro z
        exact ⟨rfl, le, fun x hx => by have := mx (x : Int) (List.mem_map.mpr ⟨x, hx, rfl⟩); have z : M < (r0.2.length : Int) := z; omega⟩
      · rintro ⟨_, _, z⟩
        obtain ⟨y, hy, rfl⟩ := List.mem_map.mp hM
        have := z y hy
        show ((y : Nat) : Int) < (r0.2.length : Int)
        omega
  · obtain ⟨g, c, o, hcc, rfl⟩ := p
    rw [List.length_map, l2, ← lrs, ← List.length_map (f := (·.2)) (as := rs), List.take_length] at hcc
    have gg := (g8.trans g9).trans g
    have hgood : c = true ↔ good rs := by
      rw [hcc, hc0]
      unfold good machOk
      rw [hd, List.length_map]
      constructor
      · rintro ⟨⟨a1, a2, a3⟩, a4⟩
        exact ⟨a1, a2, a3, a4⟩
      · rintro ⟨a1, a2, a3, a4⟩
        exact ⟨⟨a1, a2, a3⟩, a4⟩
    refine ⟨_, rfl, _, rfl, ?_⟩
    cases c with
    | false => exact iteT ⟨by show 2 ≤ sizeLine; decide, fun p np => q p macD _ (gg.trans (same_new np _)) (.inr (.inr ⟨rs, R, fun z => Bool.noConfusion (hgood.mpr z), rfl⟩)) (rep_two upd_same (.str 3 _) (.non 3))⟩
    | true =>
      refine iteF ⟨_, rfl, _, rfl, by show 2 ≤ sizeLine; decide, fun ip nip => ⟨by show 2 ≤ sizeLine; decide, fun p np => ?_⟩⟩
      have kk := (same_new nip (.tup [.ref nm, .ref mm])).trans (same_new np (.tup [.str (Str.ofString "read"), .ref ip]))
      have g2 := (g9.trans g).trans kk
      exact q p (rdD rs) _ (gg.trans kk) (.inl ⟨rs, R, hgood.mp rfl, rfl⟩) (rep_two upd_same (.str 3 _) (rep_two (same_new np _ _ _ upd_same) (rep_strs (g2 _ _ enm8)) (rep_turns (g2 _ _ emm) (TT.same g2))))
end
def ClsAt (K : PySem.W.Frag) (D : Addr) : Prop := ∃ dd cd sl, K.lookup D = some ⟨.type "type", dd, .cls cd, sl⟩
def Under (K : PySem.W.Frag) (C : Addr) (v : Value) (b : Bool) : Prop := ∃ c dd cd sl, K.lookup C = some ⟨c, dd, .cls cd, sl⟩ ∧ cd.mro.isEmpty = false ∧ cd.mro.contains v = b
section
variable {K : PySem.W.Frag} {C D : Addr} {b : Bool}
theorem kit_self : PySem.W.kitOne K (.ref C) (.ref C) = some true := by
  unfold PySem.W.kitOne
  rw [if_pos (beq_self_eq_true _)]
theorem Under.sub {v : Value} (u : Under K C v b) : PySem.W.subIn K (.ref C) v = some b := by
  obtain ⟨c, dd, cd, sl, h1, h2, h3⟩ := u
  have e : PySem.W.clsIn K C = some cd := by
    unfold PySem.W.clsIn
    rw [h1]
  show PySem.W.mroIn K C v = some b
  unfold PySem.W.mroIn
  rw [e]
  show (if cd.mro.isEmpty = true then none else some (cd.mro.contains v)) = some b
  rw [if_neg (by rw [h2]; decide), h3]
theorem kit_ref (ne : (Value.ref C == Value.ref D) = false) (c : ClsAt K D) (u : Under K C (.ref D) b) : PySem.W.kitOne K (.ref C) (.ref D) = some b := by
  obtain ⟨dd, cd, sl, h⟩ := c
  have e1 : PySem.W.clsIn K D = some cd := by
    unfold PySem.W.clsIn
    rw [h]
  have e2 : PySem.W.typeIn K (.ref D) = some (.type "type") := by
    show (K.lookup D).map (·.cls) = _
    rw [h]
    rfl
  unfold PySem.W.kitOne
  rw [if_neg (by rw [ne]; decide)]
  show (if ((PySem.W.clsIn K D).isSome && PySem.W.typeIn K (.ref D) == some (.type "type")) = true then PySem.W.subIn K (.ref C) (.ref D) else none) = some b
  rw [e1, e2, if_pos (by rw [beq_self_eq_true]; rfl), u.sub]
theorem kit_type {T : String} (m : PySem.W.kitMeta T = true) (u : Under K C (.type T) b) : PySem.W.kitOne K (.ref C) (.type T) = some b := by
  unfold PySem.W.kitOne
  rw [if_neg (fun z => absurd (beq_iff_eq.mp z) (by intro y; cases y))]
  show (if PySem.W.kitMeta T = true then PySem.W.subIn K (.ref C) (.type T) else none) = some b
  rw [if_pos m, u.sub]
end
structure KO (K : PySem.W.Frag) (CH CM CO CT CR CN C : Addr) (t m : Bool) : Prop where
  err : ErrA K C
  sub : SubC K C CH
  text : PySem.W.kitOne K (.ref C) (.ref CT) = some t
  mach : PySem.W.kitOne K (.ref C) (.ref CM) = some m
  too : PySem.W.kitOne K (.ref C) (.ref CO) = some false
  row : PySem.W.kitOne K (.ref C) (.ref CR) = some false
  name : PySem.W.kitOne K (.ref C) (.ref CN) = some false
  hall : PySem.W.kitOne K (.ref C) (.ref CH) = some true
  val : PySem.W.kitOne K (.ref C) (.type "ValueError") = some true
def spKind (K : PySem.W.Frag) (CT CM : Addr) : Sp := fun vs H Q _ => ∃ (e C : Addr) (d : Option Addr) (dd : Dt), vs = [.ref e] ∧ H e = some (.ext (ExcAt e C d)) ∧ ((C = CT ∧ dd = txtD) ∨ (C = CM ∧ dd = macD)) ∧ ∀ p H', Same H H' → Rep K H' 4 dd (.ref p) → Q (.ref p) H'
def spAsked (K : PySem.W.Frag) : Sp := fun vs H Q _ => (∃ x : Str, vs = [.str x] ∧ Asc x ∧ x.length ≤ 950 ∧ ∀ p d H', Same H H' → DueOf x d → Rep K H' 4 d (.ref p) → Q (.ref p) H') ∨
  ∃ (v : V) (t : Value), vs = [v] ∧ TyOf K H v t ∧ PySem.W.kitOne K t (.type "str") = some false ∧ ∀ p H', Same H H' → Rep K H' 4 txtD (.ref p) → Q (.ref p) H'
theorem boot_ValueError : bootBuiltins "ValueError" = some (.type "ValueError") := by decide +kernel
section
variable {P : Program} {w : World} {K : PySem.W.Frag} {mg : Str → Option Value} {base : Heap} {f : Addr} {fd : FuncData}
theorem ok_kindH {C_HallError C_NoMachine C_TooMany C_NoText C_NoRow C_NoName : Addr} (F : Fun K "_law_kind" "_law_kind" sLawKind f fd) (m_isinstance : mg "isinstance" = none) (m_ValueError : mg "ValueError" = none) (m_HallError : mg "HallError" = some (.ref C_HallError)) (m_NoMachine : mg "NoMachine" = some (.ref C_NoMachine)) (m_TooMany : mg "TooMany" = some (.ref C_TooMany)) (m_NoText : mg "NoText" = some (.ref C_NoText)) (m_NoRow : mg "NoRow" = some (.ref C_NoRow)) (m_NoName : mg "NoName" = some (.ref C_NoName)) (kT : KO K C_HallError C_NoMachine C_TooMany C_NoText C_NoRow C_NoName C_NoText true false) (kM : KO K C_HallError C_NoMachine C_TooMany C_NoText C_NoRow C_NoName C_NoMachine false true) : FnOkH P w K mg base 1 f fd ["_law_e"] (spKind K C_NoText C_NoMachine) := by
  refine F.okH scLawKind (fun vs H Q E h => ?_) (fun cdv A outer s H vs Q E hr h => ?_)
  · obtain ⟨e, C, d, dd, rfl, _⟩ := h
    rfl
  obtain ⟨e, C, d, dd, rfl, he, hC, q⟩ := h
  have hu := hr.units
  refine ⟨_, (qss_at (qss_cons (qs_of (ps_set (i := 1) scLawKind.nd rfl (Or.inl rfl) (pe_lst (pl_at (pl_cons (pe_callB call_isiE rfl m_isinstance boot_isinstance (pl_at (pl_cons (pv 0) (pl_cons (pe_glob (v := .ref C_NoText) rfl m_NoText rfl) pl_nil rfl) rfl))) (pl_cons (pe_callB call_isiE rfl m_isinstance boot_isinstance (pl_at (pl_cons (pv 0) (pl_cons (pe_glob (v := .ref C_NoMachine) rfl m_NoMachine rfl) pl_nil rfl) rfl))) (pl_cons (pe_callB call_isiE rfl m_isinstance boot_isinstance (pl_at (pl_cons (pv 0) (pl_cons (pe_glob (v := .ref C_TooMany) rfl m_TooMany rfl) pl_nil rfl) rfl))) (pl_cons (pe_callB call_isiE rfl m_isinstance boot_isinstance (pl_at (pl_cons (pv 0) (pl_cons (pe_glob (v := .ref C_NoRow) rfl m_NoRow rfl) pl_nil rfl) rfl))) pl_nil rfl) rfl) rfl) rfl))))) (qss_cons (qs_of (ps_set (i := 1) scLawKind.nd rfl (Or.inl rfl) (pe_op op_catS (pv 1) (pe_lst (pl_at (pl_cons (pe_callB call_isiE rfl m_isinstance boot_isinstance (pl_at (pl_cons (pv 0) (pl_cons (pe_glob (v := .ref C_NoName) rfl m_NoName rfl) pl_nil rfl) rfl))) (pl_cons (pe_and (pe_callB call_isiE rfl m_isinstance boot_isinstance (pl_at (pl_cons (pv 0) (pl_cons (pe_glob (v := .ref C_HallError) rfl m_HallError rfl) pl_nil rfl) rfl))) (pe_one (pe_callB call_isiE rfl m_isinstance boot_isinstance (pl_at (pl_cons (pv 0) (pl_cons (pe_ty rfl m_ValueError boot_ValueError) pl_nil rfl) rfl))))) pl_nil rfl) rfl)))))) (qss_cons (qs_if (pt_cmpR (op_eqB hu) (pv 1) (pe_lst (pl_at (pl_cons pe_bl (pl_cons pe_bl (pl_cons pe_bl (pl_cons pe_bl (pl_cons pe_bl (pl_cons pe_bl pl_nil rfl) rfl) rfl) rfl) rfl) rfl))) (nomark _)) (qss_one (qs_ret (qe_tup (ql_cons (qe_of pe_str) (ql_cons (qe_of pe_non) pl_nil rfl) rfl)))) qss_nil) (qss_cons (qs_if (pt_cmpR (op_eqB hu) (pv 1) (pe_lst (pl_at (pl_cons pe_bl (pl_cons pe_bl (pl_cons pe_bl (pl_cons pe_bl (pl_cons pe_bl (pl_cons pe_bl pl_nil rfl) rfl) rfl) rfl) rfl) rfl))) (nomark _)) (qss_one (qs_ret (qe_tup (ql_cons (qe_of pe_str) (ql_cons (qe_of pe_non) pl_nil rfl) rfl)))) qss_nil) (qss_one (qs_ret (qe_tup (ql_cons (qe_of pe_str) (ql_cons (qe_of pe_non) pl_nil rfl) rfl))))))))), ?_⟩
  obtain ⟨t, m, ko, hd⟩ : ∃ t m, KO K C_HallError C_NoMachine C_TooMany C_NoText C_NoRow C_NoName C t m ∧ ((t = true ∧ m = false ∧ dd = txtD) ∨ (t = false ∧ m = true ∧ dd = macD)) := by
    rcases hC with ⟨rfl, rfl⟩ | ⟨rfl, rfl⟩
    · exact ⟨_, _, kT, .inl ⟨rfl, rfl, rfl⟩⟩
    · exact ⟨_, _, kM, .inr ⟨rfl, rfl, rfl⟩⟩
  have u1 : ∀ {D : Addr} (u' : Value), RelV (.ref D) u' → u' = .ref D := fun u' z => by cases z; rfl
  refine ⟨_, rfl, e, _, _, _, _, _, rfl, ⟨rfl, u1⟩, he, ko.err, ko.text, _, rfl, e, _, _, _, _, _, rfl, ⟨rfl, u1⟩, he, ko.err, ko.mach, _, rfl, e, _, _, _, _, _, rfl, ⟨rfl, u1⟩, he, ko.err, ko.too, _, rfl, e, _, _, _, _, _, rfl, ⟨rfl, u1⟩, he, ko.err, ko.row, by show 4 ≤ sizeLine; decide, fun l1 h1 => ?_⟩
  have k1 := same_new h1 (.lst [.bl t, .bl m, .bl false, .bl false])
  have he1 := k1 _ _ he
  refine ⟨_, rfl, _, rfl, e, _, _, _, _, _, rfl, ⟨rfl, u1⟩, he1, ko.err, ko.name, _, rfl, e, _, _, _, _, _, rfl, ⟨rfl, u1⟩, he1, ko.err, ko.hall, _, rfl, iteT ⟨_, rfl, e, _, _, _, _, _, rfl, ⟨rfl, fun u' z => by cases z; rfl⟩, he1, ko.err, ko.val, by show 2 ≤ sizeLine; decide, fun l2 h2 => ?_⟩⟩
  have k2 := same_new h2 (.lst [.bl false, .bl true])
  refine ⟨l1, l2, _, _, rfl, rfl, SqL.of (k2 _ _ upd_same), SqL.of upd_same, by show 6 ≤ sizeLine; decide, fun l3 h3 => ?_⟩
  have k3 := (k1.trans k2).trans (same_new h3 (.lst [.bl t, .bl m, .bl false, .bl false, .bl false, .bl true]))
  have e3 : upd (upd (upd H l1 (.lst [.bl t, .bl m, .bl false, .bl false])) l2 (.lst [.bl false, .bl true])) l3 (.lst [.bl t, .bl m, .bl false, .bl false, .bl false, .bl true]) l3 = some (.lst ([t, m, false, false, false, true].map V.bl)) := upd_same
  show tSeq _ _ _ _ (upd (upd (upd H l1 (.lst [.bl t, .bl m, .bl false, .bl false])) l2 (.lst [.bl false, .bl true])) l3 (.lst [.bl t, .bl m, .bl false, .bl false, .bl false, .bl true]))
  generalize upd (upd (upd H l1 (.lst [.bl t, .bl m, .bl false, .bl false])) l2 (.lst [.bl false, .bl true])) l3 (.lst [.bl t, .bl m, .bl false, .bl false, .bl false, .bl true]) = H3 at k3 e3 ⊢
  refine ⟨_, rfl, by show 6 ≤ sizeLine; decide, fun l4 h4 => ?_⟩
  have k4 := same_new h4 (.lst ([true, false, false, false, false, true].map V.bl))
  refine ⟨l3, l4, [t, m, false, false, false, true], [true, false, false, false, false, true], rfl, rfl, SqL.of (k4 _ _ e3), SqL.of upd_same, _, rfl, ?_⟩
  rcases hd with ⟨rfl, rfl, rfl⟩ | ⟨rfl, rfl, rfl⟩
  · exact iteD rfl ⟨by show 2 ≤ sizeLine; decide, fun p np => q p _ ((k3.trans k4).trans (same_new np _)) (rep_two upd_same (.str 3 _) (.non 3))⟩
  refine iteDN (by decide) ⟨_, rfl, by show 6 ≤ sizeLine; decide, fun l5 h5 => ?_⟩
  have k5 := same_new h5 (.lst ([false, true, false, false, false, true].map V.bl))
  refine ⟨l3, l5, [false, true, false, false, false, true], [false, true, false, false, false, true], rfl, rfl, SqL.of ((k4.trans k5) _ _ e3), SqL.of upd_same, _, rfl, ?_⟩
  exact iteD rfl ⟨by show 2 ≤ sizeLine; decide, fun p np => q p _ (((k3.trans k4).trans k5).trans (same_new np _)) (rep_two upd_same (.str 3 _) (.non 3))⟩
theorem ok_asked {CH CT CM : Addr} (F : Fun K "_law_asked" "_law_asked" sLawAsked f fd) (c_read : CalleeX P w K mg base "read" 9 ["text"] (spRead K CT CM)) (ch__law_kind : CalleeH P w K mg base "_law_kind" 1 ["_law_e"] (spKind K CT CM)) (m_HallError : mg "HallError" = some (.ref CH)) (q_HallError : ErrC K CH) (eT : ErrC K CT) (sT : SubC K CT CH) (eM : ErrC K CM) (sM : SubC K CM CH) : FnOk P w K mg base CX0 11 f fd ["_law_thing"] (spAsked K) := by
  refine F.ok scLawAsked (fun vs H Q E h => ?_) (fun cdv A outer s H vs Q E hr h => ?_)
  · rcases h with ⟨x, rfl, _⟩ | ⟨v, t, rfl, _⟩ <;> rfl
  have hu := hr.units
  obtain ⟨v, rfl⟩ : ∃ v, vs = [v] := by
    rcases h with ⟨x, rfl, _⟩ | ⟨v, t, rfl, _⟩ <;> exact ⟨_, rfl⟩
  refine ⟨_, (pss_cons (ps_set (i := 1) scLawAsked.nd rfl (Or.inl rfl) pe_non) (pss_cons (ps_try (i := 2) rfl rfl rfl scLawAsked.nd rfl rfl rfl m_HallError q_HallError (psx_set (i := 1) scLawAsked.nd rfl (Or.inl rfl) (pex_tup2 pe_str (pex_callX c_read (hr.mono (by decide)) rfl (pa_cons (pv 0) pa_nil)))) (fun _ => (pss_one (ps_set (i := 1) scLawAsked.nd rfl (Or.inl rfl) (pe_callH ch__law_kind ((hr.held.mark _).mono (by decide)) rfl (pa_cons (pv 2) pa_nil)))))) (pss_one (ps_ret (pv 1))))), ?_⟩
  obtain ⟨fin, q, rd⟩ : ∃ fin : Dt → Prop, (∀ p d H', Same H H' → fin d → Rep K H' 4 d (.ref p) → Q (.ref p) H') ∧ ∀ (Q' : VK) (E' : XK), (∀ rs p H', Same H H' → ReadAt H' p rs → fin (rdD rs) → Q' (.ref p) H') → (∀ H', Same H H' → fin txtD → E' (.ref CT) none H') → (∀ H', Same H H' → fin macD → E' (.ref CM) none H') → spRead K CT CM [v] H Q' E' := by
    rcases h with ⟨x, e, ax, lx, q⟩ | ⟨v', t, e, ty, kt, q⟩
    · cases e
      exact ⟨DueOf x, q, fun Q' E' a b c => .inl ⟨x, rfl, ax, lx, fun rs p H' g R gd ra => a rs p H' g ra (.inl ⟨rs, R, gd, rfl⟩), fun H' g n => b H' g (.inr (.inl ⟨n, rfl⟩)), fun rs H' g R n => c H' g (.inr (.inr ⟨rs, R, n, rfl⟩))⟩⟩
    · cases e
      exact ⟨fun d => d = txtD, fun p d H' g e => by subst e; exact q p H' g, fun Q' E' a b c => .inr ⟨_, t, rfl, ty, kt, b H (Same.refl _) rfl⟩⟩
  refine ⟨fun v d H1 => Same H H1 ∧ ((v = .ref CT ∧ fin txtD) ∨ (v = .ref CM ∧ fin macD)), ⟨_, rfl, ?_⟩, fun C d H1 e => ?_⟩
  · dsimp only [tNil]
    refine rd _ _ (fun rs p H1 g1 ra fi => ⟨by show 2 ≤ sizeLine; decide, fun tp ntp => ?_⟩) (fun H1 g1 fi => ⟨g1, .inl ⟨rfl, fi⟩⟩) (fun H1 g1 fi => ⟨g1, .inr ⟨rfl, fi⟩⟩)
    have kt := same_new ntp (.tup [.str (Str.ofString "read"), .ref p])
    obtain ⟨a, b, bs, h1, h2, h3, h4⟩ := ra.here
    exact ⟨_, rfl, q tp _ _ (g1.trans kt) fi (rep_two upd_same (.str 3 _) (ReadAt.rep ⟨⟨a, b, bs, kt _ _ h1, kt _ _ h2, kt _ _ h3, h4.same kt⟩⟩))⟩
  obtain ⟨g1, e⟩ := e
  have eC : ErrC K C ∧ SubC K C CH := by
    rcases e with ⟨e, _⟩ | ⟨e, _⟩ <;> cases e
    · exact ⟨eT, sT⟩
    · exact ⟨eM, sM⟩
  refine ⟨eC.1, eC.2, fun ex hex => ?_⟩
  have ke := same_new hex (.ext (ExcAt ex C d))
  obtain ⟨dd, hC, fi⟩ : ∃ dd, ((C = CT ∧ dd = txtD) ∨ (C = CM ∧ dd = macD)) ∧ fin dd := by
    rcases e with ⟨e, fi⟩ | ⟨e, fi⟩ <;> cases e
    · exact ⟨_, .inl ⟨rfl, rfl⟩, fi⟩
    · exact ⟨_, .inr ⟨rfl, rfl⟩, fi⟩
  refine ⟨_, rfl, ex, C, d, dd, rfl, upd_same, hC, fun p H2 g2 rp => ?_⟩
  exact ⟨_, rfl, q p dd _ ((g1.trans ke).trans g2) fi rp⟩
end
def tot (ps : List Str) : Nat := (ps.map (·.length)).sum + ps.length
theorem tot_app (a b : List Str) : tot (a ++ b) = tot a + tot b := by
  unfold tot
  rw [List.map_append, List.sum_append, List.length_append]
  omega
theorem jl_tot {c : Nat} : ∀ (ls : List (List Nat)), ls ≠ [] → (jl [c] ls).length + 1 = (ls.map List.length).sum + ls.length
  | [], h => absurd rfl h
  | [x], _ => by simp [jl]
  | x :: y :: r, _ => by
    have z := jl_tot (c := c) (y :: r) (by simp)
    show (x ++ [c] ++ jl [c] (y :: r)).length + 1 = _
    simp only [List.length_append, List.map_cons, List.sum_cons, List.length_cons, List.length_nil] at z ⊢
    omega
theorem jl_from {c : List Nat} : ∀ {ls : List (List Nat)} {a : Nat}, a ∈ jl c ls → a ∈ c ∨ ∃ p ∈ ls, a ∈ p
  | [], a, h => by cases h
  | [x], a, h => .inr ⟨x, by simp, h⟩
  | x :: y :: r, a, h => by
    rcases List.mem_append.mp (show a ∈ x ++ c ++ jl c (y :: r) from h) with z | z
    · rcases List.mem_append.mp z with z | z
      · exact .inr ⟨x, by simp, z⟩
      · exact .inl z
    · rcases jl_from z with z | ⟨p, hp, z⟩
      · exact .inl z
      · exact .inr ⟨p, List.mem_cons_of_mem _ hp, z⟩
theorem lens_eq (ps : List Str) : (ps.map fun x => x.cps.toList).map List.length = ps.map (·.length) := by
  rw [List.map_map]
  exact List.map_congr_left fun p _ => (str_len p).symm
theorem tot_split (x : Str) : tot (Txt.split x nlS) = x.length + 1 := by
  have z := jl_tot (c := 10) ((Txt.split x nlS).map fun x => x.cps.toList) (fun z => by have := split_some x; rw [List.map_eq_nil_iff.mp z] at this; exact absurd this (by decide))
  rw [split_list, lens_eq, List.length_map] at z
  unfold tot
  rw [str_len]
  omega
theorem join_ok {ps : List Str} (h : ∀ p ∈ ps, Asc p) : Asc (Txt.join nlS ps) ∧ (Txt.join nlS ps).length ≤ tot ps := by
  have e := tjoin_list nlS ps
  rw [show nlS.cps.toList = [10] by decide +kernel] at e
  refine ⟨asc_iff.mpr fun c hc => ?_, ?_⟩
  · rw [e] at hc
    rcases jl_from hc with z | ⟨p, hp, z⟩
    · rw [List.mem_singleton.mp z]
      decide
    · obtain ⟨y, hy, rfl⟩ := List.mem_map.mp hp
      exact asc_iff.mp (h y hy) c z
  · rw [str_len, e]
    by_cases n : ps = []
    · subst n
      exact Nat.zero_le _
    · have z := jl_tot (c := 10) (ps.map fun x => x.cps.toList) (fun z => n (List.map_eq_nil_iff.mp z))
      rw [lens_eq, List.length_map] at z
      unfold tot
      omega
theorem app_ok {x y : Str} (a : Asc x) (b : Asc y) : Asc (x ++ y) ∧ (x ++ y).length = x.length + y.length := ⟨asc_iff.mpr fun c hc => by
  rw [app_list] at hc
  rcases List.mem_append.mp hc with z | z
  · exact asc_iff.mp a c z
  · exact asc_iff.mp b c z, by rw [str_len, app_list, List.length_append, ← str_len, ← str_len]⟩
theorem sum_in {qs ps : List Str} (h : qs.Sublist ps) : (qs.map (·.length)).sum ≤ (ps.map (·.length)).sum := by
  induction h with
  | slnil => exact Nat.le_refl _
  | cons a _ ih => rw [List.map_cons, List.sum_cons]; omega
  | cons_cons a _ ih => rw [List.map_cons, List.map_cons, List.sum_cons, List.sum_cons]; omega
theorem tot_in {qs ps : List Str} (h : qs.Sublist ps) : tot qs ≤ tot ps := by
  unfold tot
  have a := h.length_le
  have b := sum_in h
  omega
theorem cut_strs (ps : List Str) (lo hi : Option Int) : ∃ qs : List Str, cutV (ps.map V.str) lo hi = qs.map V.str ∧ qs.Sublist ps := by
  unfold cutV
  exact ⟨_, by rw [← List.map_drop, ← List.map_take], (List.take_sublist ..).trans (List.drop_sublist ..)⟩
theorem set_tot {ps : List Str} {k : Nat} {y z : Str} (h : ps[k]? = some y) : tot (ps.set k z) + y.length = tot ps + z.length := by
  induction ps generalizing k with
  | nil => simp at h
  | cons a ps ih =>
    cases k with
    | zero =>
      cases h
      show tot (z :: ps) + y.length = tot (y :: ps) + z.length
      unfold tot
      simp only [List.map_cons, List.sum_cons, List.length_cons]
      omega
    | succ k =>
      have := ih (k := k) h
      show tot (a :: ps.set k z) + y.length = tot (a :: ps) + z.length
      unfold tot at this ⊢
      simp only [List.map_cons, List.sum_cons, List.length_cons] at this ⊢
      omega
def signs12 : Str := Str.ofString " :ab09-Z_\n5;"
def spBent : Sp := fun vs H Q _ => ∃ (x : Str) (c : Int), vs = [.str x, .int c] ∧ Asc x ∧ x.length ≤ 270 ∧ ∀ y H', Same H H' → Asc y → y.length ≤ 3 * x.length + 30 → Q (.str y) H'
section
variable {P : Program} {w : World} {K : PySem.W.Frag} {mg : Str → Option Value} {base : Heap} {f : Addr} {fd : FuncData}
set_option maxHeartbeats 4000000 in
theorem ok_bent (F : Fun K "_law_turned_text" "_law_turned_text" sLawTurnedText f fd) (m_len : mg "len" = none) (m_str : mg "str" = none) : FnOk P w K mg base CX0 1 f fd ["_law_text", "_law_cell"] spBent := by
  refine F.ok scLawTurnedText (fun vs H Q E h => ?_) (fun cdv A outer s H vs Q E hr h => ?_)
  · obtain ⟨x, c, rfl, _⟩ := h
    rfl
  obtain ⟨x, c, rfl, ax, lx, q⟩ := h
  have hu := hr.units
  refine ⟨_, (qss_at (qss_cons (qs_of (ps_set (i := 2) scLawTurnedText.nd rfl (Or.inl rfl) (pe_op op_mod (pe_op op_mul (pv 1) pe_int) pe_int))) (qss_cons (qs_of (ps_set (i := 3) scLawTurnedText.nd rfl (Or.inl rfl) (pe_op op_mod (pe_op op_fdiv (pv 2) pe_int) (pe_op op_add (pe_callB call_len_str rfl m_len boot_len (pa_cons (pv 0) pa_nil)) pe_int)))) (qss_cons (qs_of (ps_set (i := 4) scLawTurnedText.nd rfl (Or.inl rfl) (pe_ix ix_str pe_str (pe_op op_mod (pv 2) pe_int) (fun _ _ => rfl)))) (qss_cons (qs_of (ps_set (i := 5) scLawTurnedText.nd rfl (Or.inl rfl) (pe_bm PySem.F.plainAttrs_str PySem.F.slot_str_split PySem.F.type_str_split mt_split (pv 0) (pa_cons pe_str pa_nil)))) (qss_cons (qs_of (ps_set (i := 6) scLawTurnedText.nd rfl (Or.inl rfl) (pe_op op_mod (pe_op op_fdiv (pv 2) pe_int) (pe_callB call_len_seq rfl m_len boot_len (pa_cons (pv 5) pa_nil))))) (qss_cons (qs_of (ps_if (pt_cmpR op_eq (pe_op op_mod (pv 1) pe_int) pe_int (nomark _)) (pss_one (ps_ret (pe_op op_add_str (pe_op op_add_str (pe_slice sl_str (pv 0) po_none (po_some (pv 3))) (pv 4)) (pe_slice sl_str (pv 0) (po_some (pv 3)) po_none)))) pss_nil)) (qss_cons (qs_of (ps_if (pt_cmpR op_eq (pe_op op_mod (pv 1) pe_int) pe_int (nomark _)) (pss_one (ps_ret (pe_op op_add_str (pe_op op_add_str (pe_slice sl_str (pv 0) po_none (po_some (pv 3))) (pv 4)) (pe_slice sl_str (pv 0) (po_some (pe_op op_add (pv 3) pe_int)) po_none)))) pss_nil)) (qss_cons (qs_of (ps_if (pt_cmpR op_eq (pe_op op_mod (pv 1) pe_int) pe_int (nomark _)) (pss_one (ps_ret (pe_op op_add_str (pe_slice sl_str (pv 0) po_none (po_some (pv 3))) (pe_slice sl_str (pv 0) (po_some (pe_op op_add (pv 3) pe_int)) po_none)))) pss_nil)) (qss_cons (qs_if (pt_cmpR op_eq (pe_op op_mod (pv 1) pe_int) pe_int (nomark _)) (qss_one (qs_ret (qe_bm PySem.F.plainAttrs_str PySem.F.slot_str_join PySem.F.type_str_join mt_join (qe_of pe_str) (ql_cons (qe_of (pe_op op_catS (pv 5) (pe_lst (pa_cons (pe_ix ix_list (pv 5) (pv 6) (fun _ _ => rfl)) pa_nil)))) pl_nil rfl)))) qss_nil) (qss_cons (qs_if (pt_cmpR op_eq (pe_op op_mod (pv 1) pe_int) pe_int (nomark _)) (qss_one (qs_ret (qe_bm PySem.F.plainAttrs_str PySem.F.slot_str_join PySem.F.type_str_join mt_join (qe_of pe_str) (ql_cons (qe_op op_catS (qe_op op_catS (qe_of (pe_slice sl_list (pv 5) po_none (po_some (pv 6)))) (qe_of (pe_slice sl_list (pe_slice sl_list (pe_lst (pl_at (pl_cons pe_str (pl_cons pe_str (pl_cons pe_str (pl_cons pe_str (pl_cons pe_str pl_nil rfl) rfl) rfl) rfl) rfl))) (po_some (pe_op op_mod (pv 2) pe_int)) po_none) po_none (po_some pe_int)))) (qe_of (pe_slice sl_list (pv 5) (po_some (pv 6)) po_none))) pl_nil rfl)))) qss_nil) (qss_cons (qs_of (ps_cut (ps_if (pt_cmpR op_eq (pe_op op_mod (pv 1) pe_int) pe_int (nomark _)) (pss_one (ps_asg (pe_op op_add_str (pe_op op_add_str (pe_ix ix_list (pv 5) (pv 6) (fun _ _ => rfl)) pe_str) (pe_callTy call_str_int rfl m_str boot_str (pa_cons (pe_op op_mod (pv 2) pe_int) pa_nil))) (pg_sub (pv 5) (pv 6) set_list))) (pss_one (ps_if (pt_cmpR op_eq (pe_op op_mod (pv 1) pe_int) pe_int (nomark _)) (pss_one (ps_asg (pe_slice sl_str (pe_ix ix_list (pv 5) (pv 6) (fun _ _ => rfl)) po_none (po_some (pe_un un_neg pe_int))) (pg_sub (pv 5) (pv 6) set_list))) (pss_one (ps_asg (pe_op op_add_str (pe_op op_add_str (pe_ix ix_tup (pe_bm PySem.F.plainAttrs_str PySem.F.slot_str_partition PySem.F.type_str_partition mt_part (pe_ix ix_list (pv 5) pe_int (fun _ _ => rfl)) (pa_cons pe_str pa_nil)) pe_int (fun _ _ => rfl)) pe_str) (pe_ix ix_tup (pe_bm PySem.F.plainAttrs_str PySem.F.slot_str_partition PySem.F.type_str_partition mt_part (pe_ix ix_list (pv 5) (pv 6) (fun _ _ => rfl)) (pa_cons pe_str pa_nil)) pe_int (fun _ _ => rfl))) (pg_sub (pv 5) (pv 6) set_list)))))))) (qss_one (qs_ret (qe_bm PySem.F.plainAttrs_str PySem.F.slot_str_join PySem.F.type_str_join mt_join (qe_of pe_str) (ql_cons (qe_of (pv 5)) pl_nil rfl)))))))))))))))), ?_⟩
  have hz : x.length ≤ sizeLine := small (by omega)
  refine ⟨_, rfl, _, _, rfl, rfl, .inr ⟨by decide, by decide⟩, _, _, rfl, rfl, (by decide : (0 : Int) < 2147483647), ?_⟩
  dsimp only
  generalize hN : (c * 48271 % 2147483647 : Int) = N
  refine ⟨_, rfl, _, _, rfl, rfl, ⟨by decide, by decide⟩, _, rfl, x, rfl, hz, _, _, rfl, rfl, _, _, rfl, rfl, (by show (0 : Int) < (x.length : Int) + 1; omega), ?_⟩
  dsimp only
  generalize hat : (N / 64 % ((x.length : Int) + 1)) = at'
  obtain ⟨j, hj, j12⟩ : ∃ j : Nat, N % 12 = (j : Int) ∧ j < 12 := ⟨(N % 12).toNat, by omega, by omega⟩
  obtain ⟨cs, ecs, asc1⟩ : ∃ cs, signs12.cps.toList[j]? = some cs ∧ cs < 128 := by
    have e : signs12.cps.toList = [32, 58, 97, 98, 48, 57, 45, 90, 95, 10, 53, 59] := by decide +kernel
    rw [e]
    have z : ∀ c ∈ [32, 58, 97, 98, 48, 57, 45, 90, 95, 10, 53, 59], c < 128 := by decide
    exact ⟨_, List.getElem?_eq_getElem j12, z _ (List.getElem_mem _)⟩
  refine ⟨_, rfl, _, _, rfl, rfl, (by decide : (0 : Int) < 12), ?_⟩
  dsimp only
  rw [hj]
  refine ⟨signs12, _, cs, rfl, rfl, small (by show signs12.length ≤ 1000; decide +kernel), atI_nat ecs, ?_⟩
  have as : Asc (⟨#[cs]⟩ : Str) := asc_iff.mpr fun c hc => by
    have : c ∈ [cs] := hc
    rw [List.mem_singleton.mp this]
    exact asc1
  have w1 := slice_in x
  have s1 : (⟨#[cs]⟩ : Str).length = 1 := rfl
  refine ⟨_, rfl, rfl, x, _, rfl, rfl, by decide +kernel, small (by omega), fun sl nsl => ?_⟩
  rw [show Str.ofString "\n" = nlS from rfl]
  obtain ⟨ps, eps⟩ : ∃ ps, Txt.split x nlS = ps := ⟨_, rfl⟩
  have pasc : ∀ p ∈ ps, Asc p := fun p hp => (split_in (eps ▸ hp)).asc ax
  have pl : ∀ p ∈ ps, p.length ≤ x.length := fun p hp => (split_in (eps ▸ hp)).2
  have some1 : 1 ≤ ps.length := eps ▸ split_some x
  have tp : tot ps = x.length + 1 := eps ▸ tot_split x
  rw [eps]
  have ks := same_new nsl (.lst (ps.map V.str))
  have es : upd H sl (.lst (ps.map V.str)) sl = some (.lst (ps.map V.str)) := upd_same
  generalize upd H sl (.lst (ps.map V.str)) = H1 at ks es ⊢
  refine ⟨_, rfl, _, _, rfl, rfl, ⟨by decide, by decide⟩, _, rfl, sl, _, rfl, .inl (SqL.of es), _, _, rfl, rfl, (by rw [List.length_map]; show (0 : Int) < (ps.length : Int); omega), ?_⟩
  dsimp only
  rw [List.length_map]
  obtain ⟨k, hk, kl⟩ : ∃ k : Nat, N / 16 % (ps.length : Int) = (k : Int) ∧ k < ps.length := by
    have h1 := Int.emod_nonneg (N / 16) (b := (ps.length : Int)) (by omega)
    have h2 := Int.emod_lt_of_pos (N / 16) (b := (ps.length : Int)) (by omega)
    exact ⟨(N / 16 % (ps.length : Int)).toNat, by omega, by omega⟩
  rw [hk]
  refine ⟨_, rfl, _, _, rfl, rfl, (by decide : (0 : Int) < 8), rfl, _, rfl, ite2 (fun _ => ?_) (fun _ => ?_)⟩
  · obtain ⟨a1, l1⟩ := app_ok ((w1 none (some at')).asc ax) as
    obtain ⟨a2, l2⟩ := app_ok a1 ((w1 (some at') none).asc ax)
    have b1 := (w1 none (some at')).2
    have b2 := (w1 (some at') none).2
    exact ⟨_, rfl, _, rfl, _, rfl, x, rfl, hz, _, rfl, _, _, rfl, rfl, small (by rw [s1]; omega), _, rfl, _, rfl, _, rfl, x, rfl, hz, _, _, rfl, rfl, small (by omega), q _ _ ks a2 (by omega)⟩
  refine ⟨_, rfl, _, _, rfl, rfl, (by decide : (0 : Int) < 8), rfl, _, rfl, ite2 (fun _ => ?_) (fun _ => ?_)⟩
  · obtain ⟨a1, l1⟩ := app_ok ((w1 none (some at')).asc ax) as
    obtain ⟨a2, l2⟩ := app_ok a1 ((w1 (some (at' + 1)) none).asc ax)
    have b1 := (w1 none (some at')).2
    have b2 := (w1 (some (at' + 1)) none).2
    exact ⟨_, rfl, _, rfl, _, rfl, x, rfl, hz, _, rfl, _, _, rfl, rfl, small (by rw [s1]; omega), _, rfl, _, rfl, _, _, rfl, rfl, _, rfl, x, rfl, hz, _, _, rfl, rfl, small (by omega), q _ _ ks a2 (by omega)⟩
  refine ⟨_, rfl, _, _, rfl, rfl, (by decide : (0 : Int) < 8), rfl, _, rfl, ite2 (fun _ => ?_) (fun _ => ?_)⟩
  · obtain ⟨a2, l2⟩ := app_ok ((w1 none (some at')).asc ax) ((w1 (some (at' + 1)) none).asc ax)
    have b1 := (w1 none (some at')).2
    have b2 := (w1 (some (at' + 1)) none).2
    exact ⟨_, rfl, _, rfl, _, rfl, x, rfl, hz, _, rfl, _, rfl, _, _, rfl, rfl, _, rfl, x, rfl, hz, _, _, rfl, rfl, small (by omega), q _ _ ks a2 (by omega)⟩
  obtain ⟨y, ey⟩ : ∃ y, ps[k]? = some y := ⟨_, List.getElem?_eq_getElem kl⟩
  have my := List.mem_of_getElem? ey
  have ly := pl y my
  have aty : atI (ps.map V.str) (k : Int) = some (.str y) := atI_nat (by rw [List.getElem?_map, ey]; rfl)
  refine ⟨_, rfl, _, _, rfl, rfl, (by decide : (0 : Int) < 8), rfl, _, rfl, ite2 (fun _ => ?_) (fun _ => ?_)⟩
  · refine ⟨rfl, _, rfl, _, rfl, _, rfl, sl, _, _, _, rfl, rfl, SqL.of es, aty, by show 1 ≤ sizeLine; decide, fun l1 h1 => ?_⟩
    have k1 := same_new h1 (.lst [.str y])
    refine ⟨sl, l1, _, _, rfl, rfl, SqL.of (k1 _ _ es), SqL.of upd_same, by rw [List.length_map, sizeLine_eq]; have := tp; unfold tot at this; show ps.length + 1 ≤ _; omega, fun l2 h2 => ?_⟩
    have k2 := same_new h2 (.lst (ps.map V.str ++ [.str y]))
    have t2 : tot (ps ++ [y]) ≤ 2 * x.length + 2 := by
      rw [tot_app, tp]
      show _ + (y.length + 0 + 1) ≤ _
      omega
    obtain ⟨a1, b1⟩ := join_ok (ps := ps ++ [y]) fun p hp => by
      rcases List.mem_append.mp hp with z | z
      · exact pasc p z
      · rw [List.mem_singleton.mp z]
        exact pasc y my
    refine ⟨nlS, l2, ps ++ [y], rfl, rfl, SqL.of (by rw [upd_same, List.map_append]; rfl), by decide +kernel, ?_, q _ _ ((ks.trans k1).trans k2) a1 (by omega)⟩
    unfold tot at t2
    omega
  refine ⟨_, rfl, _, _, rfl, rfl, (by decide : (0 : Int) < 8), rfl, _, rfl, ite2 (fun _ => ?_) (fun _ => ?_)⟩
  · have lp : ps.length ≤ x.length + 1 := by unfold tot at tp; omega
    obtain ⟨q1, e1, u1⟩ := cut_strs ps none (some (k : Int))
    obtain ⟨q2, e2, u2⟩ := cut_strs [Str.ofString "", Str.ofString "zz: 0", Str.ofString "zzz : 0", Str.ofString "zz:  0", Str.ofString "zz"] (some (N % 5)) none
    obtain ⟨q3, e3, u3⟩ := cut_strs q2 none (some 1)
    obtain ⟨q4, e4, u4⟩ := cut_strs ps (some (k : Int)) none
    have al : ∀ p ∈ q3, Asc p := fun p hp => by
      have z : ∀ p ∈ [Str.ofString "", Str.ofString "zz: 0", Str.ofString "zzz : 0", Str.ofString "zz:  0", Str.ofString "zz"], Asc p := by
        intro p hp
        have y : ([Str.ofString "", Str.ofString "zz: 0", Str.ofString "zzz : 0", Str.ofString "zz:  0", Str.ofString "zz"].all fun p => p.cps.all (· < 128)) = true := by decide +kernel
        exact List.all_eq_true.mp y p hp
      exact z p (u2.subset (u3.subset hp))
    have t2 : tot [Str.ofString "", Str.ofString "zz: 0", Str.ofString "zzz : 0", Str.ofString "zz:  0", Str.ofString "zz"] = 25 := by decide +kernel
    have t3 := tot_in (u3.trans u2)
    have t1 := tot_in u1
    have t4 := tot_in u4
    rw [t2] at t3
    have e2' : cutV [V.str (Str.ofString ""), .str (Str.ofString "zz: 0"), .str (Str.ofString "zzz : 0"), .str (Str.ofString "zz:  0"), .str (Str.ofString "zz")] (some (N % 5)) none = q2.map V.str := e2
    refine ⟨rfl, _, rfl, _, rfl, _, rfl, sl, _, rfl, SqL.of es, fun p1 h1 => ?_⟩
    rw [e1]
    have k1 := same_new h1 (.lst (q1.map V.str))
    have f1 : upd H1 p1 (.lst (q1.map V.str)) p1 = some (.lst (q1.map V.str)) := upd_same
    generalize upd H1 p1 (.lst (q1.map V.str)) = H2 at k1 f1 ⊢
    refine ⟨by show 5 ≤ sizeLine; decide, fun p2 h2 => ⟨_, rfl, _, _, rfl, rfl, (by decide : (0 : Int) < 5), _, rfl, p2, _, rfl, SqL.of upd_same, fun p3 h3 => ?_⟩⟩
    have k2 := same_new h2 (.lst [V.str (Str.ofString ""), .str (Str.ofString "zz: 0"), .str (Str.ofString "zzz : 0"), .str (Str.ofString "zz:  0"), .str (Str.ofString "zz")])
    generalize upd H2 p2 (.lst [V.str (Str.ofString ""), .str (Str.ofString "zz: 0"), .str (Str.ofString "zzz : 0"), .str (Str.ofString "zz:  0"), .str (Str.ofString "zz")]) = H3 at k2 h3 ⊢
    rw [e2']
    have k3 := same_new h3 (.lst (q2.map V.str))
    refine ⟨_, rfl, p3, _, rfl, SqL.of upd_same, fun p4 h4 => ?_⟩
    rw [e3]
    have k4 := same_new h4 (.lst (q3.map V.str))
    have f4 : upd (upd H3 p3 (.lst (q2.map V.str))) p4 (.lst (q3.map V.str)) p4 = some (.lst (q3.map V.str)) := upd_same
    generalize upd (upd H3 p3 (.lst (q2.map V.str))) p4 (.lst (q3.map V.str)) = H4 at k4 f4 ⊢
    have g4 := (k2.trans k3).trans k4
    have n1 := u1.length_le
    have n3 := (u3.trans u2).length_le
    have n3 : q3.length ≤ 5 := n3
    have n4 := u4.length_le
    refine ⟨p1, p4, _, _, rfl, rfl, SqL.of (g4 _ _ f1), SqL.of f4, by rw [List.length_map, List.length_map, sizeLine_eq]; omega, fun p5 h5 => ?_⟩
    have k5 := same_new h5 (.lst (q1.map V.str ++ q3.map V.str))
    have f5 : upd H4 p5 (.lst (q1.map V.str ++ q3.map V.str)) p5 = some (.lst (q1.map V.str ++ q3.map V.str)) := upd_same
    generalize upd H4 p5 (.lst (q1.map V.str ++ q3.map V.str)) = H5 at k5 f5 ⊢
    refine ⟨_, rfl, _, rfl, _, rfl, sl, _, rfl, SqL.of (((k1.trans g4).trans k5) _ _ es), fun p6 h6 => ?_⟩
    rw [e4]
    have k6 := same_new h6 (.lst (q4.map V.str))
    refine ⟨p5, p6, _, _, rfl, rfl, SqL.of (k6 _ _ f5), SqL.of upd_same, by rw [List.length_append, List.length_map, List.length_map, List.length_map, sizeLine_eq]; omega, fun p7 h7 => ?_⟩
    have k7 := same_new h7 (.lst (q1.map V.str ++ q3.map V.str ++ q4.map V.str))
    have tt : tot (q1 ++ q3 ++ q4) = tot q1 + tot q3 + tot q4 := by rw [tot_app, tot_app]
    obtain ⟨a1, b1⟩ := join_ok (ps := q1 ++ q3 ++ q4) fun p hp => by
      rcases List.mem_append.mp hp with z | z
      · rcases List.mem_append.mp z with z | z
        · exact pasc p (u1.subset z)
        · exact al p z
      · exact pasc p (u4.subset z)
    refine ⟨nlS, p7, q1 ++ q3 ++ q4, rfl, rfl, SqL.of (by rw [upd_same, List.map_append, List.map_append]), by decide +kernel, ?_, q _ _ (((((ks.trans k1).trans g4).trans k5).trans k6).trans k7) a1 (by omega)⟩
    show tot (q1 ++ q3 ++ q4) ≤ 1048576
    omega
  have set_ok : ∀ z : Str, Asc z → z.length ≤ 2 * x.length + 20 → (∀ p ∈ ps.set k z, Asc p) ∧ tot (ps.set k z) ≤ 3 * x.length + 30 := fun z az lz => by
    refine ⟨fun p hp => ?_, ?_⟩
    · rcases List.mem_or_eq_of_mem_set hp with h | h
      · exact pasc p h
      · rw [h]
        exact az
    · have := set_tot (z := z) ey
      omega
  have put : ∀ (z : Str) (H2 : Hp), Same H1 H2 → Asc z → z.length ≤ 2 * x.length + 20 → Same H (upd H2 sl (.lst ((ps.map V.str).set k (.str z)))) ∧ ∃ qs, upd H2 sl (.lst ((ps.map V.str).set k (.str z))) sl = some (.lst (qs.map V.str)) ∧ (∀ p ∈ qs, Asc p) ∧ tot qs ≤ 3 * x.length + 30 := fun z H2 g2 az lz => ⟨same_upd (ks.trans g2) nsl, ps.set k z, by rw [upd_same, List.map_set], (set_ok z az lz).1, (set_ok z az lz).2⟩
  have ixk : ixN (ps.map V.str).length (k : Int) = some k := by
    rw [List.length_map]
    unfold ixN
    simp [kl]
  refine ⟨fun σ' H' => Same H H' ∧ (∃ qs, H' sl = some (.lst (qs.map V.str)) ∧ (∀ p ∈ qs, Asc p) ∧ tot qs ≤ 3 * x.length + 30) ∧ σ' = [some (.str x), some (.int c), some (.int N), some (.int at'), some (.str ⟨#[cs]⟩), some (.ref sl), some (.int (k : Int))], ?_, fun σ' H2 z => ?_⟩
  · have l32 : (Str.ofString " ").length = 1 := by decide +kernel
    have a32 : Asc (Str.ofString " ") := by show (Str.ofString " ").cps.all (· < 128) = true; decide +kernel
    have ay := pasc y my
    refine ⟨_, rfl, _, _, rfl, rfl, (by decide : (0 : Int) < 8), rfl, _, rfl, ite2 (fun _ => ?_) (fun _ => ?_)⟩
    · obtain ⟨d, hd, d10⟩ : ∃ d : Nat, N % 10 = (d : Int) ∧ d < 10 := ⟨(N % 10).toNat, by omega, by omega⟩
      have lg : ∀ d : Fin 10, ((d.1 : Nat) : Int).natAbs.log2 < 1920 := by decide +kernel
      have ad : Asc (⟨#[48 + d]⟩ : Str) := asc_iff.mpr fun c hc => by
        have : c ∈ [48 + d] := hc
        rw [List.mem_singleton.mp this]
        omega
      obtain ⟨a1, l1⟩ := app_ok ay a32
      obtain ⟨a2, l2⟩ := app_ok a1 ad
      have ld : (⟨#[48 + d]⟩ : Str).length = 1 := rfl
      refine ⟨_, rfl, _, rfl, sl, _, _, _, rfl, rfl, SqL.of es, aty, _, _, rfl, rfl, small (by omega), _, rfl, _, _, rfl, rfl, (by decide : (0 : Int) < 10), ?_⟩
      dsimp only
      rw [hd]
      refine ⟨_, rfl, lg ⟨d, d10⟩, ?_⟩
      rw [dig_is d10]
      obtain ⟨z1, z2⟩ := put _ H1 (Same.refl _) a2 (by omega)
      exact ⟨_, _, rfl, rfl, small (by omega), _, rfl, _, rfl, sl, _, _, k, rfl, rfl, es, ixk, z1, z2, rfl⟩
    refine ⟨_, rfl, _, _, rfl, rfl, (by decide : (0 : Int) < 8), rfl, _, rfl, ite2 (fun _ => ?_) (fun _ => ?_)⟩
    · have wy := slice_in y none (some (-2))
      have := wy.2
      obtain ⟨z1, z2⟩ := put _ H1 (Same.refl _) (wy.asc ay) (by omega)
      exact ⟨_, rfl, _, rfl, sl, _, _, _, rfl, rfl, SqL.of es, aty, _, rfl, _, rfl, y, rfl, small (by omega), _, rfl, _, rfl, sl, _, _, k, rfl, rfl, es, ixk, z1, z2, rfl⟩
    obtain ⟨y0, ey0⟩ : ∃ y, ps[0]? = some y := ⟨_, List.getElem?_eq_getElem some1⟩
    have my0 := List.mem_of_getElem? ey0
    have ly0 := pl y0 my0
    have aty0 : atI (ps.map V.str) (0 : Int) = some (.str y0) := atI_nat (j := 0) (by rw [List.getElem?_map, ey0]; rfl)
    have w0 := (part_in y0 (Str.ofString ":")).1
    have wy := (part_in y (Str.ofString ":")).2
    have l0 := w0.2
    have l2 := wy.2
    have lc : (Str.ofString ":").length = 1 := by decide +kernel
    have ac : Asc (Str.ofString ":") := by show (Str.ofString ":").cps.all (· < 128) = true; decide +kernel
    obtain ⟨a1, l3⟩ := app_ok (w0.asc (pasc y0 my0)) ac
    obtain ⟨a2, l4⟩ := app_ok a1 (wy.asc ay)
    refine ⟨_, rfl, sl, _, _, _, rfl, rfl, SqL.of es, aty0, rfl, y0, _, rfl, rfl, by decide +kernel, small (by omega), fun p1 h1 => ⟨p1, _, _, _, rfl, rfl, SqT.of upd_same, rfl, _, _, rfl, rfl, small (by omega), ?_⟩⟩
    have k1 := same_new h1 (.tup [.str (Txt.partition y0 (Str.ofString ":")).1, .str (Txt.partition y0 (Str.ofString ":")).2.1, .str (Txt.partition y0 (Str.ofString ":")).2.2])
    refine ⟨_, rfl, _, rfl, sl, _, _, _, rfl, rfl, SqL.of (k1 _ _ es), aty, rfl, y, _, rfl, rfl, by decide +kernel, small (by omega), fun p2 h2 => ⟨p2, _, _, _, rfl, rfl, SqT.of upd_same, rfl, _, _, rfl, rfl, small (by omega), ?_⟩⟩
    have k2 := k1.trans (same_new h2 (.tup [.str (Txt.partition y (Str.ofString ":")).1, .str (Txt.partition y (Str.ofString ":")).2.1, .str (Txt.partition y (Str.ofString ":")).2.2]))
    obtain ⟨z1, z2⟩ := put _ _ k2 a2 (by omega)
    exact ⟨_, rfl, _, rfl, sl, _, _, k, rfl, rfl, k2 _ _ es, ixk, z1, z2, rfl⟩
  obtain ⟨g2, ⟨qs, eq, aq, tq⟩, rfl⟩ := z
  obtain ⟨a1, b1⟩ := join_ok aq
  refine ⟨rfl, _, rfl, _, sl, qs, rfl, rfl, SqL.of eq, by decide +kernel, ?_, q _ _ g2 a1 (by omega)⟩
  unfold tot at tq
  omega
end
theorem rows_at {xs : List Str} {ts : List (List Nat)} {i : Nat} {x : Str} {t : List Nat} (hx : xs[i]? = some x) (ht : ts[i]? = some t) : (rowsS xs ts)[i]? = some (rowS x t) := by
  unfold rowsS
  rw [List.getElem?_zipWith, hx, ht]
theorem rows_len {xs : List Str} {ts : List (List Nat)} (el : xs.length = ts.length) : (rowsS xs ts).length = ts.length := by
  unfold rowsS
  rw [List.length_zipWith, el, Nat.min_self]
theorem rows_weight : ∀ {l : List Str} {k : Nat}, (∀ y ∈ l, y.length ≤ k) → (l.map (·.length)).sum ≤ l.length * k
  | [], _, _ => Nat.zero_le _
  | y :: l, k, h => by
    rw [List.map_cons, List.sum_cons, List.length_cons, Nat.succ_mul]
    have := h y (List.mem_cons_self ..)
    have := rows_weight (l := l) (k := k) fun y hy => h y (List.mem_cons_of_mem _ hy)
    omega
theorem rows_short {xs : List Str} {ts : List (List Nat)} (h : ∀ x ∈ xs, NameOk x) (ht : ∀ t ∈ ts, t.length ≤ 5) : ∀ y ∈ rowsS xs ts, y.length ≤ 19 := fun y hy => by
  unfold rowsS at hy
  obtain ⟨i, hi, e⟩ := List.getElem_of_mem hy
  rw [List.getElem_zipWith] at e
  rw [← e]
  exact row_len (h _ (List.getElem_mem _)) (ht _ (List.getElem_mem _))
theorem take_rows {xs : List Str} {ts : List (List Nat)} {i : Nat} {x : Str} {t : List Nat} (hx : xs[i]? = some x) (ht : ts[i]? = some t) : (rowsS xs ts).take (i + 1) = (rowsS xs ts).take i ++ [rowS x t] := by
  rw [List.take_add_one, rows_at hx ht]
  rfl
def cellV : V → V
  | .int i => .str ⟨#[32, 48 + i.toNat]⟩
  | v => v
def spWritten : Sp := fun vs H Q _ => ∃ (na m : Addr) (xs zs : List Str) (ts : List (List Nat)) (n : Nat), vs = [.ref na, .ref m] ∧ H na = some (.lst ((xs ++ zs).map V.str)) ∧ Mach H m ts n ∧ xs.length = ts.length ∧ (∀ x ∈ xs, NameOk x) ∧ ∀ H', Same H H' → Q (.str (textS xs ts)) H'
section
variable {P : Program} {w : World} {K : PySem.W.Frag} {mg : Str → Option Value} {base : Heap} {f : Addr} {fd : FuncData}
theorem ok_written82 (F : Fun K "_law_written" "_law_written" sLawWritten f fd) (m_range : mg "range" = none) (m_len : mg "len" = none) (m_str : mg "str" = none) : FnOk P w K mg base CX0 1 f fd ["_law_names_here", "_law_machine_here"] spWritten := by
  refine F.ok scLawWritten (fun vs H Q E h => ?_) (fun cdv A outer s H vs Q E hr h => ?_)
  · obtain ⟨na, m, xs, zs, ts, n, rfl, _⟩ := h
    rfl
  obtain ⟨na, m, xs, zs, ts, n, rfl, en, M, el, ok, q⟩ := h
  refine ⟨_, (qss_at (qss_cons (qs_of (ps_set (i := 2) scLawWritten.nd rfl (Or.inl rfl) (pe_lst pa_nil))) (qss_cons (qs_of (ps_for PassesOwn.never rfl (pi_range1 rfl m_range (pa_cons (pe_callB call_len_seq rfl m_len boot_len (pa_cons (pv 1) pa_nil)) pa_nil)) (pg_name (i := 3) scLawWritten.nd rfl (Or.inl rfl)) (pss_one (ps_expr (pe_bm PySem.F.plainAttrs_list PySem.F.slot_list_append PySem.F.type_list_append mt_append (pv 2) (pa_cons (qe_at (qe_op op_add_str (qe_of (pe_op op_add_str (pe_ix ix_list (pv 0) (pv 3) (fun _ _ => rfl)) pe_str)) (qe_bm PySem.F.plainAttrs_str PySem.F.slot_str_join PySem.F.type_str_join mt_join (qe_of pe_str) (ql_cons (qe_of (pe_comp1 (CompSc.to (N := ["_law_names_here", "_law_machine_here", "_law_lines", "_law_k"]) (osc := defScope sLawWritten) (vs := ["_law_room"]) ⟨rfl, by decide +kernel, by decide +kernel, by decide +kernel, by decide +kernel, by decide +kernel, by decide +kernel⟩) rfl rfl (pi_tup (pe_ix ix_tup (pv 1) (pv 3) (fun _ _ => rfl))) (fun _ _ _ _ => pts_nil) (fun _ _ _ _ => (pe_op op_add_str pe_str (pe_callTy call_str_int rfl m_str boot_str (pa_cons (pv 0) pa_nil)))))) pl_nil rfl)))) pa_nil)))))) (qss_one (qs_ret (qe_bm PySem.F.plainAttrs_str PySem.F.slot_str_join PySem.F.type_str_join mt_join (qe_of pe_str) (ql_cons (qe_of (pv 2)) pl_nil rfl))))))), ?_⟩
  have nlw : Str.ofString "\n" = (⟨#[10]⟩ : Str) := by decide +kernel
  have sp : Str.ofString " " = (⟨#[32]⟩ : Str) := by decide +kernel
  have co : Str.ofString ":" = (⟨#[58]⟩ : Str) := by decide +kernel
  have lg : ∀ d : Fin 10, ((d.1 : Nat) : Int).natAbs.log2 < 1920 := by decide +kernel
  obtain ⟨rs, h1, h2, h3⟩ := M.refs
  have few := M.few
  have n5 := M.n5
  have t5 : ∀ t ∈ ts, t.length ≤ 5 := fun t ht => by rw [(M.each t ht).1]; exact n5
  refine ⟨by show 0 ≤ sizeLine; decide, fun ll nll => ?_⟩
  have kl := same_new nll (.lst [])
  have ell : upd H ll (.lst []) ll = some (.lst []) := upd_same
  generalize upd H ll (.lst []) = H1 at kl ell ⊢
  let Pv : Nat → L2.St → Hp → Prop := fun i σ H' => Same H H' ∧ H' ll = some (.lst (((rowsS xs ts).take i).map V.str)) ∧ ∃ o, σ = [some (.ref na), some (.ref m), some (.ref ll), o]
  refine ⟨_, rfl, m, _, rfl, .inr (SqT.of (kl _ _ h1)), ((ts.length : Nat) : Int), (by rw [List.length_map, h2]), by omega, by omega, for_range Pv ⟨kl, ell, none, rfl⟩ (fun i σ H2 hi p => ?_) (fun σ H2 p => ?_)⟩
  · obtain ⟨g, el2, o, rfl⟩ := p
    have il : i < ts.length := by simpa using hi
    have ix : i < xs.length := by omega
    have ir : i < rs.length := by omega
    have z := h3 i rs[i] ts[i] (List.getElem?_eq_getElem ir) (List.getElem?_eq_getElem il)
    obtain ⟨e1, e2⟩ := M.each ts[i] (List.getElem_mem il)
    have d10 : ∀ d ∈ ts[i], d < 10 := fun d hd => by have := e2 d hd; omega
    have e0 : (0 + (i : Int)) = ((i : Nat) : Int) := by omega
    have okx := ok xs[i] (List.getElem_mem ix)
    have lx : (xs[i]).length ≤ 8 := by rw [str_len]; exact okx.few
    have lf : (figS ts[i]).length = 2 * (ts[i]).length := by rw [str_len, figS_list, figL_len]
    have atx : atI ((xs ++ zs).map V.str) (0 + (i : Int)) = some (.str xs[i]) := by rw [e0]; exact atI_nat (by rw [List.getElem?_map, List.getElem?_append_left ix, List.getElem?_eq_getElem ix]; rfl)
    have atr : atI (rs.map V.ref) (0 + (i : Int)) = some (.ref rs[i]) := by rw [e0]; exact atI_nat (by rw [List.getElem?_map, List.getElem?_eq_getElem ir]; rfl)
    have l58 : (Str.ofString ":").length = 1 := by decide +kernel
    refine ⟨_, rfl, .inl ⟨rfl, _, SqL.of el2⟩, _, rfl, _, rfl, na, _, _, _, rfl, rfl, SqL.of (g _ _ en), atx, _, _, rfl, rfl, small (by rw [l58]; omega), rfl, _, rfl, _, rfl, m, _, _, _, rfl, rfl, SqT.of (g _ _ h1), atr, rs[i], rfl, ⟨_, SqT.of (g _ _ z)⟩, map_tup (f := cellV) (small (by rw [List.length_map]; omega)) (SqT.of (g _ _ z)) (fun v Q hv q => ?_) (fun p hp => ?_)⟩
    · obtain ⟨d, hd, rfl⟩ := List.mem_map.mp hv
      have ed : Str.ofString " " ++ Str.ofString (toString (d : Int)) = (⟨#[32, 48 + d]⟩ : Str) := by rw [dig_is (d10 d hd), sp]; rfl
      refine ⟨_, rfl, (d : Int), rfl, lg ⟨d, d10 d hd⟩, _, _, rfl, rfl, ?_, ?_⟩
      · rw [show ((toString (d : Int) : String) : Str) = Str.ofString (toString (d : Int)) from rfl, dig_is (d10 d hd)]
        exact small (by show (Str.ofString " ").length + 1 ≤ 1000; decide +kernel)
      · rw [show ((toString (d : Int) : String) : Str) = Str.ofString (toString (d : Int)) from rfl, ed]
        exact q
    · have em : ((ts[i]).map nv).map cellV = ((ts[i]).map fun d => (⟨#[32, 48 + d]⟩ : Str)).map V.str := by
        rw [List.map_map, List.map_map]
        refine List.map_congr_left fun d _ => ?_
        show V.str ⟨#[32, 48 + (d : Int).toNat]⟩ = _
        rw [Int.toNat_natCast]
        rfl
      rw [em]
      have kp := same_new hp (.lst (((ts[i]).map fun d => (⟨#[32, 48 + d]⟩ : Str)).map V.str))
      refine ⟨_, p, _, rfl, rfl, SqL.of upd_same, by decide +kernel, ?_, ?_⟩
      · have := rows_weight (l := (ts[i]).map fun d => (⟨#[32, 48 + d]⟩ : Str)) (k := 2) fun y hy => by
          obtain ⟨d, _, rfl⟩ := List.mem_map.mp hy
          exact Nat.le_refl 2
        rw [List.length_map] at this ⊢
        omega
      rw [figs_join, co]
      have l1 : (xs[i] ++ (⟨#[58]⟩ : Str)).length ≤ 9 := by rw [str_len, app_list, List.length_append, ← str_len]; show _ + 1 ≤ 9; omega
      refine ⟨_, _, rfl, rfl, small (by omega), ll, _, _, rfl, rfl, kp _ _ el2, ?_, same_upd (g.trans kp) nll, ?_, _, rfl⟩
      · rw [List.length_map, List.length_take, sizeLine_eq]
        omega
      · rw [upd_same, take_rows (List.getElem?_eq_getElem ix) (List.getElem?_eq_getElem il), List.map_append]
        rfl
  · obtain ⟨g, el2, o, rfl⟩ := p
    have e1 : ((ts.length : Nat) : Int).toNat = ts.length := Int.toNat_natCast _
    rw [e1, ← rows_len el, List.take_length] at el2
    refine ⟨rfl, _, rfl, _, ll, _, rfl, rfl, SqL.of el2, by decide +kernel, ?_, ?_⟩
    · have := rows_weight (rows_short ok t5)
      have := rows_len el
      omega
    rw [nlw]
    exact q _ g
end
theorem cut_hi {l : List V} {k : Nat} : cutV l none (some (k : Int)) = l.take k := by
  unfold cutV
  rw [HT.sIx_nat, HT.sIx_none, List.drop_zero, Nat.sub_zero]
  rcases Nat.le_total k l.length with h | h
  · rw [Nat.min_eq_left h]
  · rw [Nat.min_eq_right h, List.take_of_length_le (Nat.le_refl _), List.take_of_length_le h]
theorem colon_is : colon = (⟨#[58]⟩ : Str) := by decide +kernel
theorem row_read {x : Str} {t : List Nat} (h : NameOk x) (t1 : 1 ≤ t.length) (ht : ∀ d ∈ t, d < 10) : rowR (rowS x t) = some (x, t) := by
  have e : Txt.partition (rowS x t) colon = (x, ⟨#[58]⟩, figS t) := by rw [colon_is]; exact row_part h
  have lf : (figS t).length = 2 * t.length := by rw [str_len, figS_list, figL_len]
  have v1 : (ev 1 (figS t)).cps.toList = t.map fun d => 48 + d := by rw [ev_list, figS_list, evs1]
  have c1 : isNm x = true := by
    unfold isNm only
    rw [decide_eq_true (by rw [str_len]; exact h.some1 : 1 ≤ x.length), decide_eq_true (by rw [str_len]; exact h.few : x.length ≤ 8), Bool.true_and, Bool.true_and, List.all_eq_true]
    intro c hc
    have z := h.small c hc
    unfold smallL at z
    have e : abc.cps.toList = (List.range 26).map (97 + ·) := by decide +kernel
    rw [decide_eq_true_iff, e]
    exact List.mem_map.mpr ⟨c - 97, List.mem_range.mpr (by omega), by omega⟩
  have c2 : isFg (figS t) = true := by
    unfold isFg only
    rw [decide_eq_true (show figS t ≠ Str.ofString "" from fun z => by
      rw [z, show (Str.ofString "").length = 0 by decide +kernel] at lf
      omega), decide_eq_true (show (figS t).length % 2 = 0 by omega), Bool.true_and, Bool.true_and, Bool.and_eq_true, List.all_eq_true, List.all_eq_true]
    constructor
    · intro c hc
      rw [ev_list, figS_list, List.drop_zero, evs0] at hc
      obtain ⟨_, _, rfl⟩ := List.mem_map.mp hc
      decide +kernel
    · intro c hc
      rw [v1] at hc
      obtain ⟨d, hd, rfl⟩ := List.mem_map.mp hc
      have := ht d hd
      exact decide_eq_true (figs_mem.mpr (by omega))
  unfold rowR
  rw [e]
  dsimp only
  rw [c1, c2, v1, Bool.and_self, if_pos rfl, List.map_map]
  congr 2
  have : ((fun x => x - 48) ∘ fun d => 48 + d) = fun d : Nat => d := funext fun d => by show 48 + d - 48 = d; omega
  rw [this]
  exact List.map_id' t
theorem rows_map : ∀ {xs : List Str} {ts : List (List Nat)}, (∀ x ∈ xs, NameOk x) → (∀ t ∈ ts, 1 ≤ t.length ∧ ∀ d ∈ t, d < 10) → (List.zipWith rowS xs ts).map rowR = (List.zip xs ts).map some
  | [], ts, _, _ => by rfl
  | _ :: _, [], _, _ => by rfl
  | x :: xs, t :: ts, h, ht => by
    show rowR (rowS x t) :: (List.zipWith rowS xs ts).map rowR = some (x, t) :: (List.zip xs ts).map some
    rw [row_read (h x (List.mem_cons_self ..)) (ht t (List.mem_cons_self ..)).1 (ht t (List.mem_cons_self ..)).2, rows_map (fun x hx => h x (List.mem_cons_of_mem _ hx)) fun t h' => ht t (List.mem_cons_of_mem _ h')]
structure Fit (xs : List Str) (ts : List (List Nat)) (n : Nat) : Prop where
  el : xs.length = ts.length
  nd : xs.Nodup
  ok : ∀ x ∈ xs, NameOk x
  some1 : 1 ≤ ts.length
  few : ts.length ≤ 4
  n1 : 1 ≤ n
  n5 : n ≤ 5
  each : ∀ t ∈ ts, t.length = n ∧ ∀ x ∈ t, x < n
theorem text_ok {xs : List Str} {ts : List (List Nat)} {n : Nat} (h : Fit xs ts n) : Asc (textS xs ts) ∧ (textS xs ts).length ≤ 80 := by
  have l := rows_len h.el
  have f := h.few
  have n5 := h.n5
  have y := rows_weight (rows_short (ts := ts) h.ok fun t ht => by rw [(h.each t ht).1]; exact h.n5)
  obtain ⟨a, b⟩ := join_ok (ps := rowsS xs ts) fun p hp => asc_iff.mpr fun c hc => by
    unfold rowsS at hp
    obtain ⟨i, hi, e⟩ := List.getElem_of_mem hp
    rw [List.getElem_zipWith] at e
    rw [← e, row_list] at hc
    rcases List.mem_append.mp hc with z | z
    · rcases List.mem_append.mp z with z | z
      · have := (h.ok _ (List.getElem_mem _)).small c z
        unfold smallL at this
        omega
      · rw [List.mem_singleton.mp z]
        decide
    · refine fig_asc (fun d hd => ?_) c z
      have := (h.each _ (List.getElem_mem _)).2 d hd
      omega
  unfold textS
  rw [← nl_is]
  refine ⟨a, Nat.le_trans b ?_⟩
  unfold tot
  omega
theorem text_due {xs : List Str} {ts : List (List Nat)} {n : Nat} (h : Fit xs ts n) : DueOf (textS xs ts) (rdD (xs.zip ts)) := by
  refine .inl ⟨xs.zip ts, ?_, ?_, rfl⟩
  · unfold RowsOk
    rw [nl_is, text_split h.el h.some1 h.ok]
    refine rows_map h.ok fun t ht => ?_
    obtain ⟨a, b⟩ := h.each t ht
    have := h.n1
    have := h.n5
    exact ⟨by omega, fun d hd => by have := b d hd; omega⟩
  · unfold good machOk
    rw [List.map_fst_zip (by rw [h.el]; exact Nat.le_refl _), List.map_snd_zip (by rw [h.el]; exact Nat.le_refl _)]
    have e : (ts.headD []).length = n := by
      have := h.some1
      cases ts with
      | nil => exact absurd this (by decide)
      | cons t ts => exact (h.each t (List.mem_cons_self ..)).1
    rw [e]
    exact ⟨h.nd, h.few, h.n5, h.each⟩
theorem due_rep {K : PySem.W.Frag} {H : Hp} {p q a m : Addr} {xs : List Str} {ts : List (List Nat)} {n : Nat} (h : Fit xs ts n) (hp : H p = some (.tup [.str (Str.ofString "read"), .ref q])) (hq : H q = some (.tup [.ref a, .ref m])) (ha : H a = some (.tup (xs.map V.str))) (M : Mach H m ts n) : Rep K H 4 (rdD (xs.zip ts)) (.ref p) := by
  obtain ⟨rs, h1, h2, h3⟩ := M.refs
  unfold rdD
  rw [List.map_fst_zip (by rw [h.el]; exact Nat.le_refl _), List.map_snd_zip (by rw [h.el]; exact Nat.le_refl _)]
  exact rep_two hp (.str 3 _) (rep_two hq (rep_strs ha) (rep_turns h1 ⟨h2, h3⟩))
def spLaw (K : PySem.W.Frag) : Sp := fun vs H Q _ => ∃ (a : Addr) (ns : List Int), vs = [.ref a] ∧ SqL K H a (ns.map V.int) ∧ ns.length ≤ 63 ∧ ∀ H', Q (.bl true) H'
section
variable {P : Program} {w : World} {K : PySem.W.Frag} {mg : Str → Option Value} {base : Heap} {f : Addr} {fd : FuncData}
set_option maxHeartbeats 4000000 in
theorem ok_law (F : Fun K "law" "law" sLaw f fd) (c__law_machine : Callee P w K mg base "_law_machine" 3 ["_law_script", "_law_start"] (spMachine K)) (c__law_names : Callee P w K mg base "_law_names" 1 ["_law_cell", "_law_many"] spNames) (c__law_cell_at : Callee P w K mg base "_law_cell_at" 1 ["_law_script", "_law_k"] (spCellAt K))
    (c__law_written : Callee P w K mg base "_law_written" 1 ["_law_names_here", "_law_machine_here"] spWritten) (c__law_asked : Callee P w K mg base "_law_asked" 11 ["_law_thing"] (spAsked K)) (c__law_turned_text : Callee P w K mg base "_law_turned_text" 1 ["_law_text", "_law_cell"] spBent) (c__law_due : Callee P w K mg base "_law_due" 3 ["_law_text"] (spLDue K)) (m_tuple : mg "tuple" = none) (m_len : mg "len" = none) : FnOk P w K mg base CX0 13 f fd ["_law_script"] (spLaw K) := by
  refine F.ok scLaw (fun vs H Q E h => ?_) (fun cdv A outer s H vs Q E hr h => ?_)
  · obtain ⟨a, ns, rfl, _⟩ := h
    rfl
  obtain ⟨a, ns, rfl, hS, h63, q⟩ := h
  have hu := hr.units
  refine ⟨_, (qss_at (qss_cons (qs_of (ps_set (i := 1) scLaw.nd rfl (Or.inl rfl) (pe_callD c__law_machine (hr.mono (by decide)) rfl (pl_at (pl_cons (pv 0) (pl_cons pe_int pl_nil rfl) rfl))))) (qss_cons (qs_of (ps_set (i := 2) scLaw.nd rfl (Or.inl rfl) (pe_callD c__law_names (hr.mono (by decide)) rfl (pl_at (pl_cons (pe_callD c__law_cell_at (hr.mono (by decide)) rfl (pl_at (pl_cons (pv 0) (pl_cons pe_int pl_nil rfl) rfl))) (pl_cons pe_int pl_nil rfl) rfl))))) (qss_cons (qs_of (ps_set (i := 3) scLaw.nd rfl (Or.inl rfl) (pe_callD c__law_written (hr.mono (by decide)) rfl (pl_at (pl_cons (pv 2) (pl_cons (pv 1) pl_nil rfl) rfl))))) (qss_cons (qs_set (i := 4) scLaw.nd rfl (Or.inl rfl) (qe_tup (ql_cons (qe_of pe_str) (ql_cons (qe_of (pe_tup (pl_at (pl_cons (pe_callTy call_tuple_of rfl m_tuple boot_tuple (pa_cons (pe_slice sl_list (pv 2) po_none (po_some (pe_callB call_len_seq rfl m_len boot_len (pa_cons (pv 1) pa_nil)))) pa_nil)) (pl_cons (pv 1) pl_nil rfl) rfl)))) pl_nil rfl) rfl)) rfl (by first | exact .inl rfl | exact .inr rfl | assumption)) (qss_cons (qs_of (ps_if (pt_cmpR (op_neD hu) (pe_callD c__law_asked (hr.mono (by decide)) rfl (pa_cons (pv 3) pa_nil)) (pv 4) (nomark _)) (pss_one (ps_ret pe_bl)) pss_nil)) (qss_cons (qs_of (ps_for PassesOwn.never rfl (pi_list (pe_op op_catS (pe_slice sl_list (pv 0) (po_some pe_int) (po_some pe_int)) (pe_lst (pl_at (pl_cons pe_int (pl_cons pe_int pl_nil rfl) rfl))))) (pg_name (i := 5) scLaw.nd rfl (Or.inl rfl)) (pss_cons (ps_set (i := 6) scLaw.nd rfl (Or.inl rfl) (pe_callD c__law_turned_text (hr.mono (by decide)) rfl (pl_at (pl_cons (pv 3) (pl_cons (pv 5) pl_nil rfl) rfl)))) (pss_cons (ps_cut (ps_if (pt_cmpR op_eq (pe_op op_mod (pe_op op_fdiv (pv 5) pe_int) pe_int) pe_int (nomark _)) (pss_one (ps_set (i := 6) scLaw.nd rfl (Or.inl rfl) (pe_callD c__law_turned_text (hr.mono (by decide)) rfl (pl_at (pl_cons (pv 6) (pl_cons (pe_op op_fdiv (pv 5) pe_int) pl_nil rfl) rfl))))) pss_nil)) (pss_one (ps_if (PW.pt (pw_or (pt_cmpR (op_neD hu) (pe_callD c__law_asked (hr.mono (by decide)) rfl (pa_cons (pv 6) pa_nil)) (pe_callD c__law_due (hr.mono (by decide)) rfl (pa_cons (pv 6) pa_nil)) (nomark _)) (pw_or1 (pt_cmpR (op_neD hu) (pe_callD c__law_asked (hr.mono (by decide)) rfl (pa_cons (pv 3) pa_nil)) (pv 4) (nomark _))))) (pss_one (ps_ret pe_bl)) pss_nil)))))) (qss_cons (qs_of (ps_set (i := 7) scLaw.nd rfl (Or.inl rfl) (pe_op op_mod (pe_callD c__law_cell_at (hr.mono (by decide)) rfl (pl_at (pl_cons (pv 0) (pl_cons pe_int pl_nil rfl) rfl))) (pe_op op_pow pe_int pe_int)))) (qss_cons (qs_set (i := 8) scLaw.nd rfl (Or.inl rfl) (qe_ix ix_list (qe_lst (ql_cons (qe_of pe_non) (ql_cons (qe_of (pv 7)) (ql_cons (qe_of pe_bl) (ql_cons (qe_of (pe_lst (pa_cons (pv 3) pa_nil))) (ql_cons (qe_of (pe_tup (pa_cons (pv 3) pa_nil))) (ql_cons (qe_of (pe_disp (pps_cons (pv 3) (pv 3) pps_nil) rfl rfl (by simp) (by show 1 ≤ 15; decide))) (ql_cons (qe_of (pv 1)) pl_nil rfl) rfl) rfl) rfl) rfl) rfl) rfl)) (qe_of (pe_op op_mod (pv 7) pe_int)) (fun _ _ => rfl)) rfl (by first | exact .inl rfl | exact .inr rfl | assumption)) (qss_one (qs_ret (qe_of (pe_cmpR (op_eqD hu) (pe_callD c__law_asked (hr.mono (by decide)) rfl (pa_cons (pv 8) pa_nil)) (pe_tup (pl_at (pl_cons pe_str (pl_cons pe_non pl_nil rfl) rfl))) (nomark _)))))))))))))), ?_⟩
  refine ⟨_, rfl, a, ns, 1, rfl, by decide, hS, fun m ts n H1 g1 M => ?_⟩
  refine ⟨_, rfl, a, ns, 0, rfl, by decide, g1.seq hS, fun c0 => ⟨c0, rfl, fun nl xs H2 g2 enl _ l4 nd ok => ?_⟩⟩
  have s1 := M.some1
  have few := M.few
  obtain ⟨ys, eys⟩ : ∃ ys, xs.take ts.length = ys := ⟨_, rfl⟩
  have enl' : H2 nl = some (.lst ((ys ++ xs.drop ts.length).map V.str)) := by rw [← eys, List.take_append_drop]; exact enl
  have ely : ys.length = ts.length := by rw [← eys, List.length_take]; omega
  have oky : ∀ x ∈ ys, NameOk x := fun x hx => ok x (List.mem_of_mem_take (eys ▸ hx))
  have ndy : ys.Nodup := eys ▸ nd.sublist (List.take_sublist ..)
  have fit : Fit ys ts n := ⟨ely, ndy, oky, s1, few, M.n1, M.n5, M.each⟩
  obtain ⟨atx, ltx⟩ := text_ok fit
  have dtx := text_due fit
  refine ⟨_, rfl, _, rfl, nl, m, ys, _, ts, n, rfl, enl', M.same g2, ely, oky, fun H3 g3 => ?_⟩
  obtain ⟨x, ex⟩ : ∃ x, textS ys ts = x := ⟨_, rfl⟩
  rw [ex] at atx ltx dtx ⊢
  have M3 := M.same (g2.trans g3)
  obtain ⟨rs, hm, h2, h3⟩ := M3.refs
  have enl3 := g3 _ _ enl
  refine ⟨_, rfl, _, rfl, m, _, rfl, .inr (SqT.of hm), _, rfl, nl, _, rfl, SqL.of enl3, fun dl ndl => ?_⟩
  rw [List.length_map, h2, cut_hi, ← List.map_take, eys]
  have kdl := same_new ndl (.lst (ys.map V.str))
  refine ⟨dl, _, rfl, .inl ⟨SqL.of upd_same, fun nm nnm => ?_⟩⟩
  have knm := kdl.trans (same_new nnm (.tup (ys.map V.str)))
  have enm : upd (upd H3 dl (.lst (ys.map V.str))) nm (.tup (ys.map V.str)) nm = some (.tup (ys.map V.str)) := upd_same
  generalize upd (upd H3 dl (.lst (ys.map V.str))) nm (.tup (ys.map V.str)) = H4 at knm enm ⊢
  refine ⟨_, rfl, by show 2 ≤ sizeLine; decide, fun ip nip => ⟨by show 2 ≤ sizeLine; decide, fun dp ndp => ?_⟩⟩
  have kip := same_new nip (.tup [.ref nm, .ref m])
  have kdp := same_new ndp (.tup [.str (Str.ofString "read"), .ref ip])
  have k5 := knm.trans (kip.trans kdp)
  have rep0 : Rep K (upd (upd H4 ip (.tup [.ref nm, .ref m])) dp (.tup [.str (Str.ofString "read"), .ref ip])) 4 (rdD (ys.zip ts)) (.ref dp) := due_rep fit upd_same (kdp _ _ upd_same) ((kip.trans kdp) _ _ enm) (M3.same k5)
  have M5 := M3.same k5
  have g5 := (g1.trans (g2.trans g3)).trans k5
  show tSeq _ _ _ [some (.ref a), some (.ref m), some (.ref nl), some (.str x), some (.ref dp), none, none, none, none] (upd (upd H4 ip (.tup [.ref nm, .ref m])) dp (.tup [.str (Str.ofString "read"), .ref ip]))
  generalize upd (upd H4 ip (.tup [.ref nm, .ref m])) dp (.tup [.str (Str.ofString "read"), .ref ip]) = H5 at rep0 M5 g5 ⊢
  refine ⟨_, rfl, .inl ⟨x, rfl, atx, by omega, fun p6 d6 H6 g6 du6 rp6 => ⟨_, rfl, p6, dp, 3, d6, _, rfl, rfl, rp6, rep0.same g6, by decide, fun b hb => ?_⟩⟩⟩
  rw [hb.mpr (du6.uniq dtx)]
  refine ⟨_, rfl, iteF ?_⟩
  clear hb b
  obtain ⟨zs, ezs, lzs⟩ : ∃ zs : List Int, cutV (ns.map V.int) (some 10) (some 22) = zs.map V.int ∧ zs.length ≤ ns.length := by
    unfold cutV
    exact ⟨_, by rw [← List.map_drop, ← List.map_take], ((List.take_sublist ..).trans (List.drop_sublist ..)).length_le⟩
  refine ⟨_, rfl, _, rfl, _, rfl, a, _, rfl, (g5.trans g6).seq hS, fun l1 n1 => ?_⟩
  rw [ezs]
  have k1 := same_new n1 (.lst (zs.map V.int))
  refine ⟨by show 2 ≤ sizeLine; decide, fun l2 n2 => ?_⟩
  have k2 := same_new n2 (.lst [.int 0, .int 3])
  refine ⟨l1, l2, _, _, rfl, rfl, SqL.of (k2 _ _ upd_same), SqL.of upd_same, by rw [List.length_map, sizeLine_eq]; show zs.length + 2 ≤ _; omega, fun l3 n3 => ?_⟩
  have e3 : zs.map V.int ++ [.int 0, .int 3] = (zs ++ [0, 3]).map V.int := by rw [List.map_append]; rfl
  rw [e3]
  have k3 := (k1.trans k2).trans (same_new n3 (.lst ((zs ++ [0, 3]).map V.int)))
  have el3 : upd (upd (upd H6 l1 (.lst (zs.map V.int))) l2 (.lst [.int 0, .int 3])) l3 (.lst ((zs ++ [0, 3]).map V.int)) l3 = some (.lst ((zs ++ [0, 3]).map V.int)) := upd_same
  generalize upd (upd (upd H6 l1 (.lst (zs.map V.int))) l2 (.lst [.int 0, .int 3])) l3 (.lst ((zs ++ [0, 3]).map V.int)) = H7 at k3 el3 ⊢
  have g57 := g6.trans k3
  have rep7 := rep0.same g57
  have M7 := M5.same g57
  have g7 := g5.trans g57
  refine ⟨l3, rfl, ⟨_, SqL.of el3⟩, for_list (xs := (zs ++ [0, 3]).map V.int) (fun i σ H' => Same H7 H' ∧ ∃ o5 o6, σ = [some (.ref a), some (.ref m), some (.ref nl), some (.str x), some (.ref dp), o5, o6, none, none]) ⟨Same.refl _, none, none, rfl⟩ (fun i σ H' _ p => SqL.of (p.1 _ _ el3)) (fun i v σ H8 hv p => ?_) (fun σ H8 p => ?_)⟩
  · obtain ⟨g8, o5, o6, rfl⟩ := p
    rw [List.getElem?_map] at hv
    obtain ⟨c, ec, rfl⟩ := Option.map_eq_some_iff.mp hv
    refine ⟨_, rfl, _, rfl, x, c, rfl, atx, by omega, fun y H9 g9 ay ly => ?_⟩
    have g9 := g8.trans g9
    refine ⟨fun σ' H' => Same H7 H' ∧ ∃ z, Asc z ∧ z.length ≤ 950 ∧ σ' = [some (.ref a), some (.ref m), some (.ref nl), some (.str x), some (.ref dp), some (.int c), some (.str z), none, none], ?_, fun σ' H10 z => ?_⟩
    · refine ⟨_, rfl, _, _, rfl, rfl, ⟨by decide, by decide⟩, _, _, rfl, rfl, (by decide : (0 : Int) < 2), rfl, _, rfl, ite2 (fun _ => ?_) (fun _ => ⟨g9, y, ay, by omega, rfl⟩)⟩
      exact ⟨_, rfl, _, rfl, _, _, rfl, rfl, ⟨by decide, by decide⟩, y, _, rfl, ay, by omega, fun y2 H10 g10 ay2 ly2 => ⟨g9.trans g10, y2, ay2, by omega, rfl⟩⟩
    obtain ⟨g10, z, az, lz, rfl⟩ := z
    refine ⟨_, rfl, .inl ⟨z, rfl, az, lz, fun p11 d11 H11 g11 du11 rp11 => ⟨_, rfl, z, rfl, az, lz, fun p12 d12 H12 g12 du12 rp12 => ⟨p11, p12, 3, d11, d12, rfl, rfl, rp11.same g12, rp12, by decide, fun b hb => ?_⟩⟩⟩⟩
    rw [hb.mpr (du11.uniq du12)]
    refine ⟨_, rfl, iteF ⟨_, rfl, .inl ⟨x, rfl, atx, by omega, fun p13 d13 H13 g13 du13 rp13 => ⟨_, rfl, p13, dp, 3, d13, _, rfl, rfl, rp13, rep7.same (((g10.trans g11).trans g12).trans g13), by decide, fun b hb => ?_⟩⟩⟩⟩
    rw [hb.mpr (du13.uniq dtx)]
    exact ⟨_, rfl, iteF ⟨((g10.trans g11).trans g12).trans g13, _, _, rfl⟩⟩
  obtain ⟨g8, o5, o6, rfl⟩ := p
  refine ⟨_, rfl, a, ns, 22, rfl, by decide, (g7.trans g8).seq hS, fun c22 => ⟨_, _, rfl, rfl, ⟨by decide, by decide, by decide⟩, _, _, rfl, rfl, (by decide : (0 : Int) < 10 ^ (30 : Int).toNat), ?_⟩⟩
  dsimp only
  generalize (c22 % 10 ^ (30 : Int).toNat : Int) = num
  refine ⟨_, rfl, _, rfl, by show 1 ≤ sizeLine; decide, fun u1 w1 => ⟨_, rfl, by show 1 ≤ sizeLine; decide, fun u2 w2 => ?_⟩⟩
  have j1 := same_new w1 (.lst [.str x])
  have j2 := same_new w2 (.tup [.str x])
  have f1 := j2 _ _ (upd_same (H := H8) (a := u1) (o := .lst [.str x]))
  have f2 : upd (upd H8 u1 (.lst [.str x])) u2 (.tup [.str x]) u2 = some (.tup [.str x]) := upd_same
  generalize upd (upd H8 u1 (.lst [.str x])) u2 (.tup [.str x]) = H9 at j2 f1 f2 ⊢
  refine fun u3 w3 => ⟨_, rfl, _, rfl, upd_same, [(.inr x, .str x)], rfl, by show 1 ≤ 15; decide, ?_⟩
  rw [upd_upd]
  have j3 := same_new w3 (.dK (mergeK [] [(.inr x, .str x)]))
  have f3 : upd H9 u3 (.dK (mergeK [] [(.inr x, .str x)])) u3 = some (.dK (mergeK [] [(.inr x, .str x)])) := upd_same
  have M9 := ((((M7.same g8).same j1).same j2)).same j3
  replace f1 := j3 _ _ f1
  replace f2 := j3 _ _ f2
  generalize upd H9 u3 (.dK (mergeK [] [(.inr x, .str x)])) = H10 at j3 f1 f2 f3 M9 ⊢
  refine ⟨_, rfl, by show 7 ≤ sizeLine; decide, fun u4 w4 => ⟨_, rfl, _, _, rfl, rfl, (by decide : (0 : Int) < 7), ?_⟩⟩
  have j4 := same_new w4 (.lst [.non, .int num, .bl true, .ref u1, .ref u2, .ref u3, .ref m])
  have f4 : upd H10 u4 (.lst [.non, .int num, .bl true, .ref u1, .ref u2, .ref u3, .ref m]) u4 = some (.lst [.non, .int num, .bl true, .ref u1, .ref u2, .ref u3, .ref m]) := upd_same
  have M10 := M9.same j4
  replace f1 := j4 _ _ f1
  replace f2 := j4 _ _ f2
  replace f3 := j4 _ _ f3
  show rIxL _ _ (.int (num % 7)) (upd H10 u4 (.lst [.non, .int num, .bl true, .ref u1, .ref u2, .ref u3, .ref m])) _
  generalize upd H10 u4 (.lst [.non, .int num, .bl true, .ref u1, .ref u2, .ref u3, .ref m]) = H11 at f1 f2 f3 f4 M10 ⊢
  obtain ⟨us, hus, _, _⟩ := M10.refs
  obtain ⟨k, hk, k7⟩ : ∃ k : Nat, num % 7 = (k : Int) ∧ k < 7 := ⟨(num % 7).toNat, by omega, by omega⟩
  have each : ∀ v ∈ [V.non, .int num, .bl true, .ref u1, .ref u2, .ref u3, .ref m], ∃ t, TyOf K H11 v t ∧ PySem.W.kitOne K t (.type "str") = some false := fun v hv => by
    simp only [List.mem_cons, List.not_mem_nil, or_false] at hv
    rcases hv with rfl | rfl | rfl | rfl | rfl | rfl | rfl
    · exact ⟨_, .non, rfl⟩
    · exact ⟨_, .int _, rfl⟩
    · exact ⟨_, .bl _, rfl⟩
    · exact ⟨_, .lst f1, rfl⟩
    · exact ⟨_, .tup f2, rfl⟩
    · exact ⟨_, .dK f3, rfl⟩
    · exact ⟨_, .tup hus, rfl⟩
  obtain ⟨v, ev⟩ : ∃ v, [V.non, .int num, .bl true, .ref u1, .ref u2, .ref u3, .ref m][k]? = some v := ⟨_, List.getElem?_eq_getElem k7⟩
  obtain ⟨t, ty, kt⟩ := each v (List.mem_of_getElem? ev)
  rw [hk]
  refine ⟨u4, _, _, v, rfl, rfl, SqL.of f4, atI_nat ev, _, rfl, .inr ⟨v, t, rfl, ty, kt, fun p H12 g12 rp => ⟨by show 2 ≤ sizeLine; decide, fun tp ntp => ⟨p, tp, 3, txtD, txtD, rfl, rfl, rp.same (same_new ntp _), rep_two upd_same (.str 3 _) (.non 3), by decide, fun b hb => ?_⟩⟩⟩⟩
  rw [hb.mpr rfl]
  exact q _
end
theorem ln1 {α : Type} {P : List α → Prop} (h : ∀ a0, P [a0]) : ∀ us : List α, us.length = 1 → P us
  | [a0], _ => h a0
theorem ln2 {α : Type} {P : List α → Prop} (h : ∀ a0 a1, P [a0, a1]) : ∀ us : List α, us.length = 2 → P us
  | [a0, a1], _ => h a0 a1
theorem ln3 {α : Type} {P : List α → Prop} (h : ∀ a0 a1 a2, P [a0, a1, a2]) : ∀ us : List α, us.length = 3 → P us
  | [a0, a1, a2], _ => h a0 a1 a2
theorem ln4 {α : Type} {P : List α → Prop} (h : ∀ a0 a1 a2 a3, P [a0, a1, a2, a3]) : ∀ us : List α, us.length = 4 → P us
  | [a0, a1, a2, a3], _ => h a0 a1 a2 a3
theorem ln5 {α : Type} {P : List α → Prop} (h : ∀ a0 a1 a2 a3 a4, P [a0, a1, a2, a3, a4]) : ∀ us : List α, us.length = 5 → P us
  | [a0, a1, a2, a3, a4], _ => h a0 a1 a2 a3 a4
abbrev Rw (K : PySem.W.Frag) (x : Str) (st : Stmt) (f : Addr) (fd : FuncData) : Prop := PySem.W.nsIn K mainGlobals x = some (some (.ref f)) ∧ Fun K x x st f fd
abbrev Rx (K : PySem.W.Frag) (x : Str) (st : Stmt) : Prop := ∃ f fd, Rw K x st f fd
theorem cal {K : PySem.W.Frag} {mg : Str → Option Value} {x : Str} {k : Nat} {ps : List Str} {sp : Sp} {st : Stmt} {h : Heap} (P : Program) (w : World) (base : Heap) (X : K.In h) (G : h.Ns mainGlobals mg) (r : Rx K x st) (o : ∀ {f fd}, Fun K x x st f fd → FnOk P w K mg base CX0 k f fd ps sp)
    (hb : ∀ (kV doc pm : Value) (an : Option Addr) (cdv ct : Value) (us : List Value), us.length = ps.length → bindArgs (PySem.W.fnOf x x (defArgs st) (defBody st) (defScope st) .none kV doc pm an cdv ct) ⟨us, []⟩ = pure (ps.zip us) := by first | exact fun _ _ _ _ _ _ => ln1 fun _ => rfl | exact fun _ _ _ _ _ _ => ln2 fun _ _ => rfl | exact fun _ _ _ _ _ _ => ln3 fun _ _ _ => rfl | exact fun _ _ _ _ _ _ => ln4 fun _ _ _ _ => rfl | exact fun _ _ _ _ _ _ => ln5 fun _ _ _ _ _ => rfl) : Callee P w K mg base x k ps sp := let ⟨f, fd, a, F⟩ := r; ⟨f, fd, o F, PySem.W.mg_of X G a, F.kp, F.binds hb⟩
set_option maxHeartbeats 0 in
theorem all_mk {l : PySem.W.OpenLaw} {w : World} {K : PySem.W.Frag} {h : Heap} {mg : Str → Option Value} {fa f4 f8 f9 f18 f20 : Addr} {d20 : FuncData} (X : K.In h) (G : h.Ns mainGlobals mg) (hfa : mg "law" = some (.ref fa))
    {od4 an4 od8 an8 od9 an9 od18 an18 : Option Addr} {sl4 sl8 sl9 sl18 : Array (Option Value)} {oc4 kV4 dc4 pm4 cd4 ct4 oc8 kV8 dc8 pm8 cd8 ct8 oc9 kV9 dc9 pm9 cd9 ct9 oc18 kV18 dc18 pm18 cd18 ct18 : Value}
    (r1 : Rx K "is_whole" sIsWhole)
    (r2 : Rx K "is_room" sIsRoom)
    (r3 : Rx K "is_turn" sIsTurn)
    (a4 : PySem.W.nsIn K mainGlobals "check" = some (some (.ref f4))) (l4 : K.lookup f4 = some ⟨oc4, od4, .func (PySem.W.fnOf "check" "check" (defArgs sCheck) (defBody sCheck) (defScope sCheck) .none kV4 dc4 pm4 an4 cd4 ct4), sl4⟩) (c4 : PySem.W.codeIn K cd4 "check" = true) (k4 : PySem.W.keepIn K (.ref f4) = true)
    (r5 : Rx K "has_only" sHasOnly)
    (r6 : Rx K "is_name" sIsName)
    (r7 : Rx K "is_figures" sIsFigures)
    (a8 : PySem.W.nsIn K mainGlobals "read_row" = some (some (.ref f8))) (l8 : K.lookup f8 = some ⟨oc8, od8, .func (PySem.W.fnOf "read_row" "read_row" (defArgs sReadRow) (defBody sReadRow) (defScope sReadRow) .none kV8 dc8 pm8 an8 cd8 ct8), sl8⟩) (c8 : PySem.W.codeIn K cd8 "read_row" = true) (k8 : PySem.W.keepIn K (.ref f8) = true)
    (a9 : PySem.W.nsIn K mainGlobals "read" = some (some (.ref f9))) (l9 : K.lookup f9 = some ⟨oc9, od9, .func (PySem.W.fnOf "read" "read" (defArgs sRead) (defBody sRead) (defScope sRead) .none kV9 dc9 pm9 an9 cd9 ct9), sl9⟩) (c9 : PySem.W.codeIn K cd9 "read" = true) (k9 : PySem.W.keepIn K (.ref f9) = true)
    (r10 : Rx K "_law_cell_at" sLawCellAt)
    (r11 : Rx K "_law_names" sLawNames)
    (r12 : Rx K "_law_turn" sLawTurn)
    (r13 : Rx K "_law_machine" sLawMachine)
    (r14 : Rx K "_law_written" sLawWritten)
    (r15 : Rx K "_law_turned_text" sLawTurnedText)
    (r16 : Rx K "_law_row" sLawRow)
    (r17 : Rx K "_law_due" sLawDue)
    (a18 : PySem.W.nsIn K mainGlobals "_law_kind" = some (some (.ref f18))) (l18 : K.lookup f18 = some ⟨oc18, od18, .func (PySem.W.fnOf "_law_kind" "_law_kind" (defArgs sLawKind) (defBody sLawKind) (defScope sLawKind) .none kV18 dc18 pm18 an18 cd18 ct18), sl18⟩) (c18 : PySem.W.codeIn K cd18 "_law_kind" = true) (k18 : PySem.W.keepIn K (.ref f18) = true)
    (r19 : Rx K "_law_asked" sLawAsked)
    (r20 : Rw K "law" sLaw f20 d20)
    {C_NoMachine C_NoText C_HallError C_TooMany C_NoRow C_NoName : Addr} (n_NoMachine : PySem.W.nsIn K mainGlobals "NoMachine" = some (some (.ref C_NoMachine))) (n_NoText : PySem.W.nsIn K mainGlobals "NoText" = some (some (.ref C_NoText))) (n_HallError : PySem.W.nsIn K mainGlobals "HallError" = some (some (.ref C_HallError))) (n_TooMany : PySem.W.nsIn K mainGlobals "TooMany" = some (some (.ref C_TooMany))) (n_NoRow : PySem.W.nsIn K mainGlobals "NoRow" = some (some (.ref C_NoRow))) (n_NoName : PySem.W.nsIn K mainGlobals "NoName" = some (some (.ref C_NoName)))
    {t_MOST_LETTERS : Tok} (n_MOST_LETTERS : PySem.W.nsIn K mainGlobals "MOST_LETTERS" = some (some (.int 4 t_MOST_LETTERS)))
    {t_MOST_ROOMS : Tok} (n_MOST_ROOMS : PySem.W.nsIn K mainGlobals "MOST_ROOMS" = some (some (.int 5 t_MOST_ROOMS)))
    {t_MOST_SIGNS : Tok} (n_MOST_SIGNS : PySem.W.nsIn K mainGlobals "MOST_SIGNS" = some (some (.int 8 t_MOST_SIGNS)))
    {t_SMALL_LETTERS : Tok} (n_SMALL_LETTERS : PySem.W.nsIn K mainGlobals "SMALL_LETTERS" = some (some (.str (Str.ofString "abcdefghijklmnopqrstuvwxyz") t_SMALL_LETTERS)))
    {t_FIGURES : Tok} (n_FIGURES : PySem.W.nsIn K mainGlobals "FIGURES" = some (some (.str (Str.ofString "0123456789") t_FIGURES)))
    (q_HallError : ErrC K C_HallError)
    (kT : My.KO K C_HallError C_NoMachine C_TooMany C_NoText C_NoRow C_NoName C_NoText true false)
    (kM : My.KO K C_HallError C_NoMachine C_TooMany C_NoText C_NoRow C_NoName C_NoMachine false true)
    (z_isinstance : PySem.W.nsIn K mainGlobals "isinstance" = some none) (z_int : PySem.W.nsIn K mainGlobals "int" = some none) (z_bool : PySem.W.nsIn K mainGlobals "bool" = some none) (z_tuple : PySem.W.nsIn K mainGlobals "tuple" = some none) (z_len : PySem.W.nsIn K mainGlobals "len" = some none) (z_all : PySem.W.nsIn K mainGlobals "all" = some none) (z_str : PySem.W.nsIn K mainGlobals "str" = some none) (z_set : PySem.W.nsIn K mainGlobals "set" = some none) (z_range : PySem.W.nsIn K mainGlobals "range" = some none) (z_list : PySem.W.nsIn K mainGlobals "list" = some none) (z_max : PySem.W.nsIn K mainGlobals "max" = some none) (z_ValueError : PySem.W.nsIn K mainGlobals "ValueError" = some none) :
    ∃ fd : FuncData, (∀ (s : Shared) (v : Value), BindsTo s fd ⟨[v], []⟩ [("_law_script", v)]) ∧ ∀ base : Heap, K.In base → base.Ns mainGlobals mg → FnOk l.prog w K mg base CX0 13 fa fd ["_law_script"] (spLaw K) := by
  have e := hfa.symm.trans (PySem.W.mg_of X G r20.1)
  cases e
  have F4 := fun_mk (st := sCheck) l4 c4 k4
  have F8 := fun_mk (st := sReadRow) l8 c8 k8
  have F9 := fun_mk (st := sRead) l9 c9 k9
  have F18 := fun_mk (st := sLawKind) l18 c18 k18
  have m_isinstance := PySem.W.mg_none_of X G z_isinstance
  have m_int := PySem.W.mg_none_of X G z_int
  have m_bool := PySem.W.mg_none_of X G z_bool
  have m_tuple := PySem.W.mg_none_of X G z_tuple
  have m_len := PySem.W.mg_none_of X G z_len
  have m_all := PySem.W.mg_none_of X G z_all
  have m_str := PySem.W.mg_none_of X G z_str
  have m_set := PySem.W.mg_none_of X G z_set
  have m_range := PySem.W.mg_none_of X G z_range
  have m_list := PySem.W.mg_none_of X G z_list
  have m_max := PySem.W.mg_none_of X G z_max
  have m_ValueError := PySem.W.mg_none_of X G z_ValueError
  have m_NoMachine := PySem.W.mg_of X G n_NoMachine
  have m_NoText := PySem.W.mg_of X G n_NoText
  have m_HallError := PySem.W.mg_of X G n_HallError
  have m_TooMany := PySem.W.mg_of X G n_TooMany
  have m_NoRow := PySem.W.mg_of X G n_NoRow
  have m_NoName := PySem.W.mg_of X G n_NoName
  have m_MOST_LETTERS := PySem.W.mg_of X G n_MOST_LETTERS
  have m_MOST_ROOMS := PySem.W.mg_of X G n_MOST_ROOMS
  have m_MOST_SIGNS := PySem.W.mg_of X G n_MOST_SIGNS
  have m_SMALL_LETTERS := PySem.W.mg_of X G n_SMALL_LETTERS
  have m_FIGURES := PySem.W.mg_of X G n_FIGURES
  have rL := r20.2
  obtain ⟨_, _, kV, dc, pm, an, cv, ct, _, rfl, _, _⟩ := id rL.ex
  refine ⟨PySem.W.fnOf "law" "law" (defArgs sLaw) (defBody sLaw) (defScope sLaw) .none kV dc pm an cv ct, fun s v => .of_eq rfl, fun base KB _ => ?_⟩
  have ch__law_kind : CalleeH l.prog w K mg base "_law_kind" _ _ _ := ⟨_, _, ok_kindH (P := l.prog) (w := w) (base := base) F18 m_isinstance m_ValueError m_HallError m_NoMachine m_TooMany m_NoText m_NoRow m_NoName kT kM, PySem.W.mg_of X G a18, k18, F18.binds (ps := ["_law_e"]) fun _ _ _ _ _ _ => ln1 (fun _ => rfl)⟩
  have c_is_whole := cal l.prog w base X G r1 fun F => ok_is_whole F m_isinstance m_int m_bool
  have c_is_room := cal l.prog w base X G r2 fun F => ok_is_room F c_is_whole
  have c_is_turn := cal l.prog w base X G r3 fun F => ok_is_turn F c_is_room m_isinstance m_tuple m_len m_all
  have c_check : CalleeX l.prog w K mg base "check" _ _ _ := ⟨_, _, ok_check (P := l.prog) (w := w) (base := base) F4 c_is_turn m_isinstance m_tuple m_len m_MOST_LETTERS m_MOST_ROOMS m_NoMachine kM.err.err, PySem.W.mg_of X G a4, k4, F4.binds (ps := ["thing"]) fun _ _ _ _ _ _ => ln1 (fun _ => rfl)⟩
  have c_has_only := cal l.prog w base X G r5 fun F => ok_has_only F m_all
  have c_is_name := cal l.prog w base X G r6 fun F => ok_is_name F c_has_only m_MOST_SIGNS m_SMALL_LETTERS m_len
  have c_is_figures := cal l.prog w base X G r7 fun F => ok_is_figures F c_has_only m_FIGURES m_len
  have c_read_row : CalleeX l.prog w K mg base "read_row" _ _ _ := ⟨_, _, ok_read_row (P := l.prog) (w := w) (base := base) F8 c_is_name c_is_figures m_MOST_SIGNS m_NoText kT.err.err m_tuple m_int, PySem.W.mg_of X G a8, k8, F8.binds (ps := ["row"]) fun _ _ _ _ _ _ => ln1 (fun _ => rfl)⟩
  have c_read : CalleeX l.prog w K mg base "read" _ _ _ := ⟨_, _, ok_read (P := l.prog) (w := w) (base := base) F9 c_read_row c_check m_NoText kT.err.err m_NoMachine kM.err.err m_isinstance m_str m_tuple m_set m_len, PySem.W.mg_of X G a9, k9, F9.binds (ps := ["text"]) fun _ _ _ _ _ _ => ln1 (fun _ => rfl)⟩
  have c__law_cell_at := cal l.prog w base X G r10 fun F => ok_cell_at F m_len
  have c__law_names := cal l.prog w base X G r11 fun F => ok_names F m_range m_len m_int
  have c__law_turn := cal l.prog w base X G r12 fun F => ok_turn F m_range m_tuple m_list
  have c__law_machine := cal l.prog w base X G r13 fun F => ok_machine F c__law_cell_at c__law_turn m_range m_tuple
  have c__law_written := cal l.prog w base X G r14 fun F => ok_written82 F m_range m_len m_str
  have c__law_turned_text := cal l.prog w base X G r15 fun F => ok_bent F m_len m_str
  have c__law_row := cal l.prog w base X G r16 fun F => ok_lrow F m_len m_range m_int m_tuple
  have c__law_due := cal l.prog w base X G r17 fun F => ok_ldue F c__law_row m_len m_tuple m_set m_max
  have c__law_asked := cal l.prog w base X G r19 fun F => ok_asked F c_read ch__law_kind m_HallError q_HallError kT.err.err kT.sub kM.err.err kM.sub
  exact ok_law (P := l.prog) (w := w) (base := base) rL c__law_machine c__law_names c__law_cell_at c__law_written c__law_asked c__law_turned_text c__law_due m_tuple m_len
theorem walk {l : PySem.W.OpenLaw} {q : Program} {loose : List Str} {XP : (Str → Option Value) → Heap → Prop} {YP : World → Heap → Prop} {d : DefRec} {K : Params → PySem.W.Frag} (hn : l.most = some 63) (hdf : d.params.defaults = [])
    (hY : ∀ (w : World) (h : Heap), YP w h → (K w.params).In h)
    (F : ∀ (w : World) (mg : Str → Option Value) (fa : Addr) (h : Heap), (K w.params).In h → h.Ns mainGlobals mg → mg d.name = some (.ref fa) →
      ∃ fd : FuncData, (∀ (s : Shared) (u : Value), BindsTo s fd ⟨[u], []⟩ [("_law_script", u)]) ∧ ∀ base : Heap, (K w.params).In base → base.Ns mainGlobals mg → FnOk l.prog w (K w.params) mg base CX0 13 fa fd ["_law_script"] (spLaw (K w.params))) :
    PySem.W.WalkO q loose XP YP l.row.toRowW d [] (fun f vs => PySem.call f vs) :=
  L2.walk_of (n := 63) (k := 13) (x := "_law_script") (CX := fun _ => CX0) (sp := fun w => spLaw (K w.params)) hn (by decide) hdf ⟨rfl, by decide, by decide⟩ hY F (fun _ _ a ns hl _ hS => ⟨a, ns, rfl, hS, hl, fun _ => rfl⟩) fun _ _ _ _ _ z => z
end My
open PySem PySem.W PyProof.Rows
set_option maxRecDepth 100000 in
set_option maxHeartbeats 0 in
theorem PySem.Challenge.cw_cascade_k81_texts_of_no_machine_holds : PySem.Challenge.rw_cascade_k81_texts_of_no_machine.Holds := by
  w_on; o_law; k_head; (case hw => w_witness2)
  k_fill
  refine My.walk (l := PySem.Challenge.rw_cascade_k81_texts_of_no_machine) rfl rfl (fun w h Y => PySem.W.kIn_of Y) ?F
  case F =>
    intro w mg fa h KX G hmg
    refine' My.all_mk KX G hmg ?_ ?_ ?_ ?a4 ?l4 ?c4 ?k4 ?_ ?_ ?_ ?a8 ?l8 ?c8 ?k8 ?a9 ?l9 ?c9 ?k9 ?_ ?_ ?_ ?_ ?_ ?_ ?_ ?_ ?a18 ?l18 ?c18 ?k18 ?_ ?_ ?n_NoMachine ?n_NoText ?n_HallError ?n_TooMany ?n_NoRow ?n_NoName ?n_MOST_LETTERS ?n_MOST_ROOMS ?n_MOST_SIGNS ?n_SMALL_LETTERS ?n_FIGURES ?q_HallError ?kT ?kM ?_ ?_ ?_ ?_ ?_ ?_ ?_ ?_ ?_ ?_ ?_ ?_
    (case a4 => k_is); (case l4 => k_is); (case c4 => k_is); (case k4 => k_is)
    (case a8 => k_is); (case l8 => k_is); (case c8 => k_is); (case k8 => k_is)
    (case a9 => k_is); (case l9 => k_is); (case c9 => k_is); (case k9 => k_is)
    (case a18 => k_is); (case l18 => k_is); (case c18 => k_is); (case k18 => k_is)
    (case n_NoMachine => k_is)
    (case n_NoText => k_is)
    (case n_HallError => k_is)
    (case n_TooMany => k_is)
    (case n_NoRow => k_is)
    (case n_NoName => k_is)
    (case n_MOST_LETTERS => k_is)
    (case n_MOST_ROOMS => k_is)
    (case n_MOST_SIGNS => k_is)
    (case n_SMALL_LETTERS => k_is)
    (case n_FIGURES => k_is)
    (case q_HallError => (show PySem.W.excIn _ _ L2.veMro "ValueError.__new__" = true; k_exc))
    (case kT => exact ⟨⟨(by show PySem.W.excIn _ _ L2.veMro "ValueError.__new__" = true; k_exc), by k_is, by k_is, by k_is⟩, ⟨_, _, _, _, by k_is, by rfl⟩, My.kit_self, My.kit_ref (by decide) ⟨_, _, _, by k_is⟩ ⟨_, _, _, _, by k_is, by rfl, by rfl⟩, My.kit_ref (by decide) ⟨_, _, _, by k_is⟩ ⟨_, _, _, _, by k_is, by rfl, by rfl⟩, My.kit_ref (by decide) ⟨_, _, _, by k_is⟩ ⟨_, _, _, _, by k_is, by rfl, by rfl⟩, My.kit_ref (by decide) ⟨_, _, _, by k_is⟩ ⟨_, _, _, _, by k_is, by rfl, by rfl⟩, My.kit_ref (by decide) ⟨_, _, _, by k_is⟩ ⟨_, _, _, _, by k_is, by rfl, by rfl⟩, My.kit_type (by decide +kernel) ⟨_, _, _, _, by k_is, by rfl, by rfl⟩⟩)
    (case kM => exact ⟨⟨(by show PySem.W.excIn _ _ L2.veMro "ValueError.__new__" = true; k_exc), by k_is, by k_is, by k_is⟩, ⟨_, _, _, _, by k_is, by rfl⟩, My.kit_ref (by decide) ⟨_, _, _, by k_is⟩ ⟨_, _, _, _, by k_is, by rfl, by rfl⟩, My.kit_self, My.kit_ref (by decide) ⟨_, _, _, by k_is⟩ ⟨_, _, _, _, by k_is, by rfl, by rfl⟩, My.kit_ref (by decide) ⟨_, _, _, by k_is⟩ ⟨_, _, _, _, by k_is, by rfl, by rfl⟩, My.kit_ref (by decide) ⟨_, _, _, by k_is⟩ ⟨_, _, _, _, by k_is, by rfl, by rfl⟩, My.kit_ref (by decide) ⟨_, _, _, by k_is⟩ ⟨_, _, _, _, by k_is, by rfl, by rfl⟩, My.kit_type (by decide +kernel) ⟨_, _, _, _, by k_is, by rfl, by rfl⟩⟩)
    any_goals (refine' ⟨_, _, ?a, L2.fun_mk ?l ?c ?k⟩; (case a => k_is); (case l => k_is); (case c => k_is); (case k => k_is))
    any_goals (refine' ⟨?a, L2.fun_mk ?l ?c ?k⟩; (case a => k_is); (case l => k_is); (case c => k_is); (case k => k_is))
    any_goals k_is
