import PyProof.Rows.All
import Wide.All
import OpenK.AllK
import Wide.FinOn
import Lean
import PyProof.EqAt
import PyProof.EqKinds
import PyProof.TupleCall
import PyProof.NeKinds
import PySem.Challenge.RW_cascade_k44_whole_words_that_keep_a_face
set_option maxHeartbeats 2000000
set_option Elab.async false
set_option linter.all false
set_option maxRecDepth 100000
abbrev a0A := @List.getElem?_eq_getElem
abbrev a0B := @List.getElem?_eq_some_iff
abbrev a0C := @PySem.wpAny_bind
abbrev a0D := @List.length_map
abbrev a0E := @List.getElem?_map
abbrev a0F := @List.mem_singleton
abbrev a0G := @PySem.wpAny_pure
abbrev a0H := @List.mem_of_getElem?
abbrev a0I := @PySem.Heap.get?_push_of_some
abbrev a0J := @List.getD_eq_getElem?_getD
abbrev a0K := @List.mem_append
abbrev a0L := @Array.length_toList
abbrev a0M := @List.mem_map
abbrev a0N := @Nat.le_refl
abbrev a0O := @Option.map_eq_some_iff
abbrev a0P := @List.getElem?_append_left
abbrev a0Q := @PySem.Heap.lt_size
abbrev a0R := @PySem.Heap.get?_push_size
abbrev a0S := @List.mem_cons_self
abbrev a0T := @List.getElem?_append_right
abbrev a0U := @List.size_toArray
abbrev a0V := @List.mem_cons_of_mem
abbrev a0W := @PyProof.Rows.wpS_bind
abbrev a0X := @List.mem_append_right
abbrev a0Y := @decide_eq_true
abbrev a0Z := @List.length_append
abbrev a1A := @Nat.le_trans
abbrev a1B := @PySem.sizeLine_eq
abbrev a1C := @List.mem_iff_getElem?
abbrev a1D := @PyProof.Rows.wpS_pure
abbrev a1E := @Nat.lt_of_lt_of_le
abbrev a1F := @List.mem_filter
abbrev a1G := @List.contains_iff_mem
abbrev a1H := @List.mem_cons
abbrev a1I := @decide_eq_false
abbrev a1J := @Nat.ne_of_lt
abbrev a1K := @List.append_assoc
abbrev a1L := @Bool.false_ne_true
abbrev a1M := @List.map_append
abbrev a1N := @PySem.Heap.get?_update_other
abbrev a1O := @List.pairwise_append
abbrev a1P := @Array.getElem?_eq_getElem
abbrev a1Q := @List.getElem?_eq_none
abbrev a1R := @List.length_filter_le
abbrev a1S := @Option.some.inj
abbrev a1T := @List.map_map
abbrev a1U := @List.length_take
abbrev a1V := @Array.perm_iff_toList_perm
abbrev a1W := @Array.getElem?_toList
abbrev a1X := @of_decide_eq_true
abbrev a1Y := @PySem.wpAny_holding
abbrev a1Z := @PySem.wpAny_call_entry
abbrev a2A := @Nat.exists_eq_add_one_of_ne_zero
abbrev a2B := @List.take_length
abbrev a2C := @congrArg
abbrev a2D := @List.map_congr_left
abbrev a2E := @PySem.PassesOwn.never
abbrev a2F := @PySem.F.plainAttrs_list
abbrev a2G := @List.mem_range
abbrev a2H := @List.pairwise_iff_getElem
abbrev a2I := @Int.toNat_natCast
abbrev a2J := @List.append_nil
abbrev a2K := @Array.getD_eq_getD_getElem?
abbrev a2L := @Array.toList_append
abbrev a2M := @List.map_cons
abbrev a2N := @List.Nodup.length_le_of_subset
abbrev a2O := @List.take_add_one
abbrev a2P := @List.getElem?_inj
abbrev a2Q := @List.take_append_drop
abbrev a2R := @List.pairwise_singleton
abbrev a2S := @PySem.F.slot_dict_keyiterator_next
abbrev a2T := @List.nodup_iff_pairwise_ne
abbrev a2U := @Nat.zero_le
abbrev a2V := @List.length_eq_zero_iff
abbrev a2W := @Bool.eq_iff_iff
abbrev a2X := @List.nodup_cons
abbrev a2Y := @List.getElem_mem
abbrev a2Z := @PySem.Calls.call_function_entry
abbrev a3A := @List.mem_append_left
abbrev a3B := @PyProof.Rows.wpS_forRange
abbrev a3C := @PySem.wpAny_setField_rec
abbrev a3D := @PySem.wpAny_mono
abbrev a3E := @PySem.F.slot_list_append
abbrev a3F := @PySem.F.type_list_append
abbrev a3G := @Nat.le_of_lt
abbrev a3H := @PySem.mem_of_lookup
abbrev a3I := @List.getElem?_range
abbrev a3J := @PySem.codeAny_builtin
abbrev a3K := @PySem.F.called_set
abbrev a3L := @Nat.add_sub_cancel'
abbrev a3M := @Bool.and_eq_true
abbrev a3N := @List.mem_reverse
abbrev a3O := @PySem.wpAny_callSpecial?_slot
abbrev a3P := @PySem.Around.under_plainId
abbrev a3Q := @PySem.F.slot_dict_itemiterator_next
abbrev a3R := @Ne.symm
abbrev a3S := @PySem.wpAny_newObj_type
abbrev a3T := @Classical.choose_spec
abbrev a3U := @List.foldl_append
abbrev a3V := @List.ext_getElem?
abbrev a3W := @List.Pairwise.sublist
abbrev a3X := @PySem.W.mg_of
abbrev a3Y := @PyProof.Rows.F.plain_set_update_loop
abbrev a3Z := @List.getElem?_of_mem
abbrev a4A := @List.lookup_cons
abbrev a4B := @Nat.lt_succ_self
abbrev a4C := @Array.getElem?_eq_some_iff
abbrev a4D := @PySem.wpAny_truthy_bool
abbrev a4E := @PySem.wpAny_dictEntries
abbrev a4F := @List.pairwise_map
abbrev a4G := @Nat.lt_irrefl
abbrev a4H := @Nat.sub_lt_left_of_lt_add
abbrev a4I := @Nat.ne_of_gt
abbrev a4J := @PySem.Heap.get?_update_self
abbrev a4K := @Nat.not_lt_zero
abbrev a4L := @PySem.wpAny_typeNameOfWhole_itemiter
abbrev a4M := @Array.size_push
abbrev a4N := @decide_eq_true_iff
abbrev a4O := @List.length_cons
abbrev a4P := @PySem.wpAny_typeNameOfWhole_keyiter
abbrev a4Q := @Nat.le_add_right
abbrev a4R := @PySem.lookup_relabel_local
abbrev a4S := @List.mem_of_mem_take
abbrev a4T := @PySem.Paired.length
abbrev a4U := @PySem.F.slot_dict_keyiterator_iter
abbrev a4V := @PySem.wpAny_setState_of
abbrev a4W := @List.length_range
abbrev a4X := @beq_eq_false_iff_ne
abbrev a4Y := @PySem.wpAny_dictEpoch
abbrev a4Z := @List.all_eq_true
abbrev a5A := @PySem.codeAny_mono
abbrev a5B := @PySem.wpAny_Call_Name_kw
abbrev a5C := @List.length_singleton
abbrev a5D := @List.Perm.append_left
abbrev a5E := @PySem.wpAny_newList
abbrev a5F := @Array.mem_of_getElem?
abbrev a5G := @List.drop_eq_getElem_cons
abbrev a5H := @List.extract_eq_take_drop
abbrev a5I := @PySem.wpAny_passesOwn
abbrev a5J := @List.take_sublist
abbrev a5K := @List.length_set
abbrev a5L := @Array.toList_push
abbrev a5M := @PySem.wpAny_pyIter_slot
abbrev a5N := @List.replicate_succ
abbrev a5O := @Nat.add_le_add_left
abbrev a5P := @PyProof.Rows.F.entry_set_update_loop
abbrev a5Q := @PySem.wpAny_attempt
abbrev a5R := @PySem.F.plain_extend_loop
abbrev a5S := @PyProof.Rows.wpS_mono
abbrev a5T := @Nat.add_sub_cancel_left
abbrev a5U := @List.filter_sublist
abbrev a5V := @List.cons_append
abbrev a5W := @List.getElem_map
abbrev a5X := @List.take_of_length_le
abbrev a5Y := @List.Perm.append_right
abbrev a5Z := @Nat.lt_of_le_of_lt
abbrev a6A := @Nat.lt_of_le_of_ne
abbrev a6B := @PySem.boot_len
abbrev a6C := @List.filter_append
abbrev a6D := @List.countP_eq_length_filter
abbrev a6E := @PyProof.Rows.entry_list_sort
abbrev a6F := @Nat.min_eq_left
abbrev a6G := @List.perm_append_comm
abbrev a6H := @PyProof.Rows.get?_update_seq
abbrev a6I := @PySem.W.mg_none_of
abbrev a6J := @PySem.plainId_quiet
abbrev a6K := @PySem.wpAny_rule
abbrev a6L := @List.nodup_append
abbrev a6M := @PyProof.Rows.wpS_modify
abbrev a6N := @PyProof.Rows.listUpdate_at
abbrev a6O := @PyProof.Rows.boot_tuple
abbrev a6P := @List.filter_congr
abbrev a6Q := @Array.toList_extract
abbrev a6R := @Array.toList_reverse
abbrev a6S := @PySem.Heap.size_push
abbrev a6T := @PySem.wpAny_fieldsOf
abbrev a6U := @PyProof.Rows.slot_list_sort
abbrev a6V := @Classical.byContradiction
abbrev a6W := @List.getElem?_eq_none_iff
abbrev a6X := @PySem.wpAny_forIn_list
abbrev a6Y := @List.length_drop
abbrev a6Z := @PySem.wpAny_askSetting
abbrev a7A := @List.toList_toArray
abbrev a7B := @Nat.le_succ
abbrev a7C := @Nat.add_lt_add_left
abbrev a7D := @List.mem_filterMap
abbrev a7E := @List.any_cons
abbrev a7F := @PySem.tupleKind_room_in1
abbrev a7G := @List.getElem?_drop
abbrev a7H := @PySem.F.slot_list_index
abbrev a7I := @PySem.F.type_list_index
abbrev a7J := @PySem.Calls.callWith_builtin
abbrev a7K := @List.length_pos_of_mem
abbrev a7L := @PySem.wpAny_isOneOf_itemiter
abbrev a7M := @Array.getElem?_eq_none
abbrev a7N := @PySem.wpAny_pyIter_list
abbrev a7O := @List.flatten_cons
abbrev a7P := @Nat.lt_succ_of_lt
abbrev a7Q := @PySem.F.args_dict_itemiterator_next_1
abbrev a7R := @Nat.le_of_lt_succ
abbrev a7S := @Array.size_append
abbrev a7T := @PyProof.Rows.args_list_sort
abbrev a7U := @Nat.le_of_eq
abbrev a7V := @PyProof.Rows.plain_sorted
abbrev a7W := @PyProof.Rows.entry_sorted
abbrev a7X := @PySem.F.entry_dict_itemiterator_next
abbrev a7Y := @PySem.F.args_dict_keyiterator_next_1
abbrev a7Z := @PySem.F.args_dict_keyiterator_iter_1
abbrev a8A := @Nat.zero_add
abbrev a8B := @Nat.le_of_not_lt
abbrev a8C := @List.any_eq_true
abbrev a8D := @PySem.F.entry_dict_keyiterator_next
abbrev a8E := @PySem.F.entry_dict_keyiterator_iter
abbrev a8F := @Array.toList_map
abbrev a8G := @List.countP_cons
abbrev a8H := @Nat.le_sub_of_add_le
abbrev a8I := @List.mem_of_mem_drop
abbrev a8J := @Array.mem_toList_iff
abbrev a8K := @Int.ofNat.inj
abbrev a8L := @List.dropLast_concat_getLast
abbrev a8M := @PySem.wpAny_execs_nil
abbrev a8N := @PyProof.Rows.callWith_type1
abbrev a8O := @List.of_mem_zip
abbrev a8P := @PySem.wpAny_loadPart'
abbrev a8Q := @PySem.size_of_entries
abbrev a8R := @PySem.wpAny_raiseNew_none
abbrev a8S := @PyProof.Rows.kind_sorted
abbrev a8T := @PySem.wpAny_field
abbrev a8U := @PySem.wpAny_updateSeq
abbrev a8V := @PyProof.Rows.wpS_get
abbrev a8W := @PyProof.Rows.boot_sorted
abbrev a8X := @PySem.Calls.Name_function_global
abbrev a8Y := @Array.toList_setIfInBounds
abbrev a8Z := @Nat.add_zero
abbrev a9A := @PySem.Code.quiet_builtin
abbrev a9B := @PyProof.Rows.args_sorted1
abbrev a9C := @Nat.sub_self
abbrev a9D := @Array.Perm.mem_iff
abbrev a9E := @Int.lt_trans
abbrev a9F := @List.getElem?_take
abbrev a9G := @PyProof.Rows.listItems_at
abbrev a9H := @PySem.slot_dict_contains
abbrev a9I := @List.Nodup.sublist
abbrev a9J := @List.nodup_nil
abbrev a9K := @Option.isSome_map
abbrev a9L := @PySem.intKind_is
abbrev a9M := @PySem.wpAny_standAt
abbrev a9N := @Bool.true_and
abbrev a9O := @List.ext_getElem
abbrev a9P := @beq_self_eq_true
abbrev a9Q := @PySem.Heap.size_update
abbrev a9R := @List.map_nil
abbrev a9S := @List.foldl_cons
abbrev a9T := @Nat.add_comm
abbrev a9U := @List.nil_append
abbrev a9V := @List.length_nil
abbrev a9W := @Nat.lt_trans
abbrev a9X := @PySem.wpAny_specialOf
abbrev a9Y := @PySem.wpAny_typeOf
abbrev a9Z := @PySem.codeAny_of_tree
abbrev b0A := @PySem.wpAny_ite_split
abbrev b0B := @List.any_map
abbrev b0C := @ite_congr
abbrev b0D := @Array.Perm.refl
abbrev b0E := @Int.zero_add
abbrev b0F := @PySem.wpAny_call
abbrev b0G := @PySem.call_meets
abbrev b0H := @beq_iff_eq
abbrev b0I := @PyProof.Rows.wpS_lift
abbrev b0J := @PySem.wpAny_of_eq
abbrev b0K := @PyProof.Rows.seqEpoch_at
namespace L2
open PySem PySem.Spec PyProof.Rows
abbrev Key := Sum Int Str
def b8b : Key -> Value -> Bool
 | .inl k, v => Value.isInt k v
 | .inr x, v => Value.isStrOf x v
def keyH (w : World) : Key -> Int
 | .inl k => hashInt k
 | .inr x => hashStr w x
theorem a1q : ∀ {k : Key} {v : Value}, b8b k v = true -> (∃ i t, k = Sum.inl i /\ v = Value.int i t) ∨ (∃ x t, k = Sum.inr x /\ v = Value.str x t)
 | .inl i, v, h => by
  obtain ⟨t, e⟩ := Value.isInt_shape (k := i) (v := v) h
  exact .inl ⟨i, t, rfl, e⟩
 | .inr x, v, h => by
  obtain ⟨t, e⟩ := Value.isStrOf_shape (x := x) (v := v) h
  exact .inr ⟨x, t, rfl, e⟩
theorem b9u (i : Int) (t : Tok) : b8b (.inl i) (.int i t) = true := by simp [b8b, Value.isInt]
theorem b9v (x : Str) (t : Tok) : b8b (.inr x) (.str x t) = true := by simp [b8b, Value.isStrOf]
theorem d0g (a b : Int) : decide ((Sum.inl a : Key) = Sum.inl b) = (a == b) := by
 by_cases e : a = b
 ·subst e; simp
 ·have h : ¬ (Sum.inl a : Key) = Sum.inl b := fun q => e (Sum.inl.inj q)
  rw [a1I h]
  exact (a4X.mpr e).symm
theorem d0h (a b : Str) : decide ((Sum.inr a : Key) = Sum.inr b) = decide (a = b) := by
 by_cases e : a = b
 ·subst e; simp
 ·have h : ¬ (Sum.inr a : Key) = Sum.inr b := fun q => e (Sum.inr.inj q)
  rw [a1I h, a1I e]
theorem d0i (a : Int) (b : Str) : decide ((Sum.inl a : Key) = Sum.inr b) = false := a1I (fun q => nomatch q)
theorem d0j (a : Str) (b : Int) : decide ((Sum.inr a : Key) = Sum.inl b) = false := a1I (fun q => nomatch q)
def a1r (prog : Program) (w : World) : PySem.KeyKind prog w Key where
 is := b8b
 hash := keyH w
 inj := fun v a b ha hb => by
  rcases a1q ha with ⟨i, t, rfl, rfl⟩ | ⟨x, t, rfl, rfl⟩
  ·rcases a1q hb with ⟨j, u, rfl, e⟩ | ⟨y, u, rfl, e⟩
   ·injection e with e1 _; rw [e1]
   ·exact nomatch e
  ·rcases a1q hb with ⟨j, u, rfl, e⟩ | ⟨y, u, rfl, e⟩
   ·exact nomatch e
   ·injection e with e1 _; rw [e1]
 byValue := fun k v h => by
  rcases a1q h with ⟨i, t, rfl, rfl⟩ | ⟨x, t, rfl, rfl⟩ <;> rfl
 pyHash := fun hv h => by
  rcases a1q hv with ⟨i, t, rfl, rfl⟩ | ⟨x, t, rfl, rfl⟩
  ·exact wpAny_pyHash_int h
  ·exact wpAny_pyHash_str h
 eqBool := fun hu hv h => by
  rcases a1q hu with ⟨i, t, rfl, rfl⟩ | ⟨x, t, rfl, rfl⟩
  ·rcases a1q hv with ⟨j, u, rfl, rfl⟩ | ⟨y, u, rfl, rfl⟩
   ·rw [d0g] at h; exact wpAny_eqBool_int h
   ·rw [d0i] at h; exact SeqAt.EqAt.int_str i t y u _ _ _ _ h
  ·rcases a1q hv with ⟨j, u, rfl, rfl⟩ | ⟨y, u, rfl, rfl⟩
   ·rw [d0j] at h; exact SeqAt.EqAt.str_int x t j u _ _ _ _ h
   ·rw [d0h] at h; exact wpAny_eqBool_str h
 «strs» := fun k x t v h => by
  rcases a1q h with ⟨i, u, rfl, e⟩ | ⟨y, u, rfl, e⟩
  ·exact nomatch e
  ·injection e with e1 _
   subst e1
   cases v <;> rfl
theorem b4j (prog : Program) (w : World) (i : Int) (t : Tok) : (a1r prog w).is (.inl i) (.int i t) = true := b9u i t
theorem b4k (prog : Program) (w : World) (x : Str) (t : Tok) : (a1r prog w).is (.inr x) (.str x t) = true := b9v x t
inductive V where
 | non | bl (b : Bool) | int (i : Int) | str (x : Str) | byt (b : Array UInt8) | flt (b : UInt64) | ref (a : Addr) | ty (n : String)
 deriving DecidableEq
def RelV : V -> Value -> Prop
 | .non, u => u = Value.none
 | .bl b, u => u = Value.bool b
 | .int i, u => ∃ t, u = Value.int i t
 | .str x, u => ∃ t, u = Value.str x t
 | .byt b, u => ∃ t, u = Value.bytes b t
 | .flt b, u => ∃ t, u = Value.float b t
 | .ref a, u => u = Value.ref a
 | .ty n, u => u = Value.type n
abbrev Vals : List V -> List Value -> Prop := Paired RelV
theorem Vals.length {xs : List V} {us : List Value} (r : Vals xs us) : xs.length = us.length := a4T r
theorem Vals.get : ∀ {xs : List V} {us : List Value} {i : Nat} {x : V}, Vals xs us -> xs[i]? = some x -> ∃ u, us[i]? = some u /\ RelV x u
 | _, _, _, _, .nil, e => by simp at e
 | _, _, 0, _, .cons r _, e => by simp at e; subst e; exact ⟨_, rfl, r⟩
 | _, _, i + 1, x, .cons _ t, e => by
  obtain ⟨u, h1, h2⟩ := Vals.get (i := i) (x := x) t (by simpa using e)
  exact ⟨u, by simpa using h1, h2⟩
theorem Vals.set {x : V} {u : Value} (r : RelV x u) : ∀ {xs : List V} {us : List Value} (i : Nat), Vals xs us -> Vals (xs.set i x) (us.set i u)
 | _, _, _, .nil => .nil
 | _, _, 0, .cons _ t => .cons r t
 | _, _, i + 1, .cons q t => .cons q (Vals.set r i t)
theorem Vals.append : ∀ {xs ys : List V} {us ws : List Value}, Vals xs us -> Vals ys ws -> Vals (xs ++ ys) (us ++ ws)
 | _, _, _, _, .nil, s => s
 | _, _, _, _, .cons r t, s => .cons r (Vals.append t s)
def RelO : Option V -> Option Value -> Prop
 | some v, some u => RelV v u
 | none, none => True
 | _, _ => False
def KV {κ : Type} : List (κ × V) -> List (κ × Value) -> Prop := Paired fun (p : κ × V) (q : κ × Value) => p.1 = q.1 /\ RelV p.2 q.2
def kV : Key -> V
 | .inl i => .int i
 | .inr x => .str x
inductive HO where
 | lst (xs : List V)
 | tup (xs : List V)
 | dK (kvs : List (Key × V)) | dT (kvs : List (List Key × V))
 | set (S : Int -> Bool) (n : Nat)
 | ins (C dx : Addr) (fs : List (Str × V))
 | own (x : Addr)
 | xd (fs : List (Str × V))
 | met (f x : Addr)
 | rng (lo hi : Int)
 | frz (o : Obj) (u : HO)
 | tbl (ps : Array Value)
 | ext (φ : Heap -> Prop)
abbrev Hp := Addr -> Option HO
def upd (H : Hp) (a : Addr) (o : HO) : Hp := fun b => if b = a then some o else H b
theorem a0a {H : Hp} {a : Addr} {o : HO} : upd H a o a = some o := by unfold upd; rw [if_pos rfl]
theorem a0d {H : Hp} {a b : Addr} {o : HO} (h : b ≠ a) : upd H a o b = H b := by unfold upd; rw [if_neg h]
theorem c7y {H : Hp} {a : Addr} {o u : HO} : upd (upd H a o) a u = upd H a u := by
 funext b; unfold upd; split <;> rfl
theorem a1n {H : Hp} {a b : Addr} {o u : HO} (h : H a = some o) (h' : H b = some u) (d : o ≠ u) : a ≠ b := by
 intro e; subst e; rw [h] at h'; exact d (a1S h')
theorem a0h {H : Hp} {a b : Addr} {o : HO} (h : H a = some o) (h' : H b = none) : a ≠ b := by
 intro e; subst e; rw [h] at h'; cases h'
def TupD (h : Heap) (a : Addr) (items : Array Value) : Prop := ∃ o, h.get? a = some o /\ o.cls = .type "tuple" /\ ∃ n, o.data = .seq items n /\ o.dict = none
theorem TupD.is {h : Heap} {a : Addr} {items : Array Value} (p : TupD h a items) : IsTup h a items := let ⟨o, e, c, n, d, _⟩ := p; ⟨o, e, c, n, d⟩
theorem TupD.new (h : Heap) (items : Array Value) : TupD (h.push { cls := .type "tuple", data := .seq items }) h.objs.size items := ⟨_, a0R _ rfl, rfl, _, rfl, rfl⟩
section
variable (P : Program) (w : World)
def ObjOk (H : Hp) (h : Heap) (a : Addr) : HO -> Prop
 | .lst xs => xs.length <= sizeLine /\ ∃ (its : List Value) (n : Nat), Vals xs its /\ h.get? a = some { cls := .type "list", data := .seq its.toArray n }
 | .tup xs => xs.length <= sizeLine /\ ∃ its : List Value, Vals xs its /\ TupD h a its.toArray
 | .dK kvs => kvs.length <= sizeLine /\ (a == sysModules) = false /\ ∃ vs, KV kvs vs /\ h.DictOf (a1r P w) a vs
 | .dT kvs => kvs.length <= sizeLine /\ (a == sysModules) = false /\ ∃ xs : List (List Key × Addr × Value),
   Paired (fun (p : List Key × V) (q : List Key × Addr × Value) => p.1 = q.1 /\ H q.2.1 = some (.tup (p.1.map kV)) /\ RelV p.2 q.2.2) kvs xs /\
   ∃ o es ep, h.get? a = some o /\ o.ExactDict /\ o.data = .dict es ep /\ es.toList = xs.map (entryOfKey (tupleKind (a1r P w))) /\ (xs.map (·.1)).Nodup
 | .set S n => h.SetOf (intKind P w) a S n
 | .ins C dx fs => H dx = some (.own a) /\ fs.length <= 1000 /\ dx ≠ a /\ h.get? a = some (PySem.W.instObj C dx) /\
   ∃ mA, h.Ns1 dx mA /\ (∀ f, RelO (fs.lookup f) (mA f)) /\ PySem.Within mA (fs.map (·.1))
 | .own _ => ∃ o, h.get? a = some o
 | .xd fs => ∃ mA, h.Ns1 a mA /\ ∀ f, RelO (fs.lookup f) (mA f)
 | .rng lo hi => ∃ t u v, h.get? a = some { cls := .type "range", data := .fields #[.int lo t, .int hi u, .int 1 v] }
 | .frz o u => h.get? a = some o /\ ObjOk H h a u
 | .tbl ps => h.get? a = some { cls := .none, data := .fields ps }
 | .met f x => h.get? a = some (PySem.W.methodObj (.ref f) (.ref x))
 | .ext φ => φ h /\ (∃ o, h.get? a = some o) /\ ∀ h1 h2 : Heap, φ h1 -> (∀ o, h1.get? a = some o -> h2.get? a = some o) -> φ h2
def HOk (H : Hp) (h : Heap) : Prop := ∀ a o, H a = some o -> ObjOk P w H h a o
end
section
variable {P : Program} {w : World} {H H' : Hp} {h h' : Heap} {a : Addr} {o : HO}
theorem ObjOk.lt (x : ObjOk P w H h a o) : a < h.objs.size := by
 cases o with
 | lst xs => obtain ⟨_, _, _, _, e⟩ := x; exact a0Q e
 | tup xs => obtain ⟨_, _, _, p⟩ := x; exact p.is.lt
 | dK kvs => obtain ⟨_, _, _, _, o, _, _, e, _⟩ := x; exact a0Q e
 | dT kvs => obtain ⟨_, _, _, _, o, _, _, e, _⟩ := x; exact a0Q e
 | set S n => obtain ⟨o, _, _, _, e, _⟩ := x; exact a0Q e
 | ins C dx fs => obtain ⟨_, _, _, e, _⟩ := x; exact a0Q e
 | own y => obtain ⟨_, e⟩ := x; exact a0Q e
 | xd fs => obtain ⟨_, ⟨_, _, _, e, _⟩, _⟩ := x; exact a0Q e
 | rng lo hi => obtain ⟨_, _, _, e⟩ := x; exact a0Q e
 | frz ob u => obtain ⟨e, _⟩ := x; exact a0Q e
 | tbl ps => exact a0Q (show h.get? a = some _ from x)
 | met f y => exact a0Q (show h.get? a = some _ from x)
 | ext φ => obtain ⟨_, ⟨_, e⟩, _⟩ := x; exact a0Q e
theorem Paired.mapP {α β : Type} {F G : α -> β -> Prop} : ∀ {l₁ : List α} {l₂ : List β}, Paired F l₁ l₂ -> (∀ a b, F a b -> G a b) -> Paired G l₁ l₂
 | _, _, .nil, _ => .nil
 | _, _, .cons r t, f => .cons (f _ _ r) (Paired.mapP t f)
theorem ObjOk.stay (x : ObjOk P w H h a o) (k : ∀ b u, (b = a ∨ H b = some (.own a)) -> h.get? b = some u -> h'.get? b = some u)
  (ho : ∀ b, H b = some (.own a) -> H' b = some (.own a)) (ht : ∀ b xs, H b = some (.tup xs) -> H' b = some (.tup xs)) : ObjOk P w H' h' a o := by
 induction o with
 | lst xs => obtain ⟨z, its, n, r, e⟩ := x; exact ⟨z, its, n, r, k _ _ (.inl rfl) e⟩
 | tup xs => obtain ⟨z, its, r, ob, e, c⟩ := x; exact ⟨z, its, r, ob, k _ _ (.inl rfl) e, c⟩
 | dK kvs => obtain ⟨z, y, vs, r, ob, es, ep, e, c⟩ := x; exact ⟨z, y, vs, r, ob, es, ep, k _ _ (.inl rfl) e, c⟩
 | dT kvs =>
  obtain ⟨z, y, xs, r, ob, es, ep, e, c⟩ := x
  exact ⟨z, y, xs, Paired.mapP r fun p q z => ⟨z.1, ht _ _ z.2.1, z.2.2⟩, ob, es, ep, k _ _ (.inl rfl) e, c⟩
 | set S n => obtain ⟨ob, es, ep, t, e, c⟩ := x; exact ⟨ob, es, ep, t, k _ _ (.inl rfl) e, c⟩
 | ins C dx fs =>
  obtain ⟨d, z, ne, e, mA, ⟨od, es, ep, e2, c⟩, r⟩ := x
  exact ⟨ho _ d, z, ne, k _ _ (.inl rfl) e, mA, ⟨od, es, ep, k _ _ (.inr d) e2, c⟩, r⟩
 | own y => obtain ⟨ob, e⟩ := x; exact ⟨ob, k _ _ (.inl rfl) e⟩
 | xd fs => obtain ⟨mA, ⟨od, es, ep, e, c⟩, r⟩ := x; exact ⟨mA, ⟨od, es, ep, k _ _ (.inl rfl) e, c⟩, r⟩
 | rng lo hi => obtain ⟨t, u, v, e⟩ := x; exact ⟨t, u, v, k _ _ (.inl rfl) e⟩
 | frz ob u ih => obtain ⟨e, q⟩ := x; exact ⟨k _ _ (.inl rfl) e, ih q⟩
 | tbl ps =>
  have e : h.get? a = some { cls := .none, data := .fields ps } := x
  show h'.get? a = some { cls := .none, data := .fields ps }
  exact k a _ (.inl rfl) e
 | met f y =>
  have e : h.get? a = some (PySem.W.methodObj (.ref f) (.ref y)) := x
  show h'.get? a = some (PySem.W.methodObj (.ref f) (.ref y))
  exact k a _ (.inl rfl) e
 | ext φ => obtain ⟨p, ⟨o, e⟩, st⟩ := x; exact ⟨st _ _ p fun o q => k _ _ (.inl rfl) q, ⟨o, k _ _ (.inl rfl) e⟩, st⟩
theorem HOk.lt (x : HOk P w H h) (e : H a = some o) : a < h.objs.size := (x a o e).lt
theorem HOk.fresh (x : HOk P w H h) (e : h.objs.size <= a) : H a = none := by
 cases q : H a with
 | none => rfl
 | some u => exact absurd (a1E (x.lt q) e) (a4G _)
theorem HOk.kept (x : HOk P w H h) (k : ∀ b u, h.get? b = some u -> h'.get? b = some u) : HOk P w H h' := fun a o e =>
 (x a o e).stay (fun b u _ q => k b u q) (fun _ q => q) fun _ _ q => q
theorem HOk.laid (x : HOk P w H h) (k : ∀ b u, h.get? b = some u -> h'.get? b = some u) (hp : h.objs.size <= a) (new : ObjOk P w (upd H a o) h' a o) : HOk P w (upd H a o) h' := fun b u e => by
 have hn := x.fresh hp
 by_cases hb : b = a
 ·subst hb; rw [a0a] at e; cases e; exact new
 ·rw [a0d hb] at e
  exact (x b u e).stay (fun c v _ q => k c v q) (fun c q => by rw [a0d (a0h q hn)]; exact q) fun c xs q => by rw [a0d (a0h q hn)]; exact q
end
def Rd (H : Hp) (a : Addr) (u : HO) : Prop := H a = some u ∨ ∃ o, H a = some (.frz o u)
theorem Rd.ok {P : Program} {w : World} {H : Hp} {h : Heap} {a : Addr} {u : HO} (r : Rd H a u) (x : HOk P w H h) : ObjOk P w H h a u := by
 rcases r with r | ⟨o, r⟩
 ·exact x a u r
 ·obtain ⟨_, q⟩ := x a _ r
  exact q
def Mut : Option HO -> Prop
 | some (.lst _) => True
 | some (.dK _) => True
 | some (.dT _) => True
 | some (.set _ _) => True
 | some (.ins _ _ _) => True
 | some (.ext _) => True
 | _ => False
section
variable {P : Program} {w : World} {H : Hp} {h h' : Heap} {x e : Addr} {o' : HO}
theorem HOk.write (ok : HOk P w H h) (mu : Mut (H x)) (he : e = x ∨ H e = some (.own x)) (k : ∀ b u, b ≠ e -> h.get? b = some u -> h'.get? b = some u) (heo : ∃ u, h'.get? e = some u)
  (new : ObjOk P w (upd H x o') h' x o') : HOk P w (upd H x o') h' := fun b u q => by
 have nown : ∀ c y, H c = some (.own y) -> c ≠ x := fun c y r z => by subst z; rw [r] at mu; exact mu
 have ntup : ∀ c xs, H c = some (.tup xs) -> c ≠ x := fun c xs r z => by subst z; rw [r] at mu; exact mu
 by_cases hb : b = x
 ·subst hb; rw [a0a] at q; cases q; exact new
 ·rw [a0d hb] at q
  by_cases hbe : b = e
  ·have q' : H b = some (.own x) := by
    rcases he with z | z
    ·exact absurd (hbe.trans z) hb
    ·rw [hbe]; exact z
   rw [q] at q'; cases q'
   obtain ⟨v, hv⟩ := heo
   exact ⟨v, by rw [hbe]; exact hv⟩
  ·refine (ok b u q).stay (fun c v hc r => k c v ?_ r) (fun c r => by rw [a0d (nown c b r)]; exact r) fun c xs r => by rw [a0d (ntup c xs r)]; exact r
   rcases hc with rfl | hc
   ·exact hbe
   ·rintro rfl
    rcases he with z | z
    ·exact nown c b hc z
    ·rw [hc] at z; cases z; exact hb rfl
end
structure Un (fs ex : List Addr) (H H' : Hp) (h h' : Heap) : Prop where
 keep : ∀ b o, h.get? b = some o -> H b = none -> b ∉ fs -> b ∉ ex -> h'.get? b = some o
 slot : ∀ b o, h.get? b = some o -> H b = none -> b ∈ fs -> b ∉ ex -> ∃ sl, h'.get? b = some { o with slots := sl }
 free : ∀ b o, h.get? b = some o -> H b = none -> b ∉ ex -> H' b = none
 there : ∀ b o, h.get? b = some o -> b ∉ ex -> ∃ o', h'.get? b = some o'
 tups : ∀ b xs, H b = some (.tup xs) -> H' b = some (.tup xs)
 frzs : ∀ b o u, H b = some (.frz o u) -> H' b = some (.frz o u)
 tbls : ∀ b ps, H b = some (.tbl ps) -> ∃ more, H' b = some (.tbl (ps ++ more))
section
variable {fs fs' ex ex' : List Addr} {H H1 H2 : Hp} {h h1 h2 h' : Heap} {a x e : Addr} {o : HO}
theorem Un.any (u : Un fs ex H H1 h h1) {b : Addr} {ob : Obj} (q : h.get? b = some ob) (n : H b = none) (hx : b ∉ ex) : ∃ sl, h1.get? b = some { ob with slots := sl } := by
 by_cases hb : b ∈ fs
 ·exact u.slot b ob q n hb hx
 ·exact ⟨ob.slots, u.keep b ob q n hb hx⟩
theorem Un.kept (k : ∀ b u, h.get? b = some u -> h'.get? b = some u) : Un fs ex H H h h' :=
 ⟨fun b ob q _ _ _ => k b ob q, fun b ob q _ _ _ => ⟨ob.slots, k b ob q⟩, fun _ _ _ n _ => n, fun b ob q _ => ⟨ob, k b ob q⟩, fun _ _ q => q, fun _ _ _ q => q, fun _ ps q => ⟨#[], by rw [q]; simp⟩⟩
theorem Un.refl : Un fs ex H H h h := Un.kept fun _ _ q => q
theorem Un.laid (k : ∀ b u, h.get? b = some u -> h'.get? b = some u) (hp : h.objs.size <= a) (hn : H a = none) : Un fs ex H (upd H a o) h h' where
 keep := fun b u q _ _ _ => k b u q
 slot := fun b u q _ _ _ => ⟨u.slots, k b u q⟩
 free := fun b u q n _ => by rw [a0d (a1J (a1E (a0Q q) hp))]; exact n
 there := fun b u q _ => ⟨u, k b u q⟩
 tups := fun b xs q => by rw [a0d (a0h q hn)]; exact q
 frzs := fun b u xs q => by rw [a0d (a0h q hn)]; exact q
 tbls := fun b ps q => ⟨#[], by rw [a0d (a0h q hn), q]; simp⟩
theorem Un.write (mu : Mut (H x)) (he : e = x ∨ H e = some (.own x)) (k : ∀ b u, b ≠ e -> h.get? b = some u -> h'.get? b = some u) (heo : ∃ u, h'.get? e = some u) : Un fs ex H (upd H x o) h h' := by
 have hx : ∀ b, H b = none -> b ≠ x := fun b n z => by subst z; rw [n] at mu; exact mu
 have hb : ∀ b, H b = none -> b ≠ e := fun b n z => by
  subst z
  rcases he with r | r
  ·exact hx b n r
  ·rw [n] at r; cases r
 have hm : ∀ b u, H b = some u -> ¬ Mut (some u) -> b ≠ x := fun b u q nm z => by subst z; rw [q] at mu; exact nm mu
 refine ⟨fun b u q n _ _ => k b u (hb b n) q, fun b u q n _ _ => ⟨u.slots, k b u (hb b n) q⟩, fun b u q n _ => by rw [a0d (hx b n)]; exact n, fun b u q _ => ?_,
  fun b xs q => by rw [a0d (hm b _ q fun z => z)]; exact q, fun b u xs q => by rw [a0d (hm b _ q fun z => z)]; exact q, fun b ps q => ⟨#[], by rw [a0d (hm b _ q fun z => z), q]; simp⟩⟩
 by_cases hbe : b = e
 ·subst hbe; exact heo
 ·exact ⟨u, k b u hbe q⟩
end
def trk (h : Heap) (H : Hp) : List Addr := (List.range h.objs.size).filter fun a => (H a).isSome
def c4k (h : Heap) (H : Hp) : Heap := PySem.W.hideAll h (trk h H)
theorem b9w (h : Heap) (H : Hp) : (c4k h H).objs.size = h.objs.size := PySem.W.hideAll_size _ _
theorem b0u {h : Heap} {H : Hp} {b : Addr} {o : Obj} (e : h.get? b = some o) (n : H b = none) : (c4k h H).get? b = some o :=
 PySem.W.hideAll_get _ e fun hm => by
  have q : (H b).isSome = true := (a1F.mp hm).2
  rw [n] at q; simp at q
theorem c7z {h : Heap} {H : Hp} {b : Addr} {o : Obj} (e : (c4k h H).get? b = some o) : h.get? b = some o /\ H b = none := by
 have e' : h.get? b = some o := PySem.W.of_hideAll (trk h H) e
 refine ⟨e', ?_⟩
 cases q : H b with
 | none => rfl
 | some x =>
  have hm : b ∈ trk h H := a1F.mpr ⟨a2G.mpr (a0Q e'), by simp [q]⟩
  have z : (c4k h H).get? b = none := PySem.W.hideAll_none (trk h H) hm
  rw [z] at e; cases e
def c8a (g h : Heap) (L : Addr) : List (Addr × Obj) := (List.range h.objs.size).filterMap fun a => if a = L ∨ (g.get? a).isSome = true then none else (h.get? a).map fun o => (a, o)
def rest (g h : Heap) (L d : Addr) : List (Addr × Obj) := (c8a g h L).filter fun p => decide (p.1 ≠ d)
structure Mod (K : W.Frag) (mg : Str -> Option Value) (base : Heap) : Prop where
 kin : K.In base
 glob : base.Ns mainGlobals mg
 blt : ∃ mb, base.Ns builtinsNs mb /\ ∀ x : Str, x ≠ "__name__" -> mb x = bootBuiltins x
 nolimit : base.NoLimit
/-- the context: a def's body (or a comprehension's block) running. base: fixed through the whole law; s₀, H₀: the entry; outer: the frames whose slots others may change (a def's callers); stack: all frames that run;
   ex: iterators that were made ahead of the entry and are walked here (a comprehension's); fn: the names whose cells were made at the entry (a def: all; a comprehension's block: its own); calm: not within an except suite; pn: pins that every state bears; xe: what is wanted of an exception that leaves the code -/
structure Cx where
 prog : Program
 w : World
 K : W.Frag
 mg : Str -> Option Value
 base : Heap
 A : Around
 N : List Str
 s₀ : Shared
 H₀ : Hp
 env : Env
 outer : List Env
 stack : List Env
 ex : List Addr
 fn : Str -> Bool
 calm : Bool
 pn : List (Addr × Obj)
 xe : Value -> Shared -> Prop
def frs (l : List Env) : List Addr := l.filterMap (·.frame)
abbrev Cx.fs (X : Cx) : List Addr := frs X.outer
def Vis (sc : Scope) (x : Str) : Prop := sc.names.lookup x = some .local ∨ sc.names.lookup x = some .cell ∨ sc.names.lookup x = some .free
def Loc (sc : Scope) (x : Str) : Prop := sc.names.lookup x = some .local ∨ sc.names.lookup x = some .cell
def Look (env : Env) (h : Heap) (m : Str -> Option Value) (x : Str) (u : Value) : Prop :=
 (env.kindOf x = some .local /\ m x = some u) ∨ ((env.kindOf x = some .cell ∨ env.kindOf x = some .free) /\ ∃ c, env.cells.lookup x = some c /\ h.IsCell c (some u))
structure Cx.Ok (X : Cx) : Prop where
 mod : Mod X.K X.mg X.base
 kind : X.env.scope.kind = .function
 glob : X.env.globals = mainGlobals
 blt : X.env.builtins = builtinsNs
 above : X.s₀.heap.objs.size <= X.env.locals
 inj : ∀ x y c, X.env.cells.lookup x = some c -> X.env.cells.lookup y = some c -> x = y
 has : ∀ x, (X.env.kindOf x = some .cell ∨ X.env.kindOf x = some .free) -> ∃ c, X.env.cells.lookup x = some c
 cab : ∀ x c, X.fn x = true -> X.env.cells.lookup x = some c -> X.s₀.heap.objs.size <= c
 hd : X.calm = true -> X.A.handled = none
 frames : X.A.frames = some X.stack
 stk : X.stack = X.outer ∨ (X.stack = X.env :: X.outer /\ X.env.frame = some X.env.locals)
 exf : ∀ b ∈ X.ex, b ≠ X.env.locals /\ ∀ x c, X.env.cells.lookup x = some c -> c ≠ b
 bs : ∀ b o, X.base.get? b = some o -> X.s₀.heap.get? b = some o /\ X.H₀ b = none
 bsz : X.base.objs.size <= X.s₀.heap.objs.size
 noex : ∀ b o, X.base.get? b = some o -> b ∉ X.ex
 exfs : ∀ b ∈ X.ex, b ∉ X.fs
 funs : X.s₀.heap.FunFrames X.base X.outer
 frf : ∀ b ∈ X.fs, X.H₀ b = none
structure Inv (X : Cx) (pins : List (Addr × Obj)) (σ : List (Option V)) (H : Hp) (s : Shared) : Prop where
 ok : X.Ok
 os : s.os = X.s₀.os
 bare : AllBare s.gens
 base : Un X.fs X.ex X.H₀ H X.s₀.heap s.heap
 loc : ∃ m, s.heap.Ns X.env.locals m /\ ∀ (i : Nat) (x : Str) (v : V), X.N[i]? = some x -> σ[i]? = some (some v) -> Vis X.env.scope x -> ∃ u, RelV v u /\ Look X.env s.heap m x u
 cell : ∀ x c, X.env.cells.lookup x = some c -> ∃ v, s.heap.IsCell c v
 free : H X.env.locals = none
 freeC : ∀ x c, X.env.cells.lookup x = some c -> H c = none
 pin : ∀ p ∈ X.pn ++ pins, s.heap.get? p.1 = some p.2 /\ H p.1 = none /\ p.1 ≠ X.env.locals /\ p.1 ∉ X.fs /\ ∀ v, p.2.data ≠ .cell v
 hok : HOk X.prog X.w H s.heap
 len : σ.length = X.N.length
section
variable {X : Cx} {pins : List (Addr × Obj)} {σ : List (Option V)} {H H' : Hp} {s : Shared} {h' : Heap}
theorem Cx.Ok.nofr (ok : X.Ok) {b : Addr} {o : Obj} (e : X.base.get? b = some o) : b ∉ X.fs := fun hb => by
 have := (ok.funs.mem hb).1
 rw [e] at this; cases this
theorem Inv.bs (I : Inv X pins σ H s) : ∀ b o, X.base.get? b = some o -> s.heap.get? b = some o /\ H b = none := fun b o e =>
 ⟨I.base.keep b o (I.ok.bs b o e).1 (I.ok.bs b o e).2 (I.ok.nofr e) (I.ok.noex b o e), I.base.free b o (I.ok.bs b o e).1 (I.ok.bs b o e).2 (I.ok.noex b o e)⟩
theorem Inv.bk (I : Inv X pins σ H s) : ∀ b o, X.base.get? b = some o -> s.heap.get? b = some o := fun b o e => (I.bs b o e).1
theorem Inv.mod (I : Inv X pins σ H s) : Mod X.K X.mg X.base := I.ok.mod
theorem Inv.kIn (I : Inv X pins σ H s) : X.K.In s.heap := I.ok.mod.kin.keeps I.bk
theorem Inv.lt (I : Inv X pins σ H s) : X.env.locals < s.heap.objs.size := let ⟨_, hn, _⟩ := I.loc; hn.lt
theorem Inv.sz (I : Inv X pins σ H s) : X.s₀.heap.objs.size <= s.heap.objs.size := a1A I.ok.above (a3G I.lt)
theorem Inv.nofs (I : Inv X pins σ H s) {a : Addr} (h : s.heap.objs.size <= a) : a ∉ X.fs := fun hb => by
 obtain ⟨_, o, ho, _⟩ := I.ok.funs.mem hb
 exact absurd (a1E (a0Q ho) (a1A I.sz h)) (a4G _)
theorem Inv.cne (I : Inv X pins σ H s) : ∀ x c, X.env.cells.lookup x = some c -> c ≠ X.env.locals := fun x c e z => by
 obtain ⟨v, o, ho, hd⟩ := I.cell x c e
 obtain ⟨m, ⟨o', es, ep, ho', hd', _⟩, _⟩ := I.loc
 rw [z, ho'] at ho; cases ho; rw [hd'] at hd; cases hd
theorem Inv.funs (I : Inv X pins σ H s) : s.heap.FunFrames X.base X.outer := by
 have all : ∀ (l : List Env), (∀ b ∈ frs l, b ∈ X.fs) -> X.s₀.heap.FunFrames X.base l -> s.heap.FunFrames X.base l := by
  intro l
  induction l with
  | nil => intro _ _; trivial
  | cons env r ih =>
   intro hs hl
   obtain ⟨hk, ⟨L, o, hf, hn, ho, hd⟩, hr⟩ := hl
   have hL : L ∈ X.fs := hs L (by unfold frs; rw [List.filterMap_cons, hf]; exact List.mem_cons_self)
   obtain ⟨sl, e⟩ := I.base.slot L o ho (I.ok.frf L hL) hL fun z => I.ok.exfs L z hL
   exact ⟨hk, ⟨L, _, hf, hn, e, hd⟩, ih (fun b hb => hs b (by unfold frs; rw [List.filterMap_cons, hf]; exact List.mem_cons_of_mem _ hb)) hr⟩
 exact all X.outer (fun _ hb => hb) I.ok.funs
theorem Inv.stack (I : Inv X pins σ H s) : s.heap.FunFrames X.base X.stack := by
 rcases I.ok.stk with e | ⟨e, hf⟩
 ·rw [e]; exact I.funs
 ·rw [e]
  obtain ⟨m, hn, _⟩ := I.loc
  refine .cons (by rw [I.ok.kind]; decide) hf hn ?_ I.funs
  exact Heap.get?_none_of_le (a1A I.ok.bsz I.ok.above)
theorem Inv.stkSub (I : Inv X pins σ H s) : ∀ b ∈ frs X.stack, b ∈ X.env.locals :: X.fs := fun b hb => by
 rcases I.ok.stk with e | ⟨e, hf⟩
 ·rw [e] at hb; exact a0V _ hb
 ·rw [e] at hb
  unfold frs at hb
  rw [List.filterMap_cons, hf] at hb
  exact hb
theorem Inv.stkFree (I : Inv X pins σ H s) : ∀ b ∈ frs X.stack, H b = none := fun b hb => by
 rcases a1H.mp (I.stkSub b hb) with e | hb
 ·rw [e]; exact I.free
 ·obtain ⟨_, o, ho, _⟩ := I.ok.funs.mem hb
  exact I.base.free b o ho (I.ok.frf b hb) fun z => I.ok.exfs b z hb
theorem Inv.step {g' : Array GenState} {t' : Nat} {d' : Drawn} {ch : List Addr} (I : Inv X pins σ H s)
  (hch : ∀ b ∈ ch, (b ∈ X.ex ∨ X.s₀.heap.objs.size <= b) /\ b ≠ X.env.locals /\ (∀ x c, X.env.cells.lookup x = some c -> c ≠ b) /\ ∀ p ∈ X.pn ++ pins, p.1 ≠ b)
  (keep : ∀ b o, b ≠ X.env.locals -> b ∉ X.fs -> b ∉ ch -> s.heap.get? b = some o -> H b = none -> h'.get? b = some o)
  (slot : ∀ b o, b ≠ X.env.locals -> b ∈ X.fs -> b ∉ ch -> s.heap.get? b = some o -> H b = none -> ∃ sl, h'.get? b = some { o with slots := sl }) (free : ∀ b o, b ∉ ch -> s.heap.get? b = some o -> H b = none -> H' b = none)
  (there : ∀ b o, b ∉ ch -> s.heap.get? b = some o -> ∃ o', h'.get? b = some o')
  (tups : ∀ b xs, H b = some (.tup xs) -> H' b = some (.tup xs)) (frzs : ∀ b o u, H b = some (.frz o u) -> H' b = some (.frz o u)) (tbls : ∀ b ps, H b = some (.tbl ps) -> ∃ more, H' b = some (.tbl (ps ++ more)))
  (ns : ∀ m, s.heap.Ns X.env.locals m -> h'.Ns X.env.locals m) (hok : HOk X.prog X.w H' h') (hg : AllBare g') :
  Inv X pins σ H' { s with heap := h', gens := g', drawn := d', toks := t' } := by
 have neL : ∀ b o, X.s₀.heap.get? b = some o -> b ≠ X.env.locals := fun b o e => a1J (a1E (a0Q e) I.ok.above)
 have neC : ∀ b o, X.s₀.heap.get? b = some o -> b ∉ X.ex -> b ∉ ch := fun b o e hx hb => by
  rcases (hch b hb).1 with z | z
  ·exact hx z
  ·exact absurd (a1E (a0Q e) z) (a4G _)
 have cellK : ∀ x c, X.env.cells.lookup x = some c -> ∀ v, s.heap.IsCell c v -> h'.IsCell c v := fun x c e v ⟨o, ho, hd⟩ => by
  have nch : c ∉ ch := fun z => (hch c z).2.2.1 x c e rfl
  by_cases hc : c ∈ X.fs
  ·obtain ⟨sl, q⟩ := slot c o (I.cne x c e) hc nch ho (I.freeC x c e)
   exact ⟨_, q, hd⟩
  ·exact ⟨o, keep c o (I.cne x c e) hc nch ho (I.freeC x c e), hd⟩
 refine ⟨I.ok, I.os, hg, ⟨fun b o e n hb hx => ?_, fun b o e n hb hx => ?_, fun b o e n hx => ?_, fun b o e hx => ?_, fun b xs e => tups b xs (I.base.tups b xs e), fun b o xs e => frzs b o xs (I.base.frzs b o xs e), fun b ps e => ?_⟩, ?_, fun x c e => ?_, ?_, fun x c e => ?_, fun p hp => ?_, hok, I.len⟩
 ·exact keep b o (neL b o e) hb (neC b o e hx) (I.base.keep b o e n hb hx) (I.base.free b o e n hx)
 ·obtain ⟨sl, e1⟩ := I.base.slot b o e n hb hx
  obtain ⟨sl', e2⟩ := slot b _ (neL b o e) hb (neC b o e hx) e1 (I.base.free b o e n hx)
  exact ⟨sl', e2⟩
 ·obtain ⟨o', e1⟩ := I.base.there b o e hx
  exact free b o' (neC b o e hx) e1 (I.base.free b o e n hx)
 ·obtain ⟨o', e1⟩ := I.base.there b o e hx
  exact there b o' (neC b o e hx) e1
 ·obtain ⟨m1, e1⟩ := I.base.tbls b ps e
  obtain ⟨m2, e2⟩ := tbls b _ e1
  exact ⟨m1 ++ m2, by rw [e2, Array.append_assoc]⟩
 ·obtain ⟨m, hn, hl⟩ := I.loc
  refine ⟨m, ns m hn, fun i x v e1 e2 e3 => ?_⟩
  obtain ⟨u, r, l⟩ := hl i x v e1 e2 e3
  refine ⟨u, r, ?_⟩
  rcases l with l | ⟨k, c, e, z⟩
  ·exact .inl l
  ·exact .inr ⟨k, c, e, cellK x c e _ z⟩
 ·obtain ⟨v, z⟩ := I.cell x c e
  exact ⟨v, cellK x c e v z⟩
 ·obtain ⟨m, ⟨o, _, _, ho, _⟩, _⟩ := I.loc
  exact free _ o (fun z => (hch _ z).2.1 rfl) ho I.free
 ·obtain ⟨v, o, ho, hd⟩ := I.cell x c e
  exact free c o (fun z => (hch c z).2.2.1 x c e rfl) ho (I.freeC x c e)
 ·obtain ⟨e, n, ne, nf, d⟩ := I.pin p hp
  have nch : p.1 ∉ ch := fun z => (hch p.1 z).2.2.2 p hp rfl
  exact ⟨keep p.1 p.2 ne nf nch e n, free p.1 p.2 nch e n, ne, nf, d⟩
theorem Inv.un {t' : Nat} (I : Inv X pins σ H s) (u : Un X.fs [] H H' s.heap h') (hok : HOk X.prog X.w H' h') : Inv X pins σ H' { s with heap := h', toks := t' } := by
 obtain ⟨m, ⟨o, es, ep, ho, r⟩, _⟩ := id I.loc
 obtain ⟨sl, hL⟩ := u.any ho I.free (by simp)
 exact I.step (g' := s.gens) (d' := s.drawn) (ch := []) (fun _ z => nomatch z) (fun b o _ hb _ e n => u.keep b o e n hb (by simp)) (fun b o _ hb _ e n => u.slot b o e n hb (by simp)) (fun b o _ e n => u.free b o e n (by simp)) (fun b o _ e => u.there b o e (by simp)) u.tups u.frzs u.tbls (fun m' hm => by
  obtain ⟨o', es', ep', ho', r'⟩ := hm
  rw [ho] at ho'; cases ho'
  exact ⟨_, es', ep', hL, r'⟩) hok I.bare
theorem Inv.call {g' : Array GenState} {t' : Nat} {d' : Drawn} {ch : List Addr} (I : Inv X pins σ H s) (u : Un (frs X.stack) ch H H' s.heap h') (hok : HOk X.prog X.w H' h') (hg : AllBare g')
  (hch : ∀ b ∈ ch, (b ∈ X.ex ∨ X.s₀.heap.objs.size <= b) /\ b ≠ X.env.locals /\ (∀ x c, X.env.cells.lookup x = some c -> c ≠ b) /\ ∀ p ∈ X.pn ++ pins, p.1 ≠ b) :
  Inv X pins σ H' { s with heap := h', gens := g', drawn := d', toks := t' } := by
 obtain ⟨m, ⟨o, es, ep, ho, r⟩, _⟩ := id I.loc
 obtain ⟨sl, hL⟩ := u.any ho I.free fun z => (hch _ z).2.1 rfl
 exact I.step (ch := ch) hch (fun b o hL hb hc e n => u.keep b o e n (fun z => (a1H.mp (I.stkSub b z)).elim hL hb) hc) (fun b o _ _ hc e n => u.any e n hc) (fun b o hc e n => u.free b o e n hc) (fun b o hc e => u.there b o e hc) u.tups u.frzs u.tbls (fun m' hm => by
  obtain ⟨o', es', ep', ho', r'⟩ := hm
  rw [ho] at ho'; cases ho'
  exact ⟨_, es', ep', hL, r'⟩) hok hg
theorem Inv.turned {t' : Nat} {it : Addr} (I : Inv X pins σ H s) (k : ∀ b o, b ≠ it -> s.heap.get? b = some o -> h'.get? b = some o) (hn : H it = none) (hL : it ≠ X.env.locals)
  (h1 : it ∈ X.ex ∨ X.s₀.heap.objs.size <= it) (h2 : ∀ x c, X.env.cells.lookup x = some c -> c ≠ it) (h3 : ∀ p ∈ X.pn ++ pins, p.1 ≠ it) : Inv X pins σ H { s with heap := h', toks := t' } := by
 have nit : ∀ b u, H b = some u -> b ≠ it := fun b u e z => by rw [z, hn] at e; cases e
 refine I.step (g' := s.gens) (d' := s.drawn) (ch := [it]) (fun b hb => ?_) (fun b o _ _ hc e _ => k b o (fun z => hc (by simp [z])) e) (fun b o _ _ hc e _ => ⟨o.slots, k b o (fun z => hc (by simp [z])) e⟩) (fun _ _ _ _ n => n)
  (fun b o hc e => ⟨o, k b o (fun z => hc (by simp [z])) e⟩) (fun _ _ e => e) (fun _ _ _ e => e) (fun b ps e => ⟨#[], by rw [e]; simp⟩) (fun m hm => ?_) (fun b u e => ?_) I.bare
 ·have e : b = it := by simpa using hb
  subst e
  exact ⟨h1, hL, h2, h3⟩
 ·obtain ⟨o, es, ep, ho, r⟩ := hm
  exact ⟨o, es, ep, k _ o (a3R hL) ho, r⟩
 ·refine (I.hok b u e).stay (fun c v hc q => k c v ?_ q) (fun _ q => q) fun _ _ q => q
  rcases hc with z | z
  ·rw [z]; exact nit b u e
  ·exact nit c _ z
theorem Inv.tok (I : Inv X pins σ H s) (t : Nat) : Inv X pins σ H { s with toks := t } := I.un (h' := s.heap) (t' := t) Un.refl I.hok
theorem Inv.kept {t' : Nat} (I : Inv X pins σ H s) (k : ∀ b u, s.heap.get? b = some u -> h'.get? b = some u) : Inv X pins σ H { s with heap := h', toks := t' } := I.un (Un.kept k) (I.hok.kept k)
theorem Inv.laid {a : Addr} {o : HO} {t' : Nat} (I : Inv X pins σ H s) (k : ∀ b u, s.heap.get? b = some u -> h'.get? b = some u) (hp : s.heap.objs.size <= a) (new : ObjOk X.prog X.w (upd H a o) h' a o) :
  Inv X pins σ (upd H a o) { s with heap := h', toks := t' } := I.un (Un.laid k hp (I.hok.fresh hp)) (I.hok.laid k hp new)
theorem Inv.write {x e : Addr} {o : HO} {t' : Nat} (I : Inv X pins σ H s) (mu : Mut (H x)) (he : e = x ∨ H e = some (.own x)) (k : ∀ b u, b ≠ e -> s.heap.get? b = some u -> h'.get? b = some u) (heo : ∃ u, h'.get? e = some u)
  (new : ObjOk X.prog X.w (upd H x o) h' x o) : Inv X pins σ (upd H x o) { s with heap := h', toks := t' } := I.un (Un.write mu he k heo) (I.hok.write mu he k heo new)
theorem Inv.weak {σ' : List (Option V)} (I : Inv X pins σ H s) (hl : σ'.length = σ.length) (w : ∀ (i : Nat) v, σ'[i]? = some (some v) -> σ[i]? = some (some v)) : Inv X pins σ' H s :=
 ⟨I.ok, I.os, I.bare, I.base, let ⟨m, hn, hl'⟩ := I.loc; ⟨m, hn, fun i x v e1 e2 e3 => hl' i x v e1 (w i v e2) e3⟩, I.cell, I.free, I.freeC, I.pin, I.hok, hl.trans I.len⟩
theorem Inv.pins_of {pins' : List (Addr × Obj)} (I : Inv X pins σ H s) (h : ∀ p ∈ pins', s.heap.get? p.1 = some p.2 /\ H p.1 = none /\ p.1 ≠ X.env.locals /\ p.1 ∉ X.fs /\ ∀ v, p.2.data ≠ .cell v) : Inv X pins' σ H s :=
 ⟨I.ok, I.os, I.bare, I.base, I.loc, I.cell, I.free, I.freeC, fun p hp => (a0K.mp hp).elim (fun z => I.pin p (a3A _ z)) (h p), I.hok, I.len⟩
theorem b5x {N : List Str} (hN : N.Nodup) {i j : Nat} {x : Str} (a : N[i]? = some x) (b : N[j]? = some x) : i = j := by
 obtain ⟨h1, e1⟩ := a0B.mp a
 obtain ⟨h2, e2⟩ := a0B.mp b
 exact (List.getElem_inj hN).mp (e1.trans e2.symm)
theorem b2g {M : Model} {A : Around} {E : Value -> Shared -> Prop} {i : Nat} {x : Str} {v : V} {u : Value} {Q : Unit -> Shared -> Prop} (I : Inv X pins σ H s) (hN : X.N.Nodup) (hi : X.N[i]? = some x) (hx : Loc X.env.scope x) (r : RelV v u)
  (h : ∀ s', Inv X pins (σ.set i (some v)) H s' -> (∃ a, Heap.SameBut a s.heap s'.heap /\ (a = X.env.locals ∨ X.env.cells.lookup x = some a)) -> Q () s') (hf : X.fn x = true ∨ X.env.scope.names.lookup x = some .local := by first | exact .inl rfl | exact .inr rfl | assumption) : wpAny M A (storeName X.env x u) Q E s := by
 obtain ⟨m, hn, hl⟩ := id I.loc
 have hcls : (X.env.scope.kind == .class || (X.env.scope.kind == .module && X.env.locals != X.env.globals)) = false := by rw [I.ok.kind]; rfl
 have hiσ : i < σ.length := by rw [I.len]; exact (a0B.mp hi).1
 have cne := I.cne
 have tracked : ∀ {a : Addr} {h' : Heap}, (∃ o, s.heap.get? a = some o /\ H a = none) -> Heap.SameBut a s.heap h' -> HOk X.prog X.w H h' := fun {a h'} ha hs b ob e => by
  obtain ⟨_, _, hfree⟩ := ha
  refine (I.hok b ob e).stay (fun c w' hc q => (hs.2 c ?_).trans q) (fun _ q => q) fun _ _ q => q
  rintro rfl
  rcases hc with rfl | hc
  ·rw [hfree] at e; cases e
  ·rw [hfree] at hc; cases hc
 rcases hx with hk | hk
 ·refine wpAny_storeName_local hk hn (fun h' hn' hs => ?_) hcls
  obtain ⟨oL, _, _, hoL, _⟩ := id hn
  refine h _ ⟨I.ok, I.os, I.bare, ⟨fun b o e n hb hx => ?_, fun b o e n hb hx => ?_, I.base.free, fun b o e hx => ?_, I.base.tups, I.base.frzs, I.base.tbls⟩, ⟨_, hn', fun j y v' e1 e2 e3 => ?_⟩, fun y c e => ?_, I.free, I.freeC, fun p hp => ?_, tracked ⟨oL, hoL, I.free⟩ hs, by simpa using I.len⟩ ⟨_, hs, .inl rfl⟩
  ·exact (hs.2 b (a1J (a1E (a0Q e) I.ok.above))).trans (I.base.keep b o e n hb hx)
  ·obtain ⟨sl, e1⟩ := I.base.slot b o e n hb hx
   exact ⟨sl, (hs.2 b (a1J (a1E (a0Q e) I.ok.above))).trans e1⟩
  ·obtain ⟨o', e1⟩ := I.base.there b o e hx
   exact ⟨o', (hs.2 b (a1J (a1E (a0Q e) I.ok.above))).trans e1⟩
  ·by_cases hj : j = i
   ·subst hj
    rw [hi] at e1; cases e1
    rw [List.getElem?_set_self hiσ] at e2
    cases e2
    exact ⟨u, r, .inl ⟨hk, by simp⟩⟩
   ·rw [List.getElem?_set_ne (a3R hj)] at e2
    obtain ⟨u', r', q⟩ := hl j y v' e1 e2 e3
    refine ⟨u', r', ?_⟩
    rcases q with ⟨k, e⟩ | ⟨k, c, e, z⟩
    ·refine .inl ⟨k, ?_⟩
     have : y ≠ x := fun e => hj (b5x hN e1 (e ▸ hi))
     simp [this, e]
    ·exact .inr ⟨k, c, e, z.sameBut hs (cne y c e)⟩
  ·obtain ⟨w', z⟩ := I.cell y c e
   exact ⟨w', z.sameBut hs (cne y c e)⟩
  ·obtain ⟨e, n, ne, nf, d⟩ := I.pin p hp
   exact ⟨(hs.2 p.1 ne).trans e, n, ne, nf, d⟩
 ·have hfn : X.fn x = true := by
   rcases hf with z | z
   ·exact z
   ·rw [z] at hk; cases hk
  obtain ⟨c, hc⟩ := I.ok.has x (.inl hk)
  obtain ⟨w', z⟩ := I.cell x c hc
  refine wpAny_storeName_cell I.ok.kind hk hc z (fun h' hc' hs => ?_)
  obtain ⟨oc, hoc, hocd⟩ := id z
  refine h { s with heap := h' } ⟨I.ok, I.os, I.bare, ⟨fun b o e n hb hx => ?_, fun b o e n hb hx => ?_, I.base.free, fun b o e hx => ?_, I.base.tups, I.base.frzs, I.base.tbls⟩, ⟨m, hn.sameBut hs (a3R (cne x c hc)), fun j y v' e1 e2 e3 => ?_⟩, fun y c' e => ?_, I.free, I.freeC, fun p hp => ?_, tracked ⟨oc, hoc, I.freeC x c hc⟩ hs, by simpa using I.len⟩ ⟨c, hs, .inr hc⟩
  ·exact (hs.2 b (a1J (a1E (a0Q e) (I.ok.cab x c hfn hc)))).trans (I.base.keep b o e n hb hx)
  ·obtain ⟨sl, e1⟩ := I.base.slot b o e n hb hx
   exact ⟨sl, (hs.2 b (a1J (a1E (a0Q e) (I.ok.cab x c hfn hc)))).trans e1⟩
  ·obtain ⟨o', e1⟩ := I.base.there b o e hx
   exact ⟨o', (hs.2 b (a1J (a1E (a0Q e) (I.ok.cab x c hfn hc)))).trans e1⟩
  ·by_cases hj : j = i
   ·subst hj
    rw [hi] at e1; cases e1
    rw [List.getElem?_set_self hiσ] at e2
    cases e2
    exact ⟨u, r, .inr ⟨.inl hk, c, hc, hc'⟩⟩
   ·rw [List.getElem?_set_ne (a3R hj)] at e2
    obtain ⟨u', r', q⟩ := hl j y v' e1 e2 e3
    refine ⟨u', r', ?_⟩
    rcases q with q | ⟨k, c', e, z'⟩
    ·exact .inl q
    ·refine .inr ⟨k, c', e, z'.sameBut hs ?_⟩
     rintro rfl
     exact hj (b5x hN e1 (I.ok.inj _ _ _ e hc ▸ hi))
  ·by_cases hcc : c' = c
   ·subst hcc; exact ⟨_, hc'⟩
   ·obtain ⟨w2, z2⟩ := I.cell y c' e
    exact ⟨w2, z2.sameBut hs hcc⟩
  ·obtain ⟨e, n, ne, nf, d⟩ := I.pin p hp
   refine ⟨(hs.2 p.1 ?_).trans e, n, ne, nf, d⟩
   intro q
   rw [q, hoc] at e
   have q' : oc = p.2 := a1S e
   exact d w' (by rw [<- q']; exact hocd)
theorem b5y {M : Model} {A : Around} {E : Value -> Shared -> Prop} {i : Nat} {x : Str} {v : V} {u : Value} {Q : Unit -> Shared -> Prop} (I : Inv X pins σ H s) (hN : X.N.Nodup) (hi : X.N[i]? = some x) (hx : Loc X.env.scope x) (r : RelV v u)
  (h : ∀ s', Inv X pins (σ.set i (some v)) H s' -> Q () s') (hf : X.fn x = true ∨ X.env.scope.names.lookup x = some .local := by first | exact .inl rfl | exact .inr rfl | assumption) : wpAny M A (storeName X.env x u) Q E s :=
 b2g I hN hi hx r (fun s' I' _ => h s' I') hf
theorem Inv.call' {s' : Shared} {ch : List Addr} (I : Inv X pins σ H s) (ho : s'.os = s.os) (u : Un (frs X.stack) ch H H' s.heap s'.heap) (hok : HOk X.prog X.w H' s'.heap) (hg : AllBare s'.gens)
  (hch : ∀ b ∈ ch, (b ∈ X.ex ∨ X.s₀.heap.objs.size <= b) /\ b ≠ X.env.locals /\ (∀ x c, X.env.cells.lookup x = some c -> c ≠ b) /\ ∀ p ∈ X.pn ++ pins, p.1 ≠ b) : Inv X pins σ H' s' := by
 obtain ⟨h', g', d', t', o'⟩ := s'
 have e : o' = s.os := ho
 subst e
 exact I.call (g' := g') (t' := t') (d' := d') u hok hg hch
end
abbrev XK := Value -> Option Addr -> Hp -> Prop
abbrev St := List (Option V)
abbrev VK := V -> Hp -> Prop
abbrev TE := St -> Hp -> VK -> Prop
abbrev TT := St -> Hp -> (Bool -> Hp -> Prop) -> Prop
abbrev TA := St -> Hp -> (List V -> Hp -> Prop) -> Prop
structure Ends where
 nx : St -> Hp -> Prop
 rt : VK
 bk : St -> Hp -> Prop := fun _ _ => False
 ct : St -> Hp -> Prop := fun _ _ => False
abbrev TS := Ends -> St -> Hp -> Prop
def EP (X : Cx) (pins : List (Addr × Obj)) (σ : St) (Q : VK) (u : Value) (s' : Shared) : Prop := ∃ v H', Inv X pins σ H' s' /\ RelV v u /\ Q v H'
def TP (X : Cx) (pins : List (Addr × Obj)) (σ : St) (Q : Bool -> Hp -> Prop) (b : Bool) (s' : Shared) : Prop := ∃ H', Inv X pins σ H' s' /\ Q b H'
def AP (X : Cx) (pins : List (Addr × Obj)) (σ : St) (Q : List V -> Hp -> Prop) (us : List Value) (s' : Shared) : Prop := ∃ vs H', Inv X pins σ H' s' /\ Vals vs us /\ Q vs H'
def SP (X : Cx) (pins : List (Addr × Obj)) (D : Ends) (f : Flow) (s' : Shared) : Prop :=
 match f with
 | .next => ∃ σ' H', Inv X pins σ' H' s' /\ D.nx σ' H'
 | .brk => ∃ σ' H', Inv X pins σ' H' s' /\ D.bk σ' H'
 | .cont => ∃ σ' H', Inv X pins σ' H' s' /\ D.ct σ' H'
 | .ret u => ∃ v σ' H', Inv X pins σ' H' s' /\ RelV v u /\ D.rt v H'
def PE (X : Cx) (e : Expr) (t : TE) : Prop :=
 ∀ (pins : List (Addr × Obj)) (s : Shared) (σ : St) (H : Hp) (Q : VK), Inv X pins σ H s -> t σ H Q -> wpAny (model X.prog X.w) X.A (eval e X.env) (EP X pins σ Q) X.xe s
def PT (X : Cx) (e : Expr) (t : TT) : Prop :=
 ∀ (pins : List (Addr × Obj)) (s : Shared) (σ : St) (H : Hp) (Q : Bool -> Hp -> Prop), Inv X pins σ H s -> t σ H Q -> wpAny (model X.prog X.w) X.A (isTrue e X.env (eval e X.env)) (TP X pins σ Q) X.xe s
def PW (X : Cx) (e : Expr) (t : TT) : Prop :=
 ∀ (whole : Sem Value) (pins : List (Addr × Obj)) (s : Shared) (σ : St) (H : Hp) (Q : Bool -> Hp -> Prop), Inv X pins σ H s -> t σ H Q -> wpAny (model X.prog X.w) X.A (isTrue e X.env whole) (TP X pins σ Q) X.xe s
theorem PW.pt {X : Cx} {e : Expr} {t : TT} (h : PW X e t) : PT X e t := h _
def PA (X : Cx) (es : List Expr) (t : TA) : Prop :=
 ∀ (pos : Pos) (pins : List (Addr × Obj)) (s : Shared) (σ : St) (H : Hp) (Q : List V -> Hp -> Prop), Inv X pins σ H s -> t σ H Q -> wpAny (model X.prog X.w) X.A (spliced (backTo pos (starEach es X.env))) (AP X pins σ Q) X.xe s
def PS (X : Cx) (st : Stmt) (t : TS) : Prop :=
 ∀ (pins : List (Addr × Obj)) (s : Shared) (σ : St) (H : Hp) (D : Ends), Inv X pins σ H s -> t D σ H -> wpAny (model X.prog X.w) X.A (exec st X.env) (SP X pins D) X.xe s
def PSs (X : Cx) (st : List Stmt) (t : TS) : Prop :=
 ∀ (pins : List (Addr × Obj)) (s : Shared) (σ : St) (H : Hp) (D : Ends), Inv X pins σ H s -> t D σ H -> wpAny (model X.prog X.w) X.A (execs st X.env) (SP X pins D) X.xe s
theorem thn {α : Type} {t : Sem α} {Q Q' : α -> Shared -> Prop} {M : Model} {A : Around} {E : Value -> Shared -> Prop} {s : Shared} (h : wpAny M A t Q E s) (hQ : ∀ a s, Q a s -> Q' a s) : wpAny M A t Q' E s := a3D h hQ fun _ _ x => x
section
variable {X : Cx}
def a7s (i : Nat) : TE := fun σ H Q => ∃ v, σ[i]? = some (some v) /\ Q v H
def tC (v : V) : TE := fun _ H Q => Q v H
theorem d0k {i : Nat} {x : Str} {pos : Pos} (hN : X.N[i]? = some x) (hv : Vis X.env.scope x) (hd : (x == ("__debug__" : Str)) = false := by decide) (hcd : (x == ("__classdict__" : Str)) = false := by decide) : PE X (.Name x pos) (a7s i) := by
 intro pins s σ H Q I h
 obtain ⟨v, e, h⟩ := h
 obtain ⟨m, hn, hl⟩ := I.loc
 obtain ⟨u, r, l⟩ := hl i x v hN e hv
 have fin : EP X pins σ Q u s := ⟨v, H, I, r, h⟩
 rcases l with ⟨hk, hm⟩ | ⟨hk, c, hc, hcell⟩
 ·exact wpAny_Name (wpAny_loadName_local I.ok.kind hk hn hm fin) hd
 ·rcases hk with hk | hk
  ·exact wpAny_Name (wpAny_loadName_cell I.ok.kind hk hc hcell fin) hd
  ·exact wpAny_Name (wpAny_loadName_free I.ok.kind hk hc hcell fin hcd) hd
theorem a0q {i j pos} : PE X (.Constant (.int i) j pos) (tC (.int i)) := fun _ _ _ H _ I h => wpAny_Constant_int ⟨.int i, H, I.tok _, ⟨_, rfl⟩, h⟩
theorem b8c {b j pos} : PE X (.Constant (.bool b) j pos) (tC (.bl b)) := fun _ _ _ H _ I h => Constant_bool ⟨.bl b, H, I, rfl, h⟩
theorem b2h {j pos} : PE X (.Constant .none j pos) (tC .non) := fun _ _ _ H _ I h => Constant_none ⟨.non, H, I, rfl, h⟩
def Gl (X : Cx) (x : Str) : Prop := X.env.kindOf x = some .globalImplicit
theorem b4l {E : Value -> Shared -> Prop} {pins : List (Addr × Obj)} {s : Shared} {σ : St} {H : Hp} {x : Str} {u : Value} {pos : Pos} {Q : Value -> Shared -> Prop} (I : Inv X pins σ H s) (hg : Gl X x) (hm : X.mg x = some u) (h : Q u s)
  (hd : (x == ("__debug__" : Str)) = false := by decide) : wpAny (model X.prog X.w) X.A (eval (.Name x pos) X.env) Q E s :=
 a8X I.ok.kind hg (Calls.loadGlobal_global (by rw [I.ok.glob]; exact I.mod.glob.keeps I.bk) hm h) hd
theorem b5z {E : Value -> Shared -> Prop} {pins : List (Addr × Obj)} {s : Shared} {σ : St} {H : Hp} {x : Str} {u : Value} {pos : Pos} {Q : Value -> Shared -> Prop} (I : Inv X pins σ H s) (hg : Gl X x) (hm : X.mg x = none) (hv : bootBuiltins x = some u) (h : Q u s)
  (hn : x ≠ "__name__" := by decide) (hd : (x == ("__debug__" : Str)) = false := by decide) : wpAny (model X.prog X.w) X.A (eval (.Name x pos) X.env) Q E s := by
 obtain ⟨mb, h1, h2⟩ := I.mod.blt
 exact a8X I.ok.kind hg (Calls.loadGlobal_builtin (by rw [I.ok.glob]; exact I.mod.glob.keeps I.bk) hm (by rw [I.ok.blt]; exact h1.keeps I.bk) ((h2 x hn).trans hv) h) hd
variable {a b : Expr} {ta tb : TE} {pos : Pos}
def PC (X : Cx) (op : CmpOp) (a b : Expr) (t : TE) : Prop :=
 ∀ (pins : List (Addr × Obj)) (s : Shared) (σ : St) (H : Hp) (Q : VK), Inv X pins σ H s -> t σ H Q ->
  wpAny (model X.prog X.w) X.A (eval a X.env) (fun v s₁ => wpAny (model X.prog X.w) X.A (eval b X.env) (fun u s₂ => wpAny (model X.prog X.w) X.A (compareOp op v u) (EP X pins σ Q) X.xe s₂) X.xe s₁) X.xe s
theorem b6a (b : Expr) {op : CmpOp} (h : op ≠ .In) (h2 : op ≠ .NotIn) : behindInMarks op b = false := by
 have e1 : (op == CmpOp.In) = false := by cases op <;> first | rfl | exact absurd rfl h
 have e2 : (op == CmpOp.NotIn) = false := by cases op <;> first | rfl | exact absurd rfl h2
 cases b <;> simp [behindInMarks, e1, e2]
def tB (t : TE) : TT := fun σ H Q => t σ H fun x H1 => ∃ c, x = .bl c /\ Q c H1
theorem d0l {op : CmpOp} {t : TE} (h : PC X op a b t) (h1 : behindInMarks op b = false := by first | exact b6a _ (by decide) (by decide) | rfl) : PE X (.Compare a [op] [b] pos) t := fun pins s σ H Q I hw => wpAny_Compare1 (h pins s σ H Q I hw) h1
theorem b2i {op : CmpOp} {t : TE} (h : PC X op a b t) (h1 : behindInMarks op b = false := by first | exact b6a _ (by decide) (by decide) | rfl) : PT X (.Compare a [op] [b] pos) (tB t) := by
 intro pins s σ H Q I hw
 refine wpAny_isTrue_Compare1 (thn (h pins s σ H _ I hw) fun v s1 h1 => thn h1 fun u s2 h2 => thn h2 fun c s3 ⟨x, H1, I1, r1, q1⟩ => ?_) h1
 obtain ⟨d, rfl, q⟩ := q1
 cases r1
 exact a4D ⟨H1, I1, q⟩
theorem b9x {e : Expr} {t : TE} (h : PE X e t) (he : ∀ whole, isTrue e X.env whole = (do let v <- whole; standAt e.pos; holding [v] (truthy v)) := by intro _; rfl) : PT X e (tB t) := by
 intro pins s σ H Q I hw
 refine isTrue_plain (thn (h pins s σ H _ I hw) fun v s1 ⟨x, H1, I1, r1, q1⟩ => ?_) (he _)
 obtain ⟨d, rfl, q⟩ := q1
 cases r1
 exact a4D ⟨H1, I1, q⟩
variable {tA tB' : TT} {rest : List Expr}
def tAnd (t u : TT) : TT := fun σ H Q => t σ H fun c H1 => if c = true then u σ H1 Q else Q false H1
def tOr (t u : TT) : TT := fun σ H Q => t σ H fun c H1 => if c = true then Q true H1 else u σ H1 Q
def tNot (t : TT) : TT := fun σ H Q => t σ H fun c H1 => Q (!c) H1
theorem a8p (ha : PT X a tA) : PW X (.BoolOp .And [a] pos) tA := by
 intro wh pins s σ H Q I h
 refine isTrue_and (thn (ha pins s σ H Q I h) fun c s1 e => ?_)
 cases c with
 | true => exact isTrue_and_nil e
 | false => exact e
theorem d0m (ha : PT X a tA) : PW X (.BoolOp .Or [a] pos) tA := by
 intro wh pins s σ H Q I h
 refine isTrue_or (thn (ha pins s σ H Q I h) fun c s1 e => ?_)
 cases c with
 | false => exact isTrue_or_nil e
 | true => exact e
theorem b2j (ha : PT X a tA) (hb : PW X (.BoolOp .And (b :: rest) pos) tB') : PW X (.BoolOp .And (a :: b :: rest) pos) (tAnd tA tB') := by
 intro wh pins s σ H Q I h
 refine isTrue_and (thn (ha pins s σ H _ I h) fun c s1 ⟨H1, I1, q1⟩ => ?_)
 cases c with
 | true => exact hb wh pins s1 σ H1 Q I1 q1
 | false => exact ⟨H1, I1, q1⟩
theorem pw_or (ha : PT X a tA) (hb : PW X (.BoolOp .Or (b :: rest) pos) tB') : PW X (.BoolOp .Or (a :: b :: rest) pos) (tOr tA tB') := by
 intro wh pins s σ H Q I h
 refine isTrue_or (thn (ha pins s σ H _ I h) fun c s1 ⟨H1, I1, q1⟩ => ?_)
 cases c with
 | true => exact ⟨H1, I1, q1⟩
 | false => exact hb wh pins s1 σ H1 Q I1 q1
theorem c6r (ha : PT X a tA) : PT X (.UnaryOp .Not a pos) (tNot tA) := by
 intro pins s σ H Q I h
 exact isTrue_not (ha pins s σ H (fun c H1 => Q (!c) H1) I h)
def tAndV (ta tb : TE) : TE := fun σ H Q => ta σ H fun x H1 => ∃ c, x = .bl c /\ if c = true then tb σ H1 Q else Q (.bl false) H1
theorem c6s {op} {t : TE} (h : PE X a t) : PE X (.BoolOp op [a] pos) t := fun pins s σ H Q I hw => BoolOp_one (h pins s σ H Q I hw)
theorem c6t (ha : PE X a ta) (hb : PE X (.BoolOp .And (b :: rest) pos) tb) : PE X (.BoolOp .And (a :: b :: rest) pos) (tAndV ta tb) := by
 intro pins s σ H Q I h
 refine BoolOp_and (thn (ha pins s σ H _ I h) fun v s1 ⟨x, H1, I1, r1, q1⟩ => ?_)
 obtain ⟨c, rfl, q1⟩ := q1
 cases r1
 refine a4D ?_
 cases c with
 | true => exact hb pins s1 σ H1 Q I1 q1
 | false => exact ⟨.bl false, H1, I1, rfl, q1⟩
end
def SqL (K : W.Frag) (H : Hp) (a : Addr) (xs : List V) : Prop :=
 Rd H a (.lst xs) ∨
  ∃ (o : Obj) (its : Array Value) (n : Nat), K.lookup a = some o /\ o.cls = .type "list" /\ o.dict = none /\ o.data = .seq its n /\ its.size <= sizeLine /\ Vals xs its.toList
def SqT (K : W.Frag) (H : Hp) (a : Addr) (xs : List V) : Prop :=
 Rd H a (.tup xs) ∨
  ∃ (o : Obj) (its : Array Value) (n : Nat), K.lookup a = some o /\ o.cls = .type "tuple" /\ o.data = .seq its n /\ its.size <= sizeLine /\ Vals xs its.toList
def absV : Value -> Option V
 | .none => some .non
 | .bool b => some (.bl b)
 | .int i _ => some (.int i)
 | .str x _ => some (.str x)
 | .bytes b _ => some (.byt b)
 | .float b _ => some (.flt b)
 | .ref a => some (.ref a)
 | .type n => some (.ty n)
 | _ => none
theorem RelV.abs {x : V} {u : Value} (r : RelV x u) : absV u = some x := by
 cases x with
 | non => cases r; rfl
 | bl _ => cases r; rfl
 | int _ => obtain ⟨t, rfl⟩ := r; rfl
 | str _ => obtain ⟨t, rfl⟩ := r; rfl
 | byt _ => obtain ⟨t, rfl⟩ := r; rfl
 | flt _ => obtain ⟨t, rfl⟩ := r; rfl
 | ref _ => cases r; rfl
 | ty _ => cases r; rfl
theorem RelV.inj {x y : V} {u : Value} (r : RelV x u) (q : RelV y u) : x = y := a1S (r.abs.symm.trans q.abs)
theorem Vals.inj : ∀ {xs ys : List V} {us : List Value}, Vals xs us -> Vals ys us -> xs = ys
 | _, _, _, .nil, .nil => rfl
 | _, _, _, .cons r t, .cons r' t' => by rw [r.inj r', Vals.inj t t']
section
variable {X : Cx} {pins : List (Addr × Obj)} {σ : St} {H : Hp} {s : Shared} {a : Addr} {xs ys : List V}
theorem SqL.of {K : W.Frag} (h : H a = some (.lst xs)) : SqL K H a xs := .inl (.inl h)
theorem SqT.of {K : W.Frag} (h : H a = some (.tup xs)) : SqT K H a xs := .inl (.inl h)
theorem Inv.list (I : Inv X pins σ H s) (h : SqL X.K H a xs) : ∃ its : List Value, Vals xs its /\ PlainL s.heap a its.toArray /\ xs.length <= sizeLine := by
 rcases h with h | ⟨o, its, n, hk, hc, hd, hs, hz, r⟩
 ·obtain ⟨z, its, n, r, e⟩ := h.ok I.hok
  exact ⟨its, r, ⟨_, n, e, rfl, rfl, rfl⟩, z⟩
 ·refine ⟨its.toList, r, ⟨o, n, I.kIn a o hk, hc, hd, by simpa using hs⟩, ?_⟩
  have e := r.length
  simp only [Array.length_toList] at e
  lia
theorem Inv.tuple (I : Inv X pins σ H s) (h : SqT X.K H a xs) : ∃ its : List Value, Vals xs its /\ IsTup s.heap a its.toArray /\ xs.length <= sizeLine := by
 rcases h with h | ⟨o, its, n, hk, hc, hs, hz, r⟩
 ·obtain ⟨z, its, r, p⟩ := h.ok I.hok
  exact ⟨its, r, p.is, z⟩
 ·refine ⟨its.toList, r, ⟨o, I.kIn a o hk, hc, n, by simpa using hs⟩, ?_⟩
  have e := r.length
  simp only [Array.length_toList] at e
  lia
theorem Inv.list_inj (I : Inv X pins σ H s) (h : SqL X.K H a xs) (h' : SqL X.K H a ys) : xs = ys := by
 obtain ⟨its, r, ⟨o, n, e, _, _, d⟩, _⟩ := I.list h
 obtain ⟨its', r', ⟨o', n', e', _, _, d'⟩, _⟩ := I.list h'
 rw [e] at e'; cases e'
 rw [d] at d'
 injection d' with d1 _
 have : its = its' := by simpa using congrArg Array.toList d1
 subst this
 exact r.inj r'
theorem Inv.tuple_inj (I : Inv X pins σ H s) (h : SqT X.K H a xs) (h' : SqT X.K H a ys) : xs = ys := by
 obtain ⟨its, r, ⟨o, e, _, n, d⟩, _⟩ := I.tuple h
 obtain ⟨its', r', ⟨o', e', _, n', d'⟩, _⟩ := I.tuple h'
 rw [e] at e'; cases e'
 rw [d] at d'
 injection d' with d1 _
 have : its = its' := by simpa using congrArg Array.toList d1
 subst this
 exact r.inj r'
end
abbrev Cx.wish (X : Cx) (E : Value -> Shared -> Prop) : Cx := { X with xe := E }
abbrev Cx.nox (X : Cx) : Cx := X.wish fun _ _ => False
theorem Cx.Ok.wish {X : Cx} (ok : X.Ok) (E : Value -> Shared -> Prop) : (X.wish E).Ok :=
 ⟨ok.mod, ok.kind, ok.glob, ok.blt, ok.above, ok.inj, ok.has, ok.cab, ok.hd, ok.frames, ok.stk, ok.exf, ok.bs, ok.bsz, ok.noex, ok.exfs, ok.funs, ok.frf⟩
theorem Cx.Ok.unwish {X : Cx} {E : Value -> Shared -> Prop} (ok : (X.wish E).Ok) : X.Ok :=
 ⟨ok.mod, ok.kind, ok.glob, ok.blt, ok.above, ok.inj, ok.has, ok.cab, ok.hd, ok.frames, ok.stk, ok.exf, ok.bs, ok.bsz, ok.noex, ok.exfs, ok.funs, ok.frf⟩
section
variable {X : Cx} {pins : List (Addr × Obj)} {σ : St} {H : Hp} {s : Shared} {E : Value -> Shared -> Prop}
theorem Inv.wish (I : Inv X pins σ H s) (E : Value -> Shared -> Prop) : Inv (X.wish E) pins σ H s := ⟨I.ok.wish E, I.os, I.bare, I.base, I.loc, I.cell, I.free, I.freeC, I.pin, I.hok, I.len⟩
theorem Inv.unwish (I : Inv (X.wish E) pins σ H s) : Inv X pins σ H s := ⟨I.ok.unwish, I.os, I.bare, I.base, I.loc, I.cell, I.free, I.freeC, I.pin, I.hok, I.len⟩
theorem SP.unwish {D : Ends} {f : Flow} {s' : Shared} (h : SP (X.wish E) pins D f s') : SP X pins D f s' := by
 cases f with
 | next => obtain ⟨σ', H', I, q⟩ := h; exact ⟨σ', H', I.unwish, q⟩
 | brk => obtain ⟨σ', H', I, q⟩ := h; exact ⟨σ', H', I.unwish, q⟩
 | cont => obtain ⟨σ', H', I, q⟩ := h; exact ⟨σ', H', I.unwish, q⟩
 | ret u => obtain ⟨v, σ', H', I, r, q⟩ := h; exact ⟨v, σ', H', I.unwish, r, q⟩
theorem PSs.nox {st : List Stmt} {t : TS} (h : PSs X.nox st t) : PSs X st t := fun pins s σ H D I hw =>
 a3D (h pins s σ H D (I.wish _) hw) (fun _ _ q => q.unwish) fun _ _ z => False.elim z
end
section
variable {X : Cx} {st : Stmt} {rest : List Stmt} {t u : TS} {e : Expr} {te : TE} {pos : Pos}
def d0n : TS := fun D σ H => D.nx σ H
def c4h (t u : TS) : TS := fun D σ H => t { D with nx := u D } σ H
theorem a3c : PSs X [] d0n := fun _ _ σ H _ I h => a8M ⟨σ, H, I, h⟩
theorem a0f (h1 : PS X st t) (h2 : PSs X rest u) : PSs X (st :: rest) (c4h t u) := by
 intro pins s σ H D I h
 refine wpAny_execs_cons (thn (h1 pins s σ H { D with nx := u D } I h) fun f s1 q => ?_)
 cases f with
 | next =>
  obtain ⟨σ', H', I', q⟩ := q
  exact h2 pins s1 σ' H' D I' q
 | ret v => exact q
 | brk => exact q
 | cont => exact q
theorem a0i (h1 : PS X st t) : PSs X [st] t := by
 intro pins s σ H D I h
 refine wpAny_execs_cons (thn (h1 pins s σ H D I h) fun f s1 q => ?_)
 cases f with
 | next => exact a8M q
 | ret v => exact q
 | brk => exact q
 | cont => exact q
theorem Inv.quiet {pins : List (Addr × Obj)} {σ : St} {H : Hp} {s : Shared} (I : Inv X pins σ H s) : interactive X.env = false := by simp [interactive, I.ok.kind]
def c4l (te : TE) : TS := fun D σ H => te σ H fun _ H1 => D.nx σ H1
theorem a4k (he : PE X e te) (hs : swapsWith e none pos.line X.env = pure false := by rfl) : PS X (.Expr e pos) (c4l te) := by
 intro pins s σ H D I h
 exact wpAny_Expr_any (thn (he pins s σ H _ I h) fun v s1 ⟨x, H1, I1, r1, q1⟩ => ⟨σ, H1, I1, q1⟩) I.quiet hs
def tRet (te : TE) : TS := fun D σ H => te σ H D.rt
theorem a1b (he : PE X e te) : PS X (.Return (some e) pos) (tRet te) := by
 intro pins s σ H D I h
 exact wpAny_Return_some (thn (he pins s σ H _ I h) fun v s1 ⟨x, H1, I1, r1, q1⟩ => ⟨x, σ, H1, I1, r1, q1⟩)
def tIfS (c : TT) (t u : TS) : TS := fun D σ H => c σ H fun b H1 => if b = true then t D σ H1 else u D σ H1
theorem a6m {c : Expr} {a b : List Stmt} {tc : TT} (hc : PT X c tc) (ha : PSs X a t) (hb : PSs X b u) : PS X (.If c a b pos) (tIfS tc t u) := by
 intro pins s σ H D I h
 refine wpAny_If (thn (hc pins s σ H _ I h) fun d s1 ⟨H1, I1, q1⟩ => ?_)
 cases d with
 | true => exact ha pins s1 σ H1 D I1 q1
 | false => exact hb pins s1 σ H1 D I1 q1
def d0o : TS := fun _ _ _ => False
theorem c4m : PS X st d0o := fun _ _ _ _ _ _ h => h.elim
end
abbrev TG := V -> St -> Hp -> (St -> Hp -> Prop) -> Prop
abbrev TGs := List V -> St -> Hp -> (St -> Hp -> Prop) -> Prop
def PG (X : Cx) (target : Expr) (t : TG) : Prop :=
 ∀ (pins : List (Addr × Obj)) (s : Shared) (σ : St) (H : Hp) (v : V) (u : Value) (Q : St -> Hp -> Prop), Inv X pins σ H s -> RelV v u -> t v σ H Q ->
  wpAny (model X.prog X.w) X.A (assign target X.env u) (fun _ s' => ∃ σ' H', Inv X pins σ' H' s' /\ Q σ' H') X.xe s
def PGs (X : Cx) (ts : List Expr) (t : TGs) : Prop :=
 ∀ (pins : List (Addr × Obj)) (s : Shared) (σ : St) (H : Hp) (vs : List V) (us : List Value) (Q : St -> Hp -> Prop), Inv X pins σ H s -> Vals vs us -> t vs σ H Q ->
  wpAny (model X.prog X.w) X.A (assignInOrder ((assignEach ts X.env).map (·.2)) us) (fun _ s' => ∃ σ' H', Inv X pins σ' H' s' /\ Q σ' H') X.xe s
abbrev TSet := V -> V -> V -> Hp -> (Hp -> Prop) -> Prop
def PSet (X : Cx) (t : TSet) : Prop :=
 ∀ (pins : List (Addr × Obj)) (s : Shared) (σ : St) (H : Hp) (o i v : V) (ov iv u : Value) (Q : Hp -> Prop), Inv X pins σ H s -> RelV o ov -> RelV i iv -> RelV v u -> t o i v H Q ->
  wpAny (model X.prog X.w) X.A (setItem ov iv u) (fun _ s' => ∃ H', Inv X pins σ H' s' /\ Q H') X.xe s
section
variable {X : Cx} {pos : Pos}
def a4z (i : Nat) : TG := fun v σ H Q => Q (σ.set i (some v)) H
theorem a1y {i : Nat} {x : Str} (hN : X.N.Nodup) (hi : X.N[i]? = some x) (hx : Loc X.env.scope x) (hf : X.fn x = true ∨ X.env.scope.names.lookup x = some .local := by first | exact .inl rfl | exact .inr rfl | assumption) : PG X (.Name x pos) (a4z i) := by
 intro pins s σ H v u Q I r h
 exact wpAny_assign_Name (b5y I hN hi hx r (fun s' I' => ⟨_, H, I', h⟩) hf)
def gNil : TGs := fun vs σ H Q => vs = [] /\ Q σ H
def c8b (t : TG) (u : TGs) : TGs := fun vs σ H Q => ∃ v r, vs = v :: r /\ t v σ H fun σ' H' => u r σ' H' Q
theorem c8c : PGs X [] gNil := by
 intro pins s σ H vs us Q I r h
 obtain ⟨e, h⟩ := h
 subst e
 cases r
 exact assignInOrder_nil ⟨σ, H, I, h⟩
theorem b6b {e : Expr} {es : List Expr} {t : TG} {u : TGs} (h1 : PG X e t) (h2 : PGs X es u)
  (hs : (assignEach (e :: es) X.env).map (·.2) = assign e X.env :: (assignEach es X.env).map (·.2) := by rfl) : PGs X (e :: es) (c8b t u) := by
 intro pins s σ H vs us Q I r h
 obtain ⟨v, vr, e1, h⟩ := h
 subst e1
 cases r with
 | cons r rr =>
  rw [hs]
  refine assignInOrder_cons (thn (h1 pins s σ H _ _ _ I r h) fun _ s1 ⟨σ1, H1, I1, q1⟩ => ?_)
  exact h2 pins s1 σ1 H1 _ _ Q I1 rr q1
def gTup (K : W.Frag) (n : Nat) (t : TGs) : TG := fun v σ H Q => ∃ a xs, v = .ref a /\ SqT K H a xs /\ xs.length = n /\ t xs σ H Q
theorem d0p {es : List Expr} {k : Nat} {t : TGs} {n : Nat} (hc : X.calm = true) (h : PGs X es t)
  (hn : (assignEach es X.env).length = n := by rfl) (hst : (assignEach es X.env).findIdx? (·.1) = none := by rfl) : PG X (.Tuple es k pos) (gTup X.K n t) := by
 intro pins s σ H v u Q I r hw
 obtain ⟨a, xs, e1, hq, hl, hw⟩ := hw
 subst e1
 cases r
 obtain ⟨its, rv, ht, hz⟩ := I.tuple hq
 refine assign_Tuple_tuple (I.ok.hd hc) ht (by simp [hn, <- hl, rv.length]) hst fun h' hx => ?_
 have I1 : Inv X pins σ H { s with heap := h' } := I.kept (t' := s.toks) fun b o e => hx b o (a1J (a0Q e)) e
 exact h pins _ σ H xs _ Q I1 (by simpa using rv) hw
def gSub (to ti : TE) (t : TSet) : TG := fun v σ H Q => to σ H fun o H1 => ti σ H1 fun i H2 => t o i v H2 fun H3 => Q σ H3
theorem b6c {o i : Expr} {to ti : TE} {t : TSet} (ho : PE X o to) (hi : PE X i ti) (hs : PSet X t)
  (ha : ∀ v, assign (.Subscript o i pos) X.env v = (do
   let ov <- holding [v] (eval o X.env)
   let iv <- holding [v, ov] (eval i X.env)
   standAt pos
   holding [v, ov, iv] (setItem ov iv v)
   release [v, ov, iv] []) := by intro _; rfl) : PG X (.Subscript o i pos) (gSub to ti t) := by
 intro pins s σ H v u Q I r h
 rw [ha]
 refine a0C (a1Y (thn (ho pins s σ H _ I h) fun ov s1 ⟨x, H1, I1, r1, q1⟩ => ?_))
 refine a0C (a1Y (thn (hi pins s1 σ H1 _ I1 q1) fun iv s2 ⟨y, H2, I2, r2, q2⟩ => ?_))
 refine a0C (a9M (a0C (a1Y (thn (hs pins s2 σ H2 x y v ov iv u _ I2 r1 r2 r q2) fun _ s3 ⟨H3, I3, q3⟩ => ?_))))
 exact wpAny_release ⟨σ, H3, I3, q3⟩
def c4n (te : TE) (g : TG) : TS := fun D σ H => te σ H fun x H1 => g x σ H1 D.nx
theorem b6d {tg e : Expr} {te : TE} {g : TG} (he : PE X e te) (hg : PG X tg g) (hs : swapsWithSole [tg] e pos.line X.env = pure false := by rfl) (hw : swappedStores [tg] e X.env = pure none := by rfl)
  (h1 : (assignEach [tg] X.env).map (·.2) = [assign tg X.env] := by rfl) : PS X (.Assign [tg] e pos) (c4n te g) := by
 intro pins s σ H D I h
 refine wpAny_Assign_stores (thn (he pins s σ H _ I h) fun v s1 ⟨x, H1, I1, r1, q1⟩ => ?_) hs hw
 rw [h1]
 exact thn (hg pins s1 σ H1 x v _ I1 r1 q1) fun _ s2 q => q
theorem a0r {i : Nat} {x : Str} {e : Expr} {te : TE} {pos' : Pos} (hN : X.N.Nodup) (hi : X.N[i]? = some x) (hx : Loc X.env.scope x) (he : PE X e te) (hs : swapsWith e (some (.Name x pos')) pos.line X.env = pure false := by rfl) (hf : X.fn x = true ∨ X.env.scope.names.lookup x = some .local := by first | exact .inl rfl | exact .inr rfl | assumption) :
  PS X (.Assign [.Name x pos'] e pos) (c4n te (a4z i)) := by
 intro pins s σ H D I h
 refine wpAny_Assign_Name (thn (he pins s σ H _ I h) fun v s1 ⟨y, H1, I1, r1, q1⟩ => ?_) hs
 exact b5y I1 hN hi hx r1 (fun s2 I2 => ⟨_, H1, I2, q1⟩) hf
end
section
variable {X : Cx} {pos : Pos}
def c6u (c : TT) (tb : TS) : TS := fun D σ H => ∃ W : Nat -> St -> Hp -> Prop, (∃ m, W m σ H) /\ ∀ m σ H, W m σ H ->
 c σ H fun b H1 => if b = true then ∃ N : St -> Hp -> Prop, (∀ σ' H', N σ' H' -> ∃ m', m' < m /\ W m' σ' H') /\ tb { D with nx := N, ct := N, bk := D.nx } σ H1 else D.nx σ H1
theorem b0v {c : Expr} {body : List Stmt} {tc : TT} {tb : TS} (hp : PassesOwn (model X.prog X.w) X.A X.env X.xe) (hc : PT X c tc) (hb : PSs X body tb) : PS X (.While c body [] pos) (c6u tc tb) := by
 intro pins s σ H D I h
 obtain ⟨W, ⟨m0, w0⟩, turn⟩ := h
 refine wpAny_While (codeAny_whileLoop (fun n s' => ∃ σ' H', Inv X pins σ' H' s' /\ W n σ' H') ?_ m0 ⟨σ, H, I, w0⟩)
 rintro n s1 ⟨σ1, H1, I1, w1⟩
 refine a5I hp (thn (hc pins s1 σ1 H1 _ I1 (turn n σ1 H1 w1)) fun b s2 ⟨H2, I2, q2⟩ => ?_)
 cases b with
 | true =>
  obtain ⟨N, hN, q2⟩ := q2
  rw [if_pos rfl]
  refine a5I hp (thn (hb pins s2 σ1 H2 _ I2 q2) fun f s3 q3 => ?_)
  cases f with
  | next =>
   obtain ⟨σ3, H3, I3, n3⟩ := q3
   obtain ⟨m', hm, w3⟩ := hN σ3 H3 n3
   exact ⟨m', hm, σ3, H3, I3, w3⟩
  | cont =>
   obtain ⟨σ3, H3, I3, n3⟩ := q3
   obtain ⟨m', hm, w3⟩ := hN σ3 H3 n3
   exact ⟨m', hm, σ3, H3, I3, w3⟩
  | brk => exact q3
  | ret v => exact q3
 | false =>
  rw [if_neg a1L]
  exact a8M ⟨σ1, H2, I2, q2⟩
end
structure It where
 go : Nat -> Hp -> Prop
 yld : Nat -> Hp -> V -> Hp -> Prop
 stop : Nat -> Hp -> Prop
def FpOk (X : Cx) (pins : List (Addr × Obj)) (H : Hp) (b : Addr) : Prop :=
 H b = none /\ b ≠ X.env.locals /\ b ∉ X.fs /\ (b ∈ X.ex ∨ X.s₀.heap.objs.size <= b) /\ (∀ x c, X.env.cells.lookup x = some c -> c ≠ b) /\ ∀ p ∈ X.pn ++ pins, p.1 ≠ b
theorem Inv.fpOk {X : Cx} {pins : List (Addr × Obj)} {σ : St} {H H' : Hp} {s : Shared} {b : Addr} (I : Inv X pins σ H s) (hb : s.heap.objs.size <= b) (hn : H' b = none) : FpOk X pins H' b := by
 refine ⟨hn, a4I (a1E I.lt hb), I.nofs hb, .inr (a1A I.sz hb), fun x c e z => ?_, fun p hp z => ?_⟩
 ·obtain ⟨v, q⟩ := I.cell x c e
  exact absurd (a1E q.lt (by rw [z]; exact hb)) (a4G _)
 ·exact absurd (a1E (a0Q (I.pin p hp).1) (by rw [z]; exact hb)) (a4G _)
structure Turn (P : Program) (w : World) (K : W.Frag) (tg : Expr) (J : It) (fp : List Addr) (it : Addr) (tn : Nat -> Heap -> Prop) : Prop where
 mem : it ∈ fp
 obj : ∀ i h, tn i h -> ∀ b ∈ fp, ∃ o, h.get? b = some o /\ ∀ v, o.data ≠ .cell v
 keep : ∀ i h h', tn i h -> (∀ b ∈ fp, ∀ o, h.get? b = some o -> h'.get? b = some o) -> tn i h'
 item : ∀ (X : Cx), X.prog = P -> X.w = w -> X.K = K -> X.calm = true -> ∀ (i : Nat) (pins : List (Addr × Obj)) (s : Shared) (σ : St) (H : Hp) (E : Value -> Shared -> Prop), Inv X pins σ H s -> (∀ b ∈ fp, FpOk X pins H b) -> tn i s.heap -> J.go i H ->
  wpAny (model P w) X.A (pyNext (.ref it)) (fun r s1 => ∃ u, r = some u /\
   wpAny (model P w) X.A (letOwnedTupleGo tg (.ref it) u) (fun _ s2 => ∃ x H', Inv X pins σ H' s2 /\ RelV x u /\ J.yld i H x H' /\ tn (i + 1) s2.heap /\ ∀ b ∈ fp, H' b = none) E s1) E s
 done : ∀ (X : Cx), X.prog = P -> X.w = w -> X.K = K -> X.calm = true -> ∀ (i : Nat) (pins : List (Addr × Obj)) (s : Shared) (σ : St) (H : Hp) (E : Value -> Shared -> Prop), Inv X pins σ H s -> (∀ b ∈ fp, FpOk X pins H b) -> tn i s.heap -> J.stop i H ->
  wpAny (model P w) X.A (pyNext (.ref it)) (fun r s1 => r = none /\ Inv X pins σ H s1) E s
 self : ∀ (A : Around) (i : Nat) (s : Shared) (Q : Value -> Shared -> Prop) (E : Value -> Shared -> Prop), tn i s.heap -> Q (.ref it) s -> wpAny (model P w) A (pyIter (.ref it)) Q E s
abbrev TI := St -> Hp -> (It -> Hp -> Prop) -> Prop
def PIE (X : Cx) (pins : List (Addr × Obj)) (σ : St) (tg : Expr) (R : It -> Hp -> Prop) (itv : Value) (s2 : Shared) : Prop :=
 ∃ (it : Addr) (fp : List Addr) (tn : Nat -> Heap -> Prop) (J : It) (H' : Hp), itv = .ref it /\ Inv X pins σ H' s2 /\ Turn X.prog X.w X.K tg J fp it tn /\ tn 0 s2.heap /\ (∀ b ∈ fp, FpOk X pins H' b) /\ R J H'
def PI (X : Cx) (tg iter : Expr) (wi : TI) : Prop :=
 ∀ (pins : List (Addr × Obj)) (s : Shared) (σ : St) (H : Hp) (R : It -> Hp -> Prop), Inv X pins σ H s -> wi σ H R ->
  wpAny (model X.prog X.w) X.A (eval iter X.env) (fun v s1 => wpAny (model X.prog X.w) X.A (pyIter v) (PIE X pins σ tg R) X.xe s1) X.xe s
theorem c4o {M : Model} {A : Around} {E : Value -> Shared -> Prop} {s : Shared} {tg : Expr} {it : Addr} {u : Value} {o : Obj} {n : String} {vs : Array Value} {Q : Unit -> Shared -> Prop} (ho : s.heap.get? it = some o) (hc : o.cls = .type n) (hd : o.data = .fields vs)
    (hn : ["enumerate", "zip", "dict_itemiterator", "dict_reverseitemiterator", "odict_iterator", "itertools.zip_longest", "itertools.pairwise"].contains n = false) (hQ : Q () s) : wpAny M A (letOwnedTupleGo tg (.ref it) u) Q E s := by
  unfold letOwnedTupleGo
  cases tg <;> first
    | exact a0G hQ
    | (cases u <;> first
        | exact a0G hQ
        | (refine a0C (wpAny_load ho ?_)
           rw [hc, hd]
           show wpAny M A (if (["enumerate", "zip", "dict_itemiterator", "dict_reverseitemiterator", "odict_iterator", "itertools.zip_longest", "itertools.pairwise"].contains n && vs[0]? == some (rawInt _)) = true then _ else _) Q E s
           rw [if_neg (by intro h; rw [hn, Bool.false_and] at h; cases h)]
           exact a0G hQ))
def Itl (K : W.Frag) (a : Addr) : It :=
 ⟨fun i H => ∃ xs x, SqL K H a xs /\ xs[i]? = some x, fun i H x H' => H' = H /\ ∀ xs, SqL K H a xs -> xs[i]? = some x, fun i H => ∃ xs, SqL K H a xs /\ xs.length <= i⟩
def Itt (K : W.Frag) (a : Addr) : It :=
 ⟨fun i H => ∃ xs x, SqT K H a xs /\ xs[i]? = some x, fun i H x H' => H' = H /\ ∀ xs, SqT K H a xs -> xs[i]? = some x, fun i H => ∃ xs, SqT K H a xs /\ xs.length <= i⟩
def Itr (lo : Int) (n : Nat) : It := ⟨fun i _ => i < n, fun i H x H' => H' = H /\ x = .int (lo + i), fun i _ => n <= i⟩
theorem b9y {P : Program} {w : World} {K : W.Frag} {tg : Expr} (a it : Addr) : Turn P w K tg (Itl K a) [it] it (fun i h => h.IsListIter it a i) where
 mem := by simp
 obj := fun i h st b hb => by
  have e : b = it := by simpa using hb
  subst e
  obtain ⟨o, e, c, d⟩ := st
  exact ⟨o, e, fun v z => by rw [d] at z; cases z⟩
 keep := fun i h h' st k => st.at fun o e => k it (by simp) o e
 item := by
  intro X hP hw hK hc i pins s σ H E I hf st hg
  subst hP hw hK
  obtain ⟨xs, x, hq, hx⟩ := hg
  obtain ⟨its, rv, p, hz⟩ := I.list hq
  obtain ⟨u, hu, ru⟩ := rv.get hx
  obtain ⟨f0, f1, f2, f3, f4, f5⟩ := hf it (by simp)
  refine wpAny_pyNext_list_item st p.isList (x := u) (by simpa using hu) fun h' st' sb => ?_
  have I1 : Inv X pins σ H { s with heap := h' } := I.turned (t' := s.toks) (fun b o hb e => (sb.2 b hb).trans e) f0 f1 f3 f4 f5
  obtain ⟨o, e, c, d⟩ := id st'
  exact ⟨u, rfl, c4o (s := { s with heap := h' }) e c d (by decide) ⟨x, H, I1, ru, ⟨rfl, fun ys hy => by rw [I.list_inj hy hq]; exact hx⟩, st', fun b hb => (hf b hb).1⟩⟩
 done := by
  intro X hP hw hK hc i pins s σ H E I hf st hg
  subst hP hw hK
  obtain ⟨xs, hq, hx⟩ := hg
  obtain ⟨its, rv, p, hz⟩ := I.list hq
  obtain ⟨f0, f1, f2, f3, f4, f5⟩ := hf it (by simp)
  have hl := rv.length
  exact wpAny_pyNext_list_end (I.ok.hd hc) st p.isList (by simp; lia) fun h' eb => ⟨rfl, I.turned (t' := s.toks) (fun b o hb e => eb b o hb e) f0 f1 f3 f4 f5⟩
 self := fun _ _ _ _ _ st h => wpAny_pyIter_listiter st h
theorem b8d {P : Program} {w : World} {K : W.Frag} {tg : Expr} (a it : Addr) : Turn P w K tg (Itt K a) [it] it (fun i h => h.IsTupleIter it a i) where
 mem := by simp
 obj := fun i h st b hb => by
  have e : b = it := by simpa using hb
  subst e
  obtain ⟨o, e, c, d⟩ := st
  exact ⟨o, e, fun v z => by rw [d] at z; cases z⟩
 keep := fun i h h' st k => st.at fun o e => k it (by simp) o e
 item := by
  intro X hP hw hK hc i pins s σ H E I hf st hg
  subst hP hw hK
  obtain ⟨xs, x, hq, hx⟩ := hg
  obtain ⟨its, rv, p, hz⟩ := I.tuple hq
  obtain ⟨u, hu, ru⟩ := rv.get hx
  obtain ⟨f0, f1, f2, f3, f4, f5⟩ := hf it (by simp)
  refine wpAny_pyNext_tuple_item st (show s.heap.IsTuple a its.toArray from p) (x := u) (by simpa using hu) fun h' st' sb => ?_
  have I1 : Inv X pins σ H { s with heap := h' } := I.turned (t' := s.toks) (fun b o hb e => (sb.2 b hb).trans e) f0 f1 f3 f4 f5
  obtain ⟨o, e, c, d⟩ := id st'
  exact ⟨u, rfl, c4o (s := { s with heap := h' }) e c d (by decide) ⟨x, H, I1, ru, ⟨rfl, fun ys hy => by rw [I.tuple_inj hy hq]; exact hx⟩, st', fun b hb => (hf b hb).1⟩⟩
 done := by
  intro X hP hw hK hc i pins s σ H E I hf st hg
  subst hP hw hK
  obtain ⟨xs, hq, hx⟩ := hg
  obtain ⟨its, rv, p, hz⟩ := I.tuple hq
  obtain ⟨f0, f1, f2, f3, f4, f5⟩ := hf it (by simp)
  have hl := rv.length
  exact wpAny_pyNext_tuple_end (I.ok.hd hc) st (show s.heap.IsTuple a its.toArray from p) (by simp; lia) fun h' eb => ⟨rfl, I.turned (t' := s.toks) (fun b o hb e => eb b o hb e) f0 f1 f3 f4 f5⟩
 self := fun _ _ _ _ _ st h => wpAny_pyIter_tupleiter st h
theorem b8e {P : Program} {w : World} {K : W.Frag} {tg : Expr} (it : Addr) (lo : Int) (n : Nat) : Turn P w K tg (Itr lo n) [it] it (fun i h => IsRangeIter h it (lo + (i : Nat) * 1) ((n : Int) - (i : Nat)) 1) where
 mem := by simp
 obj := fun i h st b hb => by
  have e : b = it := by simpa using hb
  subst e
  exact ⟨_, st, fun v z => by
   have z' : Data.fields _ = Data.cell v := z
   cases z'⟩
 keep := fun i h h' st k => k it (by simp) _ st
 item := by
  intro X hP hw hK hc i pins s σ H E I hf st hg
  subst hP hw hK
  obtain ⟨f0, f1, f2, f3, f4, f5⟩ := hf it (by simp)
  have W := Walks.range (prog := X.prog) (w := X.w) (I.ok.hd hc) it lo 1 n
  refine W.item i s _ _ hg st fun v h' tk hv st' kk => ?_
  obtain ⟨t, rfl⟩ := hv
  have I1 : Inv X pins σ H { s with heap := h', toks := tk } := I.turned (fun b o hb e => kk b o (by simpa using hb) e) f0 f1 f3 f4 f5
  refine ⟨_, rfl, c4o (s := { s with heap := h', toks := tk }) (n := "range_iterator") st' rfl rfl (by decide) ⟨.int (lo + i), H, I1, ⟨t, ?_⟩, ⟨rfl, rfl⟩, st', fun b hb => (hf b hb).1⟩⟩
  rw [Int.mul_one]
 done := by
  intro X hP hw hK hc i pins s σ H E I hf st hg
  subst hP hw hK
  obtain ⟨f0, f1, f2, f3, f4, f5⟩ := hf it (by simp)
  exact wpAny_pyNext_range_end (I.ok.hd hc) st (by have : n <= i := hg; lia) fun h' eb => ⟨rfl, I.turned (t' := s.toks) (fun b o hb e => eb b o hb e) f0 f1 f3 f4 f5⟩
 self := fun _ _ _ _ _ st h => wpAny_pyIter_rangeiter st h
section
variable {X : Cx} {tg : Expr}
def d0q (K : W.Frag) (tl : TE) : TI := fun σ H R => tl σ H fun x H1 => ∃ a, x = .ref a /\ (∃ xs, SqL K H1 a xs) /\ R (Itl K a) H1
def iTup (K : W.Frag) (tl : TE) : TI := fun σ H R => tl σ H fun x H1 => ∃ a, x = .ref a /\ (∃ xs, SqT K H1 a xs) /\ R (Itt K a) H1
theorem a1v {l : Expr} {tl : TE} (hl : PE X l tl) : PI X tg l (d0q X.K tl) := by
 intro pins s σ H R I h
 refine thn (hl pins s σ H _ I h) fun v s1 ⟨x, H1, I1, r1, q1⟩ => ?_
 obtain ⟨a, e, ⟨xs, hq⟩, q⟩ := q1
 subst e
 cases r1
 obtain ⟨its, rv, p, hz⟩ := I1.list hq
 refine a7N p.isList ?_
 refine ⟨s1.heap.objs.size, [s1.heap.objs.size], _, _, H1, rfl, I1.kept (t' := s1.toks) fun b o e => a0I _ e, b9y a _, ⟨_, a0R _ rfl, rfl, rfl⟩, fun b hb => ?_, q⟩
 have e : b = s1.heap.objs.size := by simpa using hb
 subst e
 exact I1.fpOk (a0N _) (I1.hok.fresh (a0N _))
theorem b0b {l : Expr} {tl : TE} (hl : PE X l tl) : PI X tg l (iTup X.K tl) := by
 intro pins s σ H R I h
 refine thn (hl pins s σ H _ I h) fun v s1 ⟨x, H1, I1, r1, q1⟩ => ?_
 obtain ⟨a, e, ⟨xs, hq⟩, q⟩ := q1
 subst e
 cases r1
 obtain ⟨its, rv, p, hz⟩ := I1.tuple hq
 refine wpAny_pyIter_tuple (show s1.heap.IsTuple a its.toArray from p) ?_
 refine ⟨s1.heap.objs.size, [s1.heap.objs.size], _, _, H1, rfl, I1.kept (t' := s1.toks) fun b o e => a0I _ e, b8d a _, ⟨_, a0R _ rfl, rfl, rfl⟩, fun b hb => ?_, q⟩
 have e : b = s1.heap.objs.size := by simpa using hb
 subst e
 exact I1.fpOk (a0N _) (I1.hok.fresh (a0N _))
theorem c4p {pins : List (Addr × Obj)} {σ : St} {H : Hp} {s : Shared} {R : It -> Hp -> Prop} {E : Value -> Shared -> Prop} {lo hi : Int} {t u v : Tok} {tk : Nat} (I : Inv X pins σ H s) (h1 : -(2 ^ 62) <= lo) (h2 : lo < 2 ^ 62) (h3 : -(2 ^ 62) <= hi) (h4 : hi < 2 ^ 62)
  (q : R (Itr lo (hi - lo).toNat) H) : wpAny (model X.prog X.w) X.A (pyIter (.ref s.heap.objs.size)) (PIE X pins σ tg R) E { s with heap := s.heap.push { cls := .type "range", data := .fields #[.int lo t, .int hi u, .int 1 v] }, toks := tk } := by
 refine wpAny_pyIter_range (IsRange.new ..) (small_one h1 h2 h3 h4) ?_
 have I1 : Inv X pins σ H { s with heap := s.heap.push { cls := .type "range", data := .fields #[.int lo t, .int hi u, .int 1 v] }, toks := tk } := I.kept fun b o e => a0I _ e
 refine ⟨(s.heap.push { cls := .type "range", data := .fields #[.int lo t, .int hi u, .int 1 v] }).objs.size, [(s.heap.push { cls := .type "range", data := .fields #[.int lo t, .int hi u, .int 1 v] }).objs.size], _, _, H, rfl,
  I1.kept (t' := tk) fun b o e => a0I _ e, b8e _ lo (hi - lo).toNat, ?_, fun b hb => ?_, q⟩
 ·have e1 : lo + ((0 : Nat) : Int) * 1 = lo := by simp
  have e2 : (((hi - lo).toNat : Nat) : Int) - ((0 : Nat) : Int) = Builtin.Range.rangeSize lo hi 1 := by rw [rangeSize_one]; split <;> lia
  show IsRangeIter _ _ (lo + ((0 : Nat) : Int) * 1) ((((hi - lo).toNat : Nat) : Int) - ((0 : Nat) : Int)) 1
  rw [e1, e2]
  exact a0R _ rfl
 ·have e : b = (s.heap.push { cls := .type "range", data := .fields #[.int lo t, .int hi u, .int 1 v] }).objs.size := by simpa using hb
  subst e
  exact I1.fpOk (a0N _) (I1.hok.fresh (a0N _))
def d0r (ta : TA) : TI := fun σ H R => ta σ H fun vs H1 => ∃ j : Int, vs = [.int j] /\ -(2 ^ 62) <= j /\ j < 2 ^ 62 /\ R (Itr 0 j.toNat) H1
theorem a3k {a : Expr} {ta : TA} {p pos : Pos} (hg : Gl X "range") (hm : X.mg "range" = none) (ha : PA X [a] ta) (hs : starEach [a] X.env = [(false, eval a X.env)] := by rfl) : PI X tg (.Call (.Name "range" p) [a] [] pos) (d0r ta) := by
 intro pins s σ H R I h
 refine Call_ (b5z I hg hm boot_range (a8N (thn (ha pos pins s σ H _ I h) fun us s1 ⟨vs, H1, I1, r1, q1⟩ => ?_) hs rfl))
 obtain ⟨j, e, q1, q2, q⟩ := q1
 subst e
 cases r1 with
 | cons r rr =>
  cases rr
  obtain ⟨t, rfl⟩ := r
  exact call_range_1 (c4p I1 (by lia) (by lia) q1 q2 (by simpa using q))
def tFor (wi : TI) (g : TG) (tb : TS) : TS := fun D σ H => wi σ H fun J H1 => ∃ W : Nat -> Nat -> St -> Hp -> Prop, (∃ m, W 0 m σ H1) /\ ∀ i m σ H, W i m σ H ->
 (J.stop i H /\ D.nx σ H) ∨ (J.go i H /\ ∃ N : St -> Hp -> Prop, (∀ σ' H', N σ' H' -> ∃ m', m' < m /\ W (i + 1) m' σ' H') /\ ∀ x H', J.yld i H x H' -> g x σ H' fun σ2 H2 => tb { D with nx := N, ct := N, bk := D.nx } σ2 H2)
def b2k (fp : List Addr) (h : Heap) : List (Addr × Obj) := fp.filterMap fun b => (h.get? b).map fun o => (b, o)
theorem a5q {fp : List Addr} {h : Heap} {b : Addr} {o : Obj} (hb : b ∈ fp) (e : h.get? b = some o) : (b, o) ∈ b2k fp h := a7D.mpr ⟨b, hb, by rw [e]; rfl⟩
theorem b9z {fp : List Addr} {h : Heap} {p : Addr × Obj} (hp : p ∈ b2k fp h) : p.1 ∈ fp /\ h.get? p.1 = some p.2 := by
 obtain ⟨b, hb, e⟩ := a7D.mp hp
 cases q : h.get? b with
 | none => rw [q] at e; cases e
 | some o =>
  rw [q] at e
  have e' : (b, o) = p := a1S e
  subst e'
  exact ⟨hb, q⟩
theorem Inv.pinned {pins : List (Addr × Obj)} {σ : St} {H : Hp} {s : Shared} {fp : List Addr} (I : Inv X pins σ H s) (hf : ∀ b ∈ fp, FpOk X pins H b) (ho : ∀ b ∈ fp, ∃ o, s.heap.get? b = some o /\ ∀ v, o.data ≠ .cell v) : Inv X (pins ++ b2k fp s.heap) σ H s :=
 I.pins_of fun p hp => (a0K.mp hp).elim (fun z => I.pin p (a0X _ z)) fun z => by
  obtain ⟨hb, e⟩ := b9z z
  obtain ⟨f0, f1, f2, _⟩ := hf p.1 hb
  obtain ⟨o, e', d⟩ := ho p.1 hb
  rw [e] at e'; cases e'
  exact ⟨e, f0, f1, f2, d⟩
theorem Inv.unpinned {pins pl : List (Addr × Obj)} {σ : St} {H : Hp} {s : Shared} (I : Inv X (pins ++ pl) σ H s) : Inv X pins σ H s := I.pins_of fun p hp => I.pin p (a0X _ (a3A _ hp))
theorem a3w {iter : Expr} {body : List Stmt} {wi : TI} {g : TG} {tb : TS} {pos : Pos} (hp : PassesOwn (model X.prog X.w) X.A X.env X.xe) (hc : X.calm = true) (hi : PI X tg iter wi) (hg : PG X tg g) (hb : PSs X body tb)
  (hs : ∀ x, foldedSetIterable iter X.env x = pure x := by intro _; rfl) : PS X (.For tg iter body [] pos) (tFor wi g tb) := by
 intro pins s σ H D I h
 refine wpAny_For (thn (hi pins s σ H _ I h) fun v s1 h1 => thn h1 fun itv s2 h2 => ?_) hs
 obtain ⟨it, fp, tn, J, H2, e, I2, T, st2, f2, W, ⟨m0, w0⟩, turn⟩ := h2
 subst e
 have stat : ∀ {H' : Hp}, (∀ b ∈ fp, H' b = none) -> ∀ b ∈ fp, FpOk X pins H' b := fun hn b hb => ⟨hn b hb, (f2 b hb).2⟩
 refine codeAny_forLoop_any (fun n s' => ∃ i σ' H', Inv X pins σ' H' s' /\ tn i s'.heap /\ (∀ b ∈ fp, H' b = none) /\ W i n σ' H') ?_ m0 ⟨0, σ, H2, I2, st2, fun b hb => (f2 b hb).1, w0⟩
 rintro n s3 ⟨i, σ3, H3, I3, st3, fr3, w3⟩
 rcases turn i n σ3 H3 w3 with ⟨stop, qn⟩ | ⟨go, N, hN, step⟩
 ·refine a5I hp (thn (T.done X rfl rfl rfl hc i pins s3 σ3 H3 X.xe I3 (stat fr3) st3 stop) fun r s4 ⟨hr, I4⟩ => ?_)
  subst hr
  exact a8M ⟨σ3, H3, I4, qn⟩
 ·refine a5I hp (thn (T.item X rfl rfl rfl hc i pins s3 σ3 H3 X.xe I3 (stat fr3) st3 go) fun r s4 ⟨u, hr, h4⟩ => ?_)
  subst hr
  refine a5I hp (thn h4 fun _ s5 ⟨x, H5, I5, r5, y5, st5, fr5⟩ => ?_)
  have I5' := I5.pinned (stat fr5) (T.obj _ _ st5)
  refine a5I hp (thn (hg _ s5 σ3 H5 x u _ I5' r5 (step x H5 y5)) fun _ s6 ⟨σ6, H6, I6, q6⟩ => ?_)
  refine a5I hp (thn (hb _ s6 σ6 H6 _ I6 q6) fun f s7 q7 => ?_)
  have again : ∀ {σ7 : St} {H7 : Hp}, Inv X (pins ++ b2k fp s5.heap) σ7 H7 s7 -> N σ7 H7 -> ∃ m, m < n /\ ∃ i σ' H', Inv X pins σ' H' s7 /\ tn i s7.heap /\ (∀ b ∈ fp, H' b = none) /\ W i m σ' H' := fun {σ7 H7} I7 n7 => by
   obtain ⟨m', hm, w7⟩ := hN σ7 H7 n7
   refine ⟨m', hm, i + 1, σ7, H7, I7.unpinned, T.keep _ _ _ st5 fun b hb o e => (I7.pin (b, o) (a0X _ (a0X _ (a5q hb e)))).1, fun b hb => ?_, w7⟩
   obtain ⟨o, e, d⟩ := T.obj _ _ st5 b hb
   exact (I7.pin (b, o) (a0X _ (a0X _ (a5q hb e)))).2.1
  cases f with
  | next => obtain ⟨σ7, H7, I7, n7⟩ := q7; exact again I7 n7
  | cont => obtain ⟨σ7, H7, I7, n7⟩ := q7; exact again I7 n7
  | brk => obtain ⟨σ7, H7, I7, q7⟩ := q7; exact ⟨σ7, H7, I7.unpinned, q7⟩
  | ret v => obtain ⟨x7, σ7, H7, I7, r7, q7⟩ := q7; exact ⟨x7, σ7, H7, I7.unpinned, r7, q7⟩
end
theorem a3x {K : W.Frag} {a : Addr} {xs : List V} {g : TG} {tb : TS} {D : Ends} {σ : St} {H : Hp} (Pv : Nat -> St -> Hp -> Prop) (h0 : Pv 0 σ H) (hl : ∀ i σ H, i <= xs.length -> Pv i σ H -> SqL K H a xs)
  (hs : ∀ i x σ H, xs[i]? = some x -> Pv i σ H -> g x σ H fun σ2 H2 => tb { D with nx := Pv (i + 1), ct := Pv (i + 1), bk := D.nx } σ2 H2) (hd : ∀ σ H, Pv xs.length σ H -> D.nx σ H) :
  ∃ W : Nat -> Nat -> St -> Hp -> Prop, (∃ m, W 0 m σ H) /\ ∀ i m σ H, W i m σ H ->
   ((Itl K a).stop i H /\ D.nx σ H) ∨ ((Itl K a).go i H /\ ∃ N : St -> Hp -> Prop, (∀ σ' H', N σ' H' -> ∃ m', m' < m /\ W (i + 1) m' σ' H') /\ ∀ x H', (Itl K a).yld i H x H' -> g x σ H' fun σ2 H2 => tb { D with nx := N, ct := N, bk := D.nx } σ2 H2) := by
 refine ⟨fun i m σ H => m = xs.length - i /\ i <= xs.length /\ Pv i σ H, ⟨xs.length, by simp, Nat.zero_le _, h0⟩, ?_⟩
 rintro i m σ H ⟨rfl, hi, p⟩
 have q := hl i σ H hi p
 by_cases hlt : i < xs.length
 ·refine .inr ⟨⟨xs, xs[i], q, by simp [hlt]⟩, Pv (i + 1), fun σ' H' p' => ⟨xs.length - (i + 1), Nat.sub_succ_lt_self _ _ hlt, rfl, hlt, p'⟩, fun x H' y => ?_⟩
  obtain ⟨e, y⟩ := y
  subst e
  exact hs i x σ _ (y xs q) p
 ·have e : i = xs.length := by lia
  subst e
  exact .inl ⟨⟨xs, q, a0N _⟩, hd σ H p⟩
theorem c8d {K : W.Frag} {a : Addr} {xs : List V} {g : TG} {tb : TS} {D : Ends} {σ : St} {H : Hp} (Pv : Nat -> St -> Hp -> Prop) (h0 : Pv 0 σ H) (hl : ∀ i σ H, i <= xs.length -> Pv i σ H -> SqT K H a xs)
  (hs : ∀ i x σ H, xs[i]? = some x -> Pv i σ H -> g x σ H fun σ2 H2 => tb { D with nx := Pv (i + 1), ct := Pv (i + 1), bk := D.nx } σ2 H2) (hd : ∀ σ H, Pv xs.length σ H -> D.nx σ H) :
  ∃ W : Nat -> Nat -> St -> Hp -> Prop, (∃ m, W 0 m σ H) /\ ∀ i m σ H, W i m σ H ->
   ((Itt K a).stop i H /\ D.nx σ H) ∨ ((Itt K a).go i H /\ ∃ N : St -> Hp -> Prop, (∀ σ' H', N σ' H' -> ∃ m', m' < m /\ W (i + 1) m' σ' H') /\ ∀ x H', (Itt K a).yld i H x H' -> g x σ H' fun σ2 H2 => tb { D with nx := N, ct := N, bk := D.nx } σ2 H2) := by
 refine ⟨fun i m σ H => m = xs.length - i /\ i <= xs.length /\ Pv i σ H, ⟨xs.length, by simp, Nat.zero_le _, h0⟩, ?_⟩
 rintro i m σ H ⟨rfl, hi, p⟩
 have q := hl i σ H hi p
 by_cases hlt : i < xs.length
 ·refine .inr ⟨⟨xs, xs[i], q, by simp [hlt]⟩, Pv (i + 1), fun σ' H' p' => ⟨xs.length - (i + 1), Nat.sub_succ_lt_self _ _ hlt, rfl, hlt, p'⟩, fun x H' y => ?_⟩
  obtain ⟨e, y⟩ := y
  subst e
  exact hs i x σ _ (y xs q) p
 ·have e : i = xs.length := by lia
  subst e
  exact .inl ⟨⟨xs, q, a0N _⟩, hd σ H p⟩
theorem a6n {lo : Int} {n : Nat} {g : TG} {tb : TS} {D : Ends} {σ : St} {H : Hp} (Pv : Nat -> St -> Hp -> Prop) (h0 : Pv 0 σ H)
  (hs : ∀ i σ H, i < n -> Pv i σ H -> g (.int (lo + i)) σ H fun σ2 H2 => tb { D with nx := Pv (i + 1), ct := Pv (i + 1), bk := D.nx } σ2 H2) (hd : ∀ σ H, Pv n σ H -> D.nx σ H) :
  ∃ W : Nat -> Nat -> St -> Hp -> Prop, (∃ m, W 0 m σ H) /\ ∀ i m σ H, W i m σ H ->
   ((Itr lo n).stop i H /\ D.nx σ H) ∨ ((Itr lo n).go i H /\ ∃ N : St -> Hp -> Prop, (∀ σ' H', N σ' H' -> ∃ m', m' < m /\ W (i + 1) m' σ' H') /\ ∀ x H', (Itr lo n).yld i H x H' -> g x σ H' fun σ2 H2 => tb { D with nx := N, ct := N, bk := D.nx } σ2 H2) := by
 refine ⟨fun i m σ H => m = n - i /\ i <= n /\ Pv i σ H, ⟨n, by simp, Nat.zero_le _, h0⟩, ?_⟩
 rintro i m σ H ⟨rfl, hi, p⟩
 by_cases hlt : i < n
 ·refine .inr ⟨hlt, Pv (i + 1), fun σ' H' p' => ⟨n - (i + 1), Nat.sub_succ_lt_self _ _ hlt, rfl, hlt, p'⟩, fun x H' y => ?_⟩
  obtain ⟨e, y⟩ := y
  subst e y
  exact hs i σ _ hlt p
 ·have e : i = n := by lia
  subst e
  exact .inl ⟨a0N _, hd σ H p⟩
abbrev R2 := V -> V -> Hp -> VK -> Prop
def OpR (X : Cx) (f : Value -> Value -> Sem Value) (r : R2) : Prop :=
 ∀ (pins : List (Addr × Obj)) (s : Shared) (σ : St) (H : Hp) (x y : V) (v u : Value) (Q : VK), Inv X pins σ H s -> RelV x v -> RelV y u -> r x y H Q ->
  wpAny (model X.prog X.w) X.A (f v u) (EP X pins σ Q) X.xe s
def UnR (X : Cx) (f : Value -> Sem Value) (r : V -> Hp -> VK -> Prop) : Prop :=
 ∀ (pins : List (Addr × Obj)) (s : Shared) (σ : St) (H : Hp) (x : V) (v : Value) (Q : VK), Inv X pins σ H s -> RelV x v -> r x H Q ->
  wpAny (model X.prog X.w) X.A (f v) (EP X pins σ Q) X.xe s
def CallR (X : Cx) (f : Value) (r : List V -> Hp -> VK -> Prop) : Prop :=
 ∀ (pins : List (Addr × Obj)) (s : Shared) (σ : St) (H : Hp) (xs : List V) (us : List Value) (Q : VK), Inv X pins σ H s -> Vals xs us -> r xs H Q ->
  wpAny (model X.prog X.w) X.A (call f us) (EP X pins σ Q) X.xe s
def TruR (X : Cx) (r : V -> Hp -> (Bool -> Hp -> Prop) -> Prop) : Prop :=
 ∀ (pins : List (Addr × Obj)) (s : Shared) (σ : St) (H : Hp) (x : V) (v : Value) (Q : Bool -> Hp -> Prop), Inv X pins σ H s -> RelV x v -> r x H Q ->
  wpAny (model X.prog X.w) X.A (truthy v) (TP X pins σ Q) X.xe s
def tOp (r : R2) (ta tb : TE) : TE := fun σ H Q => ta σ H fun x H1 => tb σ H1 fun y H2 => r x y H2 Q
def tUn (r : V -> Hp -> VK -> Prop) (ta : TE) : TE := fun σ H Q => ta σ H fun x H1 => r x H1 Q
def rI (C : Int -> Int -> Prop) (g : Int -> Int -> V) : R2 := fun x y H Q => ∃ i j, x = .int i /\ y = .int j /\ C i j /\ Q (g i j) H
def rI0 (g : Int -> Int -> V) : R2 := fun x y H Q => ∃ i j, x = .int i /\ y = .int j /\ Q (g i j) H
def rU (g : Int -> V) : V -> Hp -> VK -> Prop := fun x H Q => ∃ i, x = .int i /\ Q (g i) H
section
variable {X : Cx} {a b c : Expr} {ta tb tc : TE} {pos : Pos}
theorem binT (ha : PE X a ta) (hb : PE X b tb) {pins : List (Addr × Obj)} {s : Shared} {σ : St} {H : Hp} {R : V -> V -> Hp -> Prop} (I : Inv X pins σ H s)
  (h : ta σ H fun x H1 => tb σ H1 fun y H2 => R x y H2) {Q : Value -> Shared -> Prop} {f : Value -> Value -> Sem Value}
  (hf : ∀ v u s2 x y H2, Inv X pins σ H2 s2 -> RelV x v -> RelV y u -> R x y H2 -> wpAny (model X.prog X.w) X.A (f v u) Q X.xe s2) :
  wpAny (model X.prog X.w) X.A (eval a X.env) (fun v s₁ => wpAny (model X.prog X.w) X.A (eval b X.env) (fun u s₂ => wpAny (model X.prog X.w) X.A (f v u) Q X.xe s₂) X.xe s₁) X.xe s := by
 refine thn (ha pins s σ H _ I h) fun v s1 ⟨x, H1, I1, r1, q1⟩ => ?_
 refine thn (hb pins s1 σ H1 _ I1 q1) fun u s2 ⟨y, H2, I2, r2, q2⟩ => ?_
 exact hf v u s2 x y H2 I2 r1 r2 q2
theorem a4l {op : Operator} {r : R2} (ho : OpR X (binaryOp op) r) (ha : PE X a ta) (hb : PE X b tb) : PE X (.BinOp a op b pos) (tOp r ta tb) := by
 intro pins s σ H Q I h
 exact wpAny_BinOp (binT ha hb I h fun v u s2 x y H2 I2 rx ry q => ho pins s2 σ H2 x y v u Q I2 rx ry q)
theorem pe_un {op : UnaryOp} {r : V -> Hp -> VK -> Prop} (ho : UnR X (unaryOp op) r) (ha : PE X a ta) : PE X (.UnaryOp op a pos) (tUn r ta) := by
 intro pins s σ H Q I h
 exact UnaryOp_ (thn (ha pins s σ H _ I h) fun v s1 ⟨x, H1, I1, r1, q1⟩ => ho pins s1 σ H1 x v Q I1 r1 q1)
theorem opI {f : Value -> Value -> Sem Value} {C : Int -> Int -> Prop} {g : Int -> Int -> Int}
  (rule : ∀ (i j : Int) (t u : Tok) (s : Shared) (Q : Value -> Shared -> Prop) (E : Value -> Shared -> Prop), C i j -> Q (.int (g i j) s.toks) { s with toks := s.toks + 1 } -> wpAny (model X.prog X.w) X.A (f (.int i t) (.int j u)) Q E s) :
  OpR X f (rI C fun i j => .int (g i j)) := by
 intro pins s σ H x y v u Q I rx ry h
 obtain ⟨i, j, rfl, rfl, hc, q⟩ := h
 obtain ⟨t, rfl⟩ := rx
 obtain ⟨t', rfl⟩ := ry
 exact rule i j t t' s _ _ hc ⟨.int (g i j), H, I.tok _, ⟨_, rfl⟩, q⟩
theorem opI0 {f : Value -> Value -> Sem Value} {g : Int -> Int -> Int}
  (rule : ∀ (i j : Int) (t u : Tok) (s : Shared) (Q : Value -> Shared -> Prop) (E : Value -> Shared -> Prop), Q (.int (g i j) s.toks) { s with toks := s.toks + 1 } -> wpAny (model X.prog X.w) X.A (f (.int i t) (.int j u)) Q E s) :
  OpR X f (rI0 fun i j => .int (g i j)) := by
 intro pins s σ H x y v u Q I rx ry h
 obtain ⟨i, j, rfl, rfl, q⟩ := h
 obtain ⟨t, rfl⟩ := rx
 obtain ⟨t', rfl⟩ := ry
 exact rule i j t t' s _ _ ⟨.int (g i j), H, I.tok _, ⟨_, rfl⟩, q⟩
theorem opB0 {f : Value -> Value -> Sem Value} {g : Int -> Int -> Bool}
  (rule : ∀ (i j : Int) (t u : Tok) (s : Shared) (Q : Value -> Shared -> Prop) (E : Value -> Shared -> Prop), Q (.bool (g i j)) s -> wpAny (model X.prog X.w) X.A (f (.int i t) (.int j u)) Q E s) :
  OpR X f (rI0 fun i j => .bl (g i j)) := by
 intro pins s σ H x y v u Q I rx ry h
 obtain ⟨i, j, rfl, rfl, q⟩ := h
 obtain ⟨t, rfl⟩ := rx
 obtain ⟨t', rfl⟩ := ry
 exact rule i j t t' s _ _ ⟨.bl (g i j), H, I, rfl, q⟩
def CDiv (i j : Int) : Prop := 0 < j /\ j < 1073741824
theorem b6e : OpR X (binaryOp .Add) (rI0 fun i j => .int (i + j)) := opI0 fun _ _ _ _ _ _ _ q => add_int q
theorem b4m : OpR X (binaryOp .FloorDiv) (rI CDiv fun i j => .int (i / j)) := opI fun i j _ _ _ _ _ hc q => by
 have h1 : (0 : Int) < j := hc.1
 have h2 : j < 1073741824 := hc.2
 exact floordiv_int (by lia) (by rw [Int.fdiv_eq_ediv_of_nonneg i (by lia)]; exact q) (.inl (PyProof.noPylong_small (by lia)))
theorem a6o : OpR X (binaryOp .Mod) (rI (fun _ j => 0 < j) fun i j => .int (i % j)) := opI fun i j _ _ _ _ _ hc q => by
 have h1 : (0 : Int) < j := hc
 exact mod_int' (by lia) (by rw [Int.fmod_eq_emod_of_nonneg i (by lia)]; exact q)
theorem unI {f : Value -> Sem Value} {g : Int -> Int}
  (rule : ∀ (i : Int) (t : Tok) (s : Shared) (Q : Value -> Shared -> Prop) (E : Value -> Shared -> Prop), Q (.int (g i) s.toks) { s with toks := s.toks + 1 } -> wpAny (model X.prog X.w) X.A (f (.int i t)) Q E s) :
  UnR X f (rU fun i => .int (g i)) := by
 intro pins s σ H x v Q I rx h
 obtain ⟨i, rfl, q⟩ := h
 obtain ⟨t, rfl⟩ := rx
 exact rule i t s _ _ ⟨.int (g i), H, I.tok _, ⟨_, rfl⟩, q⟩
theorem d0s : UnR X (unaryOp .USub) (rU fun i => .int (-i)) := unI fun _ _ _ _ _ q => neg_int q
end
def scal : V -> V -> Bool
 | .non, .non => true | .non, .int _ => true | .int _, .non => true | .non, .bl _ => true | .bl _, .non => true | .non, .str _ => true | .str _, .non => true
 | .int _, .int _ => true | .bl _, .bl _ => true | .str _, .str _ => true | .byt _, .byt _ => true
 | .int _, .str _ => true | .str _, .int _ => true | .bl _, .str _ => true | .str _, .bl _ => true
 | _, _ => false
def rEq : R2 := fun x y H Q => scal x y = true /\ Q (.bl (decide (x = y))) H
theorem c8e {i j : Int} : decide (V.int i = V.int j) = (i == j) := by
 rw [a2W]
 simp
theorem d0t {i j : Bool} : decide (V.bl i = V.bl j) = (i == j) := by
 rw [a2W]
 simp
theorem c8f {i j : Str} : decide (V.str i = V.str j) = (i == j) := by
 rw [a2W]
 simp
theorem c8g {i j : Array UInt8} : decide (V.byt i = V.byt j) = (i.toList == j.toList) := by
 rw [a2W]
 cases i
 cases j
 simp
section
variable {X : Cx} {a b c : Expr} {ta tb tc : TE} {pos : Pos}
theorem a3f {pins : List (Addr × Obj)} {σ : St} {H : Hp} {s : Shared} {Q : VK} {k k' : Bool} (I : Inv X pins σ H s) (q : Q (.bl k) H) (e : k = k') : EP X pins σ Q (.bool k') s := by
 subst e
 exact ⟨.bl k, H, I, rfl, q⟩
theorem c8h : OpR X (compareOp .Eq) rEq := by
 intro pins s σ H x y v u Q I rx ry h
 obtain ⟨hs, q⟩ := h
 cases x with
 | non =>
  cases rx
  cases y with
  | non => cases ry; exact PySem.EqNone.eq_none_none (a3f I q (by simp))
  | bl j => cases ry; exact PySem.EqNone.eq_none_bool (a3f I q (by simp))
  | int j => obtain ⟨t', rfl⟩ := ry; exact PySem.EqNone.eq_none_int (a3f I q (by simp))
  | str j => obtain ⟨t', rfl⟩ := ry; exact PySem.EqNone.eq_none_str (a3f I q (by simp))
  | _ => exact absurd (show false = true from hs) a1L
 | bl i =>
  cases rx
  cases y with
  | non => cases ry; exact PySem.EqNone.eq_bool_none (a3f I q (by simp))
  | bl j => cases ry; exact eq_bool (a3f I q d0t)
  | str j => obtain ⟨t', rfl⟩ := ry; exact PySem.EqMixed.eq_bool_str (a3f I q (by simp))
  | _ => exact absurd (show false = true from hs) a1L
 | int i =>
  obtain ⟨t, rfl⟩ := rx
  cases y with
  | non => cases ry; exact PySem.EqNone.eq_int_none (a3f I q (by simp))
  | int j => obtain ⟨t', rfl⟩ := ry; exact eq_int (a3f I q c8e)
  | str j => obtain ⟨t', rfl⟩ := ry; exact PySem.EqMixed.eq_int_str (a3f I q (by simp))
  | _ => exact absurd (show false = true from hs) a1L
 | str i =>
  obtain ⟨t, rfl⟩ := rx
  cases y with
  | non => cases ry; exact PySem.EqNone.eq_str_none (a3f I q (by simp))
  | bl j => cases ry; exact PySem.EqMixed.eq_str_bool (a3f I q (by simp))
  | int j => obtain ⟨t', rfl⟩ := ry; exact PySem.EqMixed.eq_str_int (a3f I q (by simp))
  | str j => obtain ⟨t', rfl⟩ := ry; exact eq_str (a3f I q c8f)
  | _ => exact absurd (show false = true from hs) a1L
 | byt i =>
  obtain ⟨t, rfl⟩ := rx
  cases y with
  | byt j => obtain ⟨t', rfl⟩ := ry; exact PySem.W.eq_bytes (a3f I q c8g)
  | _ => exact absurd (show false = true from hs) a1L
 | _ => cases y <;> exact absurd (show false = true from hs) a1L
theorem c0a : OpR X (compareOp .Lt) (rI0 fun i j => .bl (decide (i < j))) := opB0 fun _ _ _ _ _ _ _ q => lt_int q
theorem d0u : OpR X (compareOp .Gt) (rI0 fun i j => .bl (decide (j < i))) := opB0 fun _ _ _ _ _ _ _ q => gt_int q
theorem c0b : OpR X (compareOp .IsNot) (fun x y H Q => y = .non /\ Q (.bl (!decide (x = .non))) H) := by
 intro pins s σ H x y v u Q I rx ry h
 obtain ⟨rfl, q⟩ := h
 cases ry
 refine isnot_none_gen (a3f I q ?_)
 cases x <;> first
  | (cases rx; rfl)
  | (obtain ⟨t, rfl⟩ := rx; rfl)
theorem a2q (b : Expr) {op : CmpOp} (h : op ≠ .In := by decide) (h2 : op ≠ .NotIn := by decide) : behindInMarks op b = false := by
 have e1 : (op == CmpOp.In) = false := by cases op <;> first | rfl | exact absurd rfl h
 have e2 : (op == CmpOp.NotIn) = false := by cases op <;> first | rfl | exact absurd rfl h2
 cases b <;> simp [behindInMarks, e1, e2]
theorem b4n {op : CmpOp} {r : R2} (ho : OpR X (compareOp op) r) (ha : PE X a ta) (hb : PE X b tb) (hm : behindInMarks op b = false) : PE X (.Compare a [op] [b] pos) (tOp r ta tb) := by
 intro pins s σ H Q I h
 exact wpAny_Compare1 (binT ha hb I h fun v u s2 x y H2 I2 rx ry q => ho pins s2 σ H2 x y v u Q I2 rx ry q) hm
def tTest (t : TE) : TT := fun σ H Q => t σ H fun x H' => ∃ k, x = .bl k /\ Q k H'
theorem a1s {op : CmpOp} {r : R2} (ho : OpR X (compareOp op) r) (ha : PE X a ta) (hb : PE X b tb) (hm : behindInMarks op b = false) : PT X (.Compare a [op] [b] pos) (tTest (tOp r ta tb)) := by
 intro pins s σ H Q I h
 refine wpAny_isTrue_Compare1 (thn (ha pins s σ H _ I h) fun v s1 ⟨x, H1, I1, r1, q1⟩ => thn (hb pins s1 σ H1 _ I1 q1) fun u s2 ⟨y, H2, I2, r2, q2⟩ =>
  thn (ho pins s2 σ H2 x y v u _ I2 r1 r2 q2) fun c s3 ⟨z, H3, I3, r3, k, e, q3⟩ => ?_) hm
 subst e
 cases r3
 exact a4D ⟨H3, I3, q3⟩
def TruV (K : W.Frag) (x : V) (H : Hp) (k : Bool) : Prop :=
 match x with
 | .non => k = false
 | .bl b => k = b
 | .int i => k = (i != 0)
 | .str y => y.length <= sizeLine /\ k = ((y.length : Int) != 0)
 | .byt y => y.size <= sizeLine /\ k = ((y.size : Int) != 0)
 | .ref p => (∃ xs, SqL K H p xs /\ k = !xs.isEmpty) ∨ (∃ xs, SqT K H p xs /\ k = !xs.isEmpty) ∨ ∃ kvs, H p = some (.dK kvs) /\ k = !kvs.isEmpty
 | _ => False
theorem b8f {κ : Type} {kvs : List (κ × V)} {vs : List (κ × Value)} (r : KV kvs vs) : (!vs.isEmpty) = !kvs.isEmpty := by
 cases r <;> rfl
theorem b0c {xs : List V} {its : List Value} (r : Vals xs its) : (!its.toArray.isEmpty) = !xs.isEmpty := by
 cases r <;> simp
theorem b2l : (sizeLine : Nat) < 2 ^ 63 := by rw [a1B]; decide
theorem d0v : TruR X (fun x H Q => ∃ k, TruV X.K x H k /\ Q k H) := by
 intro pins s σ H x v Q I rx h
 obtain ⟨k, e, q⟩ := h
 have hl := b2l
 have hs : sizeLine = 16777216 := a1B
 cases x with
 | non =>
  cases rx
  have e' : k = false := e
  subst e'
  exact truthy_none ⟨H, I, q⟩
 | bl b =>
  cases rx
  have e' : k = b := e
  subst e'
  exact a4D ⟨H, I, q⟩
 | int i =>
  obtain ⟨t, rfl⟩ := rx
  have e' : k = (i != 0) := e
  subst e'
  exact PySem.P.truthy_int ⟨H, I, q⟩
 | str y =>
  obtain ⟨t, rfl⟩ := rx
  obtain ⟨hy, e'⟩ : y.length <= sizeLine /\ k = ((y.length : Int) != 0) := e
  subst e'
  exact PySem.P.truthy_str (by lia) ⟨H, I.tok _, q⟩
 | byt y =>
  obtain ⟨t, rfl⟩ := rx
  obtain ⟨hy, e'⟩ : y.size <= sizeLine /\ k = ((y.size : Int) != 0) := e
  subst e'
  exact PySem.W.truthy_bytes (by lia) ⟨H, I.tok _, q⟩
 | ref p =>
  cases rx
  have e' : (∃ xs, SqL X.K H p xs /\ k = !xs.isEmpty) ∨ (∃ xs, SqT X.K H p xs /\ k = !xs.isEmpty) ∨ ∃ kvs, H p = some (.dK kvs) /\ k = !kvs.isEmpty := e
  rcases e' with ⟨xs, hx, e'⟩ | ⟨xs, hx, e'⟩ | ⟨kvs, hx, e'⟩
  ·subst e'
   obtain ⟨its, r, pl, hz⟩ := I.list hx
   have hlen := r.length
   exact wpAny_truthy_list pl.isList (by simp only [List.size_toArray]; lia) ⟨H, I.tok _, by rw [b0c r]; exact q⟩
  ·subst e'
   obtain ⟨its, r, pl, hz⟩ := I.tuple hx
   have hlen := r.length
   exact truthy_tuple pl (by simp only [List.size_toArray]; lia) ⟨H, I.tok _, by rw [b0c r]; exact q⟩
  ·subst e'
   obtain ⟨hz, hS, vs, r, m⟩ : kvs.length <= sizeLine /\ (p == sysModules) = false /\ ∃ vs, KV kvs vs /\ s.heap.DictOf (a1r X.prog X.w) p vs := I.hok p _ hx
   have hlen : kvs.length = vs.length := a4T r
   exact wpAny_truthy_dict hS m (by lia) ⟨H, I.tok _, by rw [b8f r]; exact q⟩
 | _ => exact (show False from e).elim
theorem b6f (ha : PE X a ta) (he : ∀ whole, isTrue a X.env whole = (do let v <- whole; standAt a.pos; holding [v] (truthy v))) :
  PT X a (fun σ H Q => ta σ H fun x H' => ∃ k, TruV X.K x H' k /\ Q k H') := by
 intro pins s σ H Q I h
 exact isTrue_plain (thn (ha pins s σ H _ I h) fun v s1 ⟨x, H1, I1, r1, q1⟩ => d0v pins s1 σ H1 x v Q I1 r1 q1) (he _)
theorem a4f {x : V} {us : List Value} (r : Vals [x] us) : ∃ u, us = [u] /\ RelV x u := by
 cases r with
 | cons r1 r2 => cases r2; exact ⟨_, rfl, r1⟩
end
theorem RelO.some_of {v : V} {o : Option Value} (r : RelO (some v) o) : ∃ u, o = some u /\ RelV v u := by
 cases o with
 | none => exact (show False from r).elim
 | some u => exact ⟨u, rfl, r⟩
structure Room (k : Nat) (A : Around) : Prop where
 hd : A.handled = none
 dp : A.depth + 3 * k + 5 < recursionLimit
 un : A.units + 16 * k + 200 < cLine
theorem Room.mono {j k : Nat} {A : Around} (r : Room k A) (h : j <= k) : Room j A := ⟨r.hd, by have := r.dp; lia, by have := r.un; lia⟩
theorem Room.deeper {k : Nat} {A : Around} (r : Room (k + 1) A) (env : Env) : Room k (A.deeper env) :=
 ⟨r.hd, by have := r.dp; show A.depth + 1 + 3 * k + 5 < _; lia, by have := r.un; show A.units + 3 + 16 * k + 200 < _; lia⟩
theorem Room.in1 {k : Nat} {A : Around} (r : Room (k + 1) A) : Room k A.in1 :=
 ⟨r.hd, by have := r.dp; show A.depth + 3 * k + 5 < _; lia, by have := r.un; show A.units + 1 + 16 * k + 200 < _; lia⟩
theorem Room.depth {k : Nat} {A : Around} (r : Room k A) : A.depth < recursionLimit := by have := r.dp; lia
theorem Room.units {k : Nat} {A : Around} (r : Room k A) : A.units + 64 < cLine := by have := r.un; lia
def b9t : TA := fun _ H Q => Q [] H
def a7e (ta : TE) (tr : TA) : TA := fun σ H Q => ta σ H fun x H1 => tr σ H1 fun xs H2 => Q (x :: xs) H2
section
variable {X : Cx} {e : Expr} {es : List Expr} {te : TE} {t : TA} {pos : Pos}
theorem a0j : PA X [] b9t := fun _ _ _ _ H Q I h => Calls.spliced_nil ⟨[], H, I, .nil, h⟩
theorem a0g (ha : PE X e te) (hr : PA X es t) (hs : starEach (e :: es) X.env = (false, eval e X.env) :: starEach es X.env := by rfl) : PA X (e :: es) (a7e te t) := by
 intro pos pins s σ H Q I h
 rw [hs]
 show wpAny _ _ (spliced ((false, eval e X.env) :: backTo pos (starEach es X.env))) _ _ s
 refine Calls.spliced_cons (thn (ha pins s σ H _ I h) fun u s1 ⟨x, H1, I1, r1, q1⟩ => ?_)
 exact thn (hr pos pins s1 σ H1 _ I1 q1) fun us s2 ⟨xs, H2, I2, r2, q2⟩ => ⟨x :: xs, H2, I2, .cons r1 r2, q2⟩
def tTup (t : TA) : TE := fun σ H Q => t σ H fun xs H1 => xs.length <= sizeLine /\ ∀ p, H1 p = none -> Q (.ref p) (upd H1 p (.tup xs))
def d0w (t : TA) : TE := fun σ H Q => t σ H fun xs H1 => xs.length <= sizeLine /\ ∀ p, H1 p = none -> Q (.ref p) (upd H1 p (.lst xs))
theorem c0c {x1} (h : PA X es t) : PE X (.Tuple es x1 pos) (tTup t) := by
 intro pins s σ H Q I hq
 refine wpAny_Tuple_spliced (thn (h pos pins s σ H _ I hq) fun us s1 ⟨xs, H1, I1, r, z, q⟩ => ⟨by rw [<- r.length]; exact z, ?_⟩)
 have hf : H1 s1.heap.objs.size = none := I1.hok.fresh (a0N _)
 refine ⟨.ref s1.heap.objs.size, upd H1 s1.heap.objs.size (.tup xs), I1.laid (t' := s1.toks) (fun b u e => a0I _ e) (a0N _) ?_, rfl, q _ hf⟩
 exact ⟨z, us, r, ⟨_, a0R _ rfl, rfl, _, rfl, rfl⟩⟩
theorem a3y (h : PA X es t) : PE X (.List es pos) (d0w t) := by
 intro pins s σ H Q I hq
 refine wpAny_List_spliced (thn (h pos pins s σ H _ I hq) fun us s1 ⟨xs, H1, I1, r, z, q⟩ => ⟨by rw [<- r.length]; exact z, ?_⟩)
 have hf : H1 s1.heap.objs.size = none := I1.hok.fresh (a0N _)
 refine ⟨.ref s1.heap.objs.size, upd H1 s1.heap.objs.size (.lst xs), I1.laid (t' := s1.toks) (fun b u e => a0I _ e) (a0N _) ?_, rfl, q _ hf⟩
 exact ⟨z, us, 0, r, a0R _ rfl⟩
end
abbrev Sp := List V -> Hp -> VK -> XK -> Prop
abbrev CXT := List Env -> Hp -> Shared -> XK -> Value -> Shared -> Prop
structure Env0 (P : Program) (w : World) (K : W.Frag) (mg : Str -> Option Value) (base : Heap) (A : Around) (outer : List Env) (s : Shared) (H : Hp) : Prop where
 frames : A.frames = some outer
 mod : Mod K mg base
 bs : ∀ b o, base.get? b = some o -> s.heap.get? b = some o /\ H b = none
 bsz : base.objs.size <= s.heap.objs.size
 funs : s.heap.FunFrames base outer
 frf : ∀ b ∈ frs outer, H b = none
 hok : HOk P w H s.heap
 bare : AllBare s.gens
def CE (outer : List Env) (P : Program) (w : World) (H : Hp) (s : Shared) (Q : VK) (u : Value) (s' : Shared) : Prop :=
 ∃ v H', s'.os = s.os /\ AllBare s'.gens /\ Un (frs outer) [] H H' s.heap s'.heap /\ HOk P w H' s'.heap /\ RelV v u /\ Q v H'
def CR (CX : CXT) (outer : List Env) (P : Program) (w : World) (H : Hp) (s : Shared) (Q : VK) (E : XK) (r : Result) (s' : Shared) : Prop :=
 match r with
 | .ok (.ret u) => CE outer P w H s Q u s'
 | .ok _ => False
 | .error e => CX outer H s E e s'
structure FnOk (P : Program) (w : World) (K : W.Frag) (mg : Str -> Option Value) (base : Heap) (CX : CXT) (k : Nat) (f : Addr) (fd : FuncData) (ps : List Str) (sp : Sp) : Prop where
 len : ∀ vs H Q E, sp vs H Q E -> vs.length = ps.length
 run : ∀ (A : Around) (outer : List Env) (s : Shared) (H : Hp) (args : Args) (us : List Value) (vs : List V) (Q : VK) (E : XK), Room k A -> Env0 P w K mg base A outer s H -> BindsTo s fd args (ps.zip us) -> Vals vs us -> sp vs H Q E ->
  codeAny (model P w) A (.call (.ref f) args) (CR CX outer P w H s Q E) s
theorem Env0.in1 {P : Program} {w : World} {K : W.Frag} {mg : Str -> Option Value} {base : Heap} {A : Around} {outer : List Env} {s : Shared} {H : Hp} (e : Env0 P w K mg base A outer s H) :
  Env0 P w K mg base A.in1 outer s H := ⟨e.frames, e.mod, e.bs, e.bsz, e.funs, e.frf, e.hok, e.bare⟩
section
variable {X : Cx} {pins : List (Addr × Obj)} {σ : St} {H : Hp} {s s' : Shared}
theorem Inv.env0 (I : Inv X pins σ H s) : Env0 X.prog X.w X.K X.mg X.base X.A X.stack s H :=
 ⟨I.ok.frames, I.ok.mod, I.bs, a1A I.ok.bsz I.sz, I.stack, I.stkFree, I.hok, I.bare⟩
theorem Inv.after {Q : VK} {u : Value} (I : Inv X pins σ H s) (h : CE X.stack X.prog X.w H s Q u s') : EP X pins σ Q u s' := by
 obtain ⟨v, H', os, bare, un, hok, r, q⟩ := h
 obtain ⟨hh, g, d, t, os'⟩ := s'
 obtain rfl : os' = s.os := os
 exact ⟨v, H', I.call (h' := hh) (g' := g) (d' := d) (t' := t) (ch := []) un hok bare (fun b z => absurd z (by simp)), r, q⟩
end
def c4q (sp : Sp) (dvs : List V) (E : XK) (t : TA) : TE := fun σ H Q => t σ H fun vs H1 => sp (vs ++ dvs) H1 Q E
def Binds (K : W.Frag) (fd : FuncData) (ps : List Str) (ds : List Value) : Prop :=
 ∀ (s : Shared) (us : List Value), K.In s.heap -> (us ++ ds).length = ps.length -> BindsTo s fd ⟨us, []⟩ (ps.zip (us ++ ds))
theorem Binds.all {K : W.Frag} {fd : FuncData} {ps : List Str} (h : ∀ us : List Value, us.length = ps.length -> bindArgs fd ⟨us, []⟩ = pure (ps.zip us)) : Binds K fd ps [] := fun s us _ hl => by
 rw [a2J] at hl ⊢
 exact .of_eq (h us hl)
def c0d (CX : CXT) (X : Cx) (E : XK) : Prop := ∀ (pins : List (Addr × Obj)) (σ : St) (H : Hp) (s : Shared) (e : Value) (s' : Shared), Inv X pins σ H s -> CX X.stack H s E e s' -> X.xe e s'
section
variable {X : Cx} {CX : CXT} {k : Nat} {f C : Addr} {fd : FuncData} {ps : List Str} {sp : Sp} {dvs : List V} {ds : List Value} {E : XK} {x m : Str} {p pos apos : Pos} {e o : Expr} {es : List Expr} {ta : TE} {t : TA}
theorem c6v {pins : List (Addr × Obj)} {σ : St} {H : Hp} {s : Shared} {Q : VK} {us : List Value} {vs : List V} (F : FnOk X.prog X.w X.K X.mg X.base CX k f fd ps sp) (hr : Room k X.A) (hb : Binds X.K fd ps ds) (hd : Vals dvs ds) (hx : c0d CX X E)
  (I : Inv X pins σ H s) (r : Vals vs us) (h : sp (vs ++ dvs) H Q E) : wpAny (model X.prog X.w) X.A (call (.ref f) us) (EP X pins σ Q) X.xe s := by
 have r2 : Vals (vs ++ dvs) (us ++ ds) := r.append hd
 have hl : (us ++ ds).length = ps.length := by rw [<- r2.length]; exact F.len _ _ _ _ h
 refine b0F (a5A (F.run X.A X.stack s H ⟨us, []⟩ (us ++ ds) (vs ++ dvs) Q E hr I.env0 (hb s us I.kIn hl) r2 h) fun r s' hq => ?_)
 cases r with
 | error e => exact hx pins σ H s e s' I hq
 | ok fl =>
  cases fl with
  | ret u => exact I.after hq
  | next => exact False.elim hq
  | brk => exact False.elim hq
  | cont => exact False.elim hq
theorem c8i (F : FnOk X.prog X.w X.K X.mg X.base CX k f fd ps sp) (hr : Room k X.A) (hg : Gl X x) (hm : X.mg x = some (.ref f)) (hk : PySem.W.keepIn X.K (.ref f) = true) (hb : Binds X.K fd ps ds) (hd : Vals dvs ds) (hx : c0d CX X E)
  (ha : PA X (e :: es) t) (hdb : (x == ("__debug__" : Str)) = false := by decide) (he : starEach (e :: es) X.env = (false, eval e X.env) :: starEach es X.env := by rfl) (hpl : (backTo pos (starEach es X.env)).any (·.1) = false := by rfl) :
  PE X (.Call (.Name x p) (e :: es) [] pos) (c4q sp dvs E t) := by
 intro pins s σ H Q I h
 refine a5B (b4l I hg hm ?_ hdb)
 refine PySem.W.callWith_K (h₀ := X.base) I.ok.mod.kin hk (thn (ha pos pins s σ H _ I h) fun us s1 ⟨vs, H1, I1, r, q⟩ => ⟨I1.kIn, ?_⟩) he hpl
 exact c6v F hr hb hd hx I1 r q
structure Mk (K : W.Frag) (C f : Addr) : Prop where
 makes : PySem.W.makesIn K C = true
 init : PySem.W.findIn K (.ref C) "__init__" = some (some (.ref f))
 fn : PySem.W.isFn K (.ref f) = true
 kp : PySem.W.keepIn K (.ref C) = true
end
structure FnScope (N P : List Str) (sc : Scope) : Prop where
 kind : sc.kind = .function := by rfl
 co : sc.isCoroutine = false := by rfl
 gen : sc.isGenerator = false := by rfl
 nd : N.Nodup := by decide +kernel
 pre : N.take P.length = P := by rfl
 par : ∀ x ∈ P, sc.names.lookup x = some .local ∨ sc.names.lookup x = some .cell := by decide +kernel
 nofree : ∀ y ∈ sc.names, y.2 ≠ .free := by decide +kernel
theorem b2m {kindOf : Str -> Option NameKind} {x : Str} : ∀ {binds : List (Str × Value)} {m : Str -> Option Value}, (∀ v, (x, v) ∉ binds) -> bindL kindOf binds m x = m x
 | [], _, _ => rfl
 | (n, v) :: r, m, h => by
  unfold bindL
  rw [b2m fun w hw => h w (a0V _ hw)]
  split
  ·have : x ≠ n := by rintro rfl; exact h v a0S
   simp [this]
  ·rfl
theorem b2n {kindOf : Str -> Option NameKind} {x : Str} : ∀ {binds : List (Str × Value)} {m : Str -> Option Value}, (∀ v, (x, v) ∉ binds) -> bindC kindOf binds m x = m x
 | [], _, _ => rfl
 | (n, v) :: r, m, h => by
  unfold bindC
  rw [b2n fun w hw => h w (a0V _ hw)]
  split
  ·rfl
  ·have : x ≠ n := by rintro rfl; exact h v a0S
   simp [this]
theorem b2o {kindOf : Str -> Option NameKind} {x : Str} {v : Value} : ∀ {P : List Str} {vs : List Value} {i : Nat} {m : Str -> Option Value}, P.Nodup -> P[i]? = some x -> vs[i]? = some v -> kindOf x = some .local ->
  bindL kindOf (P.zip vs) m x = some v
 | [], _, _, _, _, h, _, _ => by simp at h
 | _ :: _, [], _, _, _, _, h, _ => by simp at h
 | p :: P, w :: vs, 0, m, nd, h1, h2, hk => by
  simp at h1 h2; subst h1; subst h2
  show bindL kindOf ((p, w) :: P.zip vs) m p = _
  unfold bindL
  rw [b2m fun v hv => (a2X.mp nd).1 (a8O hv).1, if_pos hk]
  simp
 | p :: P, w :: vs, i + 1, m, nd, h1, h2, hk => by
  show bindL kindOf ((p, w) :: P.zip vs) m x = _
  unfold bindL
  exact b2o (i := i) (a2X.mp nd).2 (by simpa using h1) (by simpa using h2) hk
theorem b2p {kindOf : Str -> Option NameKind} {x : Str} {v : Value} : ∀ {P : List Str} {vs : List Value} {i : Nat} {m : Str -> Option Value}, P.Nodup -> P[i]? = some x -> vs[i]? = some v -> kindOf x ≠ some .local ->
  bindC kindOf (P.zip vs) m x = some v
 | [], _, _, _, _, h, _, _ => by simp at h
 | _ :: _, [], _, _, _, _, h, _ => by simp at h
 | p :: P, w :: vs, 0, m, nd, h1, h2, hk => by
  simp at h1 h2; subst h1; subst h2
  show bindC kindOf ((p, w) :: P.zip vs) m p = _
  unfold bindC
  rw [b2n fun v hv => (a2X.mp nd).1 (a8O hv).1, if_neg hk]
  simp
 | p :: P, w :: vs, i + 1, m, nd, h1, h2, hk => by
  show bindC kindOf ((p, w) :: P.zip vs) m x = _
  unfold bindC
  exact b2p (i := i) (a2X.mp nd).2 (by simpa using h1) (by simpa using h2) hk
def start (N : List Str) (vs : List V) : St := vs.map some ++ List.replicate (N.length - vs.length) none
def c8j (CX : CXT) (P : Program) (w : World) (K : W.Frag) (mg : Str -> Option Value) (base : Heap) (N : List Str) (qual : Str) (scope : Scope) (f : Addr) (cd : Value) (A : Around) (outer : List Env) (s : Shared) (H : Hp) (E : XK) : Cx where
 prog := P
 w := w
 K := K
 mg := mg
 base := base
 A := A.deeper (envOfC qual scope s.heap.objs.size f cd)
 N := N
 s₀ := s
 H₀ := H
 env := envOfC qual scope s.heap.objs.size f cd
 outer := outer
 stack := envOfC qual scope s.heap.objs.size f cd :: outer
 ex := []
 calm := true
 fn := fun _ => true
 pn := []
 xe := fun e s' => wpAny (model P w) (A.deeper (envOfC qual scope s.heap.objs.size f cd)) (leaving (envOfC qual scope s.heap.objs.size f cd) e) (fun _ s'' => CX outer H s E e s'') (fun e' s'' => CX outer H s E e' s'') s'
theorem b6g {sc : Scope} {n : Nat} {x : Str} (h : sc.names.lookup x = some .cell) : ∃ c, (cellsFrom n sc.names []).lookup x = some c := by
 have q := PySem.W.cellsFrom_some sc.names n [] (.inl h)
 exact Option.isSome_iff_exists.mp q
theorem c0e {CX : CXT} {P : Program} {w : World} {K : W.Frag} {mg : Str -> Option Value} {base : Heap} {N ps : List Str} {qual : Str} {scope : Scope} {f : Addr} {cd : Value} {A : Around} {outer : List Env} {s s1 : Shared} {H : Hp} {E : XK} {us : List Value} {vs : List V}
  (S : FnScope N ps scope) (hd : A.handled = none) (e0 : Env0 P w K mg base A outer s H) (hl : vs.length = ps.length) (r : Vals vs us)
  (x : InCallC s s.heap.objs.size (bindL (envOfC qual scope s.heap.objs.size f cd).kindOf (ps.zip us) fun _ => none) (cellsFrom (s.heap.objs.size + 1) scope.names []) (bindC (envOfC qual scope s.heap.objs.size f cd).kindOf (ps.zip us) fun _ => none) s1) :
  Inv (c8j CX P w K mg base N qual scope f cd A outer s H E) [] (start N vs) H s1 := by
 have hpl : ps.length <= N.length := by have := a2C List.length S.pre; rw [a1U] at this; lia
 obtain ⟨h1, tk, rfl, hk⟩ := x.done
 have noA : ∀ b : Addr, b ∉ (c8j CX P w K mg base N qual scope f cd A outer s H E).ex := fun b z => absurd (show b ∈ ([] : List Addr) from z) (by simp)
 refine ⟨⟨e0.mod, S.kind, rfl, rfl, a0N _, fun y z c h1 h2 => ?_, fun y hy => ?_, fun y c _ h => ?_, fun _ => hd, Around.frames_deeper e0.frames, .inr ⟨rfl, rfl⟩, fun b z => absurd z (noA b), e0.bs, e0.bsz, fun b _ _ => noA b, fun b z => absurd z (noA b), e0.funs, e0.frf⟩,
  rfl, e0.bare, Un.kept hk, ⟨_, x.toInCall.ns, fun i y v h1 h2 h3 => ?_⟩, fun y c h => ⟨_, x.cell y c h⟩, e0.hok.fresh (a0N _), fun y c h => ?_, fun p hp => absurd (show p ∈ ([] : List (Addr × Obj)) from hp) (by simp), e0.hok.kept hk, ?_⟩
 ·exact name_of_addr x.apart (a3H h1) (a3H h2)
 ·have hy : scope.names.lookup y = some .cell ∨ scope.names.lookup y = some .free := hy
  rcases hy with hy | hy
  ·exact b6g hy
  ·exact absurd rfl (S.nofree _ (a3H hy))
 ·exact a3G (x.above y c (a3H h))
 ·have hi : i < vs.length := by
   unfold start at h2
   by_cases hi : i < vs.length
   ·exact hi
   ·rw [a0T (by simpa using hi)] at h2
    rw [List.getElem?_replicate] at h2
    split at h2 <;> cases h2
  have ha : vs[i]? = some v := by
   unfold start at h2
   rw [a0P (by simpa using hi), List.getElem?_map] at h2
   cases e : vs[i]? with
   | none => rw [e] at h2; cases h2
   | some a => rw [e] at h2; cases h2; rfl
  obtain ⟨u, hu, rv⟩ := r.get ha
  have hp : ps[i]? = some y := by
   rw [<- S.pre, List.getElem?_take_of_lt (by lia)]; exact h1
  have ndP : ps.Nodup := by rw [<- S.pre]; exact S.nd.sublist (a5J _ _)
  refine ⟨u, rv, ?_⟩
  rcases S.par y (a0H hp) with k | k
  ·exact .inl ⟨k, b2o ndP hp hu k⟩
  ·obtain ⟨c, e⟩ := b6g (n := s.heap.objs.size + 1) k
   refine .inr ⟨.inl k, c, e, ?_⟩
   have q := x.cell y c e
   rw [b2p ndP hp hu (by show scope.names.lookup y ≠ _; rw [k]; decide)] at q
   exact q
 ·exact e0.hok.fresh (a3G (x.above y c (a3H h)))
 ·unfold start
  show _ = N.length
  rw [a0Z, a0D, List.length_replicate]
  lia
theorem d0x {CX : CXT} {P : Program} {w : World} {K : W.Frag} {mg : Str -> Option Value} {base : Heap} {k : Nat} {f : Addr} {name qual : Str} {params : Arguments} {body : List Stmt} {scope : Scope} {dV kV doc pm cdv ct oc : Value} {an od : Option Addr}
  {osl : Array (Option Value)} {N ps : List Str} {sp : Sp} (lk : K.lookup f = some ⟨oc, od, .func (PySem.W.fnOf name qual params body scope dV kV doc pm an cdv ct), osl⟩) (hcd : PySem.W.codeIn K cdv qual = true) (S : FnScope N ps scope)
  (len : ∀ vs H Q E, sp vs H Q E -> vs.length = ps.length)
  (hbody : ∀ (A : Around) (outer : List Env) (s : Shared) (H : Hp) (vs : List V) (Q : VK) (E : XK), Room k (A.deeper (envOfC qual scope s.heap.objs.size f cdv)) -> sp vs H Q E ->
   ∃ t, PSs (c8j CX P w K mg base N qual scope f cdv A outer s H E) body t /\ t { nx := fun _ H' => Q .non H', rt := Q } (start N vs) H) :
  FnOk P w K mg base CX (k + 1) f (PySem.W.fnOf name qual params body scope dV kV doc pm an cdv ct) ps sp := by
 refine ⟨len, fun A outer s H args us vs Q E hr e0 hb r hsp => ?_⟩
 have hl := len _ _ _ _ hsp
 have KX : K.In s.heap := e0.mod.kin.keeps fun b o e => (e0.bs b o e).1
 have lim : s.heap.NoLimit := e0.mod.nolimit.keeps fun b o e => (e0.bs b o e).1
 have hkind : ∀ y ∈ ps.zip us, scope.names.lookup y.1 = some .local ∨ (scope.names.lookup y.1 = some .cell /\ ((cellsFrom (s.heap.objs.size + 1) scope.names []).lookup y.1).isSome = true) := fun ⟨n, v⟩ hy => by
  rcases S.par n (a8O hy).1 with q | q
  ·exact .inl q
  ·exact .inr ⟨q, PySem.W.cellsFrom_some _ _ _ (.inl q)⟩
 refine codeAny_call_function hr.depth (KX _ _ lk) rfl S.co S.gen rfl (PySem.W.codeRec_of KX hcd) (hb _ _ _ _ ?_)
 refine wpAny_newFunctionEnv_cells S.kind hkind fun env he s1 x => ?_
 subst he
 refine ⟨lim.keeps x.toInCall.keep, codeAny_func ?_⟩
 obtain ⟨t, ht, hq⟩ := hbody A outer s H vs Q E (hr.deeper _) hsp
 have I : Inv (c8j CX P w K mg base N qual scope f cdv A outer s H E) [] (start N vs) H s1 := c0e S hr.hd e0 hl r x
 refine a3D (ht [] s1 (start N vs) H _ I hq) (fun fl s' hs => ?_) fun e s' hs => hs
 have fin : ∀ {σ' : St} {H' : Hp} {v : V} {u : Value}, Inv (c8j CX P w K mg base N qual scope f cdv A outer s H E) [] σ' H' s' -> RelV v u -> Q v H' -> CE outer P w H s Q u s' :=
  fun {σ' H' v u} J rv q => ⟨v, H', J.os, J.bare, J.base, J.hok, rv, q⟩
 cases fl with
 | ret u =>
  obtain ⟨v, σ', H', J, rv, q⟩ := hs
  exact fin J rv q
 | next =>
  obtain ⟨σ', H', J, q⟩ := hs
  exact fin (v := V.non) (u := Value.none) J rfl q
 | brk =>
  obtain ⟨_, _, _, q⟩ := hs
  exact False.elim q
 | cont =>
  obtain ⟨_, _, _, q⟩ := hs
  exact False.elim q
section
variable {X : Cx} {x : Str} {p pos : Pos} {e : Expr} {es : List Expr} {t : TA} {id T : String} {r : List V -> Hp -> VK -> Prop}
def tCB (r : List V -> Hp -> VK -> Prop) (t : TA) : TE := fun σ H Q => t σ H fun vs H1 => r vs H1 Q
theorem a0v (hc : CallR X (.builtin id) r) (hg : Gl X x) (hm : X.mg x = none) (hv : bootBuiltins x = some (.builtin id)) (ha : PA X (e :: es) t) (hn : x ≠ "__name__" := by decide) (hdb : (x == ("__debug__" : Str)) = false := by decide)
  (he : starEach (e :: es) X.env = (false, eval e X.env) :: starEach es X.env := by rfl) (hpl : (backTo pos (starEach es X.env)).any (·.1) = false := by rfl) : PE X (.Call (.Name x p) (e :: es) [] pos) (tCB r t) := by
 intro pins s σ H Q I h
 refine a5B (b5z I hg hm hv ?_ hn hdb)
 exact PyProof.Rows.callWith_builtin1 (thn (ha pos pins s σ H _ I h) fun us s1 ⟨vs, H1, I1, r1, q1⟩ => hc pins s1 σ H1 vs us Q I1 r1 q1) he hpl
theorem a1a (hc : CallR X (.type T) r) (hg : Gl X x) (hm : X.mg x = none) (hv : bootBuiltins x = some (.type T)) (ha : PA X (e :: es) t) (hn : x ≠ "__name__" := by decide) (hdb : (x == ("__debug__" : Str)) = false := by decide)
  (he : starEach (e :: es) X.env = (false, eval e X.env) :: starEach es X.env := by rfl) (hpl : (backTo pos (starEach es X.env)).any (·.1) = false := by rfl) : PE X (.Call (.Name x p) (e :: es) [] pos) (tCB r t) := by
 intro pins s σ H Q I h
 refine a5B (b5z I hg hm hv ?_ hn hdb)
 exact a8N (thn (ha pos pins s σ H _ I h) fun us s1 ⟨vs, H1, I1, r1, q1⟩ => hc pins s1 σ H1 vs us Q I1 r1 q1) he hpl
end
end L2
namespace HT
open PySem PyProof.Rows
theorem eqAt_int (A : Around) (s : Shared) (a : Int) (t : Tok) (c : Int) (u : Tok) : ∃ e, SeqAt.EqAt A s (.int a t) (.int c u) e /\ (e = true ↔ a = c) :=
 ⟨(a == c), SeqAt.EqAt.int_int a t c u, by simp⟩
end HT
namespace L2
open PySem PySem.Spec PyProof.Rows
abbrev TO := St -> Hp -> (Option Int -> Hp -> Prop) -> Prop
theorem a7f {ns : List Int} : ∀ {us : List Value}, Vals (ns.map V.int) us -> IntsAre us ns := by
 induction ns with
 | nil => intro us r; rw [a9R] at r; cases r; exact .nil
 | cons n ns ih =>
  intro us r
  rw [a2M] at r
  cases r with
  | cons r1 r2 =>
   obtain ⟨t, e⟩ := r1
   subst e
   exact .cons n t (ih r2)
def ixN (n : Nat) (i : Int) : Option Nat := if 0 <= i then (if i < n then some i.toNat else none) else if -(n : Int) <= i then some (i + n).toNat else none
def atI {α : Type} (xs : List α) (i : Int) : Option α := (ixN xs.length i).bind fun j => xs[j]?
theorem c0f {n : Nat} {i : Int} {j : Nat} (h : ixN n i = some j) : seqIndex? i n = some j /\ j < n /\ -(n : Int) <= i /\ i < n := by
 unfold ixN at h
 by_cases h0 : 0 <= i
 ·rw [if_pos h0] at h
  by_cases h1 : i < n
  ·rw [if_pos h1] at h
   have e : i.toNat = j := a1S h
   exact ⟨by rw [seqIndex_of h0 h1, e], by lia, by lia, h1⟩
  ·rw [if_neg h1] at h; cases h
 ·rw [if_neg h0] at h
  by_cases h1 : -(n : Int) <= i
  ·rw [if_pos h1] at h
   have e : (i + n).toNat = j := a1S h
   exact ⟨by rw [seqIndex_neg (by lia) h1, e], by lia, h1, by lia⟩
  ·rw [if_neg h1] at h; cases h
theorem c0g {α : Type} {xs : List α} {i : Int} {v : α} (h : atI xs i = some v) : ∃ j, seqIndex? i xs.length = some j /\ xs[j]? = some v /\ j < xs.length /\ -(xs.length : Int) <= i /\ i < xs.length := by
 unfold atI at h
 cases e : ixN xs.length i with
 | none => rw [e] at h; cases h
 | some j =>
  rw [e] at h
  obtain ⟨h1, h2, h3, h4⟩ := c0f e
  exact ⟨j, h1, h, h2, h3, h4⟩
theorem a2r {α : Type} {xs : List α} {j : Nat} {v : α} (h : xs[j]? = some v) : atI xs (j : Int) = some v := by
 have hj : j < xs.length := (a0B.mp h).1
 have e : ixN xs.length (j : Int) = some j := by
  unfold ixN
  rw [if_pos (by lia), if_pos (by lia)]; simp
 unfold atI; rw [e]; exact h
def c8k (b : Expr) : Prop := ∀ o i, subscripted b false o i = operate [o, i] (getItem o i)
def IxR (X : Cx) (r : R2) : Prop :=
 ∀ (value slice : Expr) (pins : List (Addr × Obj)) (s : Shared) (σ : St) (H : Hp) (x y : V) (v u : Value) (Q : VK), Inv X pins σ H s -> RelV x v -> RelV y u -> r x y H Q ->
  subscripted slice false v u = operate [v, u] (getItem v u) -> wpAny (model X.prog X.w) X.A (subscriptTail value slice v u) (EP X pins σ Q) X.xe s
def MtR (X : Cx) (id : String) (r : V -> List V -> Hp -> VK -> Prop) : Prop :=
 ∀ (pins : List (Addr × Obj)) (s : Shared) (σ : St) (H : Hp) (x : V) (xs : List V) (v : Value) (us : List Value) (Q : VK), Inv X pins σ H s -> RelV x v -> Vals xs us -> r x xs H Q ->
  wpAny (model X.prog X.w) X.A (call (.builtin id) (v :: us)) (EP X pins σ Q) X.xe s
section
variable {X : Cx} {a b : Expr} {ta tb : TE} {pos : Pos}
theorem a1x {r : R2} (hr : IxR X r) (ha : PE X a ta) (hb : PE X b tb) (hs : c8k b) : PE X (.Subscript a b pos) (tOp r ta tb) := by
 intro pins s σ H Q I h
 exact Subscript_ (binT ha hb I h fun v u s2 x y H2 I2 rx ry q => hr a b pins s2 σ H2 x y v u Q I2 rx ry q (hs _ _))
def rIxL (K : W.Frag) : R2 := fun x y H Q => ∃ p xs i v, x = .ref p /\ y = .int i /\ SqL K H p xs /\ atI xs i = some v /\ Q v H
def rIxT (K : W.Frag) : R2 := fun x y H Q => ∃ p xs i v, x = .ref p /\ y = .int i /\ SqT K H p xs /\ atI xs i = some v /\ Q v H
theorem a2e : IxR X (rIxL X.K) := by
 intro value slice pins s σ H x y v u Q I rx ry h hs
 obtain ⟨p, xs, i, z, rfl, rfl, hq, he, q⟩ := h
 cases rx
 obtain ⟨t, rfl⟩ := ry
 obtain ⟨its, r, pl, hz⟩ := I.list hq
 obtain ⟨j, h1, h2, h3, h4, h5⟩ := c0g he
 obtain ⟨w, ew, rw'⟩ := r.get h2
 have hl := r.length
 have hn := b2l
 have fin : EP X pins σ Q w s := ⟨z, H, I, rw', q⟩
 by_cases h0 : 0 <= i
 ·have hj : i.toNat = j := by
   rw [seqIndex_of h0 h5] at h1
   exact a1S h1
  exact item_listR pl.isList h0 (by lia) (by rw [hj]; simpa using ew) fin hs
 ·have hj : (i + (its.toArray.size : Int)).toNat = j := by
   rw [seqIndex_neg (by lia) h4] at h1
   rw [a0U, <- hl]
   exact a1S h1
  exact subscriptTail_builtinR (x := w) pl.isList.typeIs slot_list_getitem.lookup
   (wpAny_getItem_list_neg (Q := fun r s' => r = w /\ EP X pins σ Q r s') pl.isList (by lia) (by rw [a0U] <;> lia) (by lia) (by rw [hj]; simpa using ew) ⟨rfl, fin⟩) hs
theorem a2k : IxR X (rIxT X.K) := by
 intro value slice pins s σ H x y v u Q I rx ry h hs
 obtain ⟨p, xs, i, z, rfl, rfl, hq, he, q⟩ := h
 cases rx
 obtain ⟨t, rfl⟩ := ry
 obtain ⟨its, r, pl, hz⟩ := I.tuple hq
 obtain ⟨j, h1, h2, h3, h4, h5⟩ := c0g he
 obtain ⟨w, ew, rw'⟩ := r.get h2
 have hl := r.length
 have hn := b2l
 have fin : EP X pins σ Q w s := ⟨z, H, I, rw', q⟩
 exact subscriptTail_builtinR (x := w) pl.typeIs slot_tuple_getitem.lookup
  (getItem_tuple (j := j) (Q := fun r s' => r = w /\ EP X pins σ Q r s') pl (by lia) (by lia) (by rw [a0U, <- hl]; exact h1) (by simpa using ew) ⟨rfl, fin⟩) hs
theorem b8g (its : List Value) (n j : Nat) (u : Value) : Obj.mapSeq (·.setIfInBounds j u) { cls := .type "list", data := .seq its.toArray n } = { cls := .type "list", data := .seq (its.set j u).toArray n } := by
 simp [Obj.mapSeq]
theorem Inv.lst {pins : List (Addr × Obj)} {σ : St} {H : Hp} {s : Shared} {p : Addr} {xs : List V} (I : Inv X pins σ H s) (h : H p = some (.lst xs)) :
  ∃ (its : List Value) (n : Nat), Vals xs its /\ s.heap.get? p = some { cls := .type "list", data := .seq its.toArray n } /\ xs.length <= sizeLine := by
 obtain ⟨z, its, n, r, e⟩ := I.hok p _ h
 exact ⟨its, n, r, e, z⟩
theorem Inv.lstUpd {pins : List (Addr × Obj)} {σ : St} {H : Hp} {s : Shared} {p : Addr} {xs ys : List V} {its its' : List Value} {n n' : Nat} {f : Obj -> Obj} (I : Inv X pins σ H s) (h : H p = some (.lst xs))
  (ho : s.heap.get? p = some { cls := .type "list", data := .seq its.toArray n }) (hf : f { cls := .type "list", data := .seq its.toArray n } = { cls := .type "list", data := .seq its'.toArray n' }) (r : Vals ys its') (hz : ys.length <= sizeLine) (t : Nat) :
  Inv X pins σ (upd H p (.lst ys)) { s with heap := s.heap.update p f, toks := t } := by
 have e : (s.heap.update p f).get? p = some { cls := .type "list", data := .seq its'.toArray n' } := by
  rw [a4J f ho (by rw [hf] <;> rfl), hf]
 refine I.write (x := p) (e := p) (by rw [h]; trivial) (.inl rfl) (fun b u hb q => (a1N _ _ (a3R hb)).trans q) ⟨_, e⟩ ?_
 exact ⟨hz, its', n', r, e⟩
def rSetL : V -> V -> V -> Hp -> (Hp -> Prop) -> Prop := fun o i v H Q => ∃ p xs k j, o = .ref p /\ i = .int k /\ H p = some (.lst xs) /\ ixN xs.length k = some j /\ Q (upd H p (.lst (xs.set j v)))
theorem a8f : PSet X rSetL := by
 intro pins s σ H o i v ov iv u Q I ro ri rv h
 obtain ⟨p, xs, k, j, rfl, rfl, hp, hj, q⟩ := h
 cases ro
 obtain ⟨t, rfl⟩ := ri
 obtain ⟨its, n, r, ho, hz⟩ := I.lst hp
 obtain ⟨h1, h2, h3, h4⟩ := c0f hj
 have hl := r.length
 have hn := b2l
 have I' : Inv X pins σ (upd H p (.lst (xs.set j v))) { s with heap := s.heap.update p (Obj.mapSeq (·.setIfInBounds j u)) } :=
  I.lstUpd hp ho (b8g its n j u) (r.set rv j) (by rw [a5K]; exact hz) s.toks
 by_cases h0 : 0 <= k
 ·have hk : k.toNat = j := by
   rw [seqIndex_of h0 h4] at h1
   exact a1S h1
  exact PySem.W.ki_setAt ho h0 (by lia) (by rw [a0U, <- hl]; exact h4) (by rw [hk]; exact ⟨_, I', q⟩)
 ·have hk : (k + (its.toArray.size : Int)).toNat = j := by
   rw [seqIndex_neg (by lia) h3] at h1
   rw [a0U, <- hl]
   exact a1S h1
  exact PySem.W.ki_setBack ho (by lia) (by rw [a0U, <- hl]; exact h3) (by lia) (by rw [hk]; exact ⟨_, I', q⟩)
def a5a : V -> Bool
 | .non => true
 | .bl _ => true
 | .int _ => true
 | .str _ => true
 | _ => false
def eqV : V -> V -> Bool
 | .non, .non => true
 | .bl a, .bl b => a == b
 | .bl a, .int b => (if a then 1 else 0) == b
 | .int a, .bl b => a == (if b then 1 else 0)
 | .int a, .int b => a == b
 | .str a, .str b => a == b
 | _, _ => false
theorem b6h {A : Around} {s : Shared} {y x : V} {u v : Value} (ry : RelV y u) (rx : RelV x v) (fy : a5a y = true) (fx : a5a x = true) : SeqAt.EqAt A s u v (eqV y x) := by
 cases y with
 | non =>
  cases ry
  cases x with
  | non => cases rx; exact SeqAt.EqAt.same _
  | bl b => cases rx; exact SeqAt.EqAt.none_bool b
  | int b => obtain ⟨t, rfl⟩ := rx; exact SeqAt.EqAt.none_int b t
  | str b => obtain ⟨t, rfl⟩ := rx; exact SeqAt.EqAt.none_str b t
  | _ => exact absurd (show false = true from fx) a1L
 | bl a =>
  cases ry
  cases x with
  | non => cases rx; exact SeqAt.EqAt.bool_none a
  | bl b => cases rx; exact SeqAt.EqAt.bool_bool a b
  | int b => obtain ⟨t, rfl⟩ := rx; exact SeqAt.EqAt.bool_int a b t
  | str b => obtain ⟨t, rfl⟩ := rx; exact SeqAt.EqAt.bool_str a b t
  | _ => exact absurd (show false = true from fx) a1L
 | int a =>
  obtain ⟨t', rfl⟩ := ry
  cases x with
  | non => cases rx; exact SeqAt.EqAt.int_none a t'
  | bl b => cases rx; exact SeqAt.EqAt.int_bool a t' b
  | int b => obtain ⟨t, rfl⟩ := rx; exact SeqAt.EqAt.int_int a t' b t
  | str b => obtain ⟨t, rfl⟩ := rx; exact SeqAt.EqAt.int_str a t' b t
  | _ => exact absurd (show false = true from fx) a1L
 | str a =>
  obtain ⟨t', rfl⟩ := ry
  cases x with
  | non => cases rx; exact SeqAt.EqAt.str_none a t'
  | bl b => cases rx; exact SeqAt.EqAt.str_bool a t' b
  | int b => obtain ⟨t, rfl⟩ := rx; exact SeqAt.EqAt.str_int a t' b t
  | str b => obtain ⟨t, rfl⟩ := rx; exact SeqAt.EqAt.str_str a t' b t
  | _ => exact absurd (show false = true from fx) a1L
 | _ => exact absurd (show false = true from fy) a1L
def eqU (x : V) (u : Value) : Bool := match u with
 | .none => eqV .non x
 | .bool b => eqV (.bl b) x
 | .int i _ => eqV (.int i) x
 | .str z _ => eqV (.str z) x
 | _ => false
theorem c6w {x y : V} {u : Value} (r : RelV y u) (f : a5a y = true) : eqU x u = eqV y x := by
 cases y with
 | non => cases r; rfl
 | bl b => cases r; rfl
 | int i => obtain ⟨t, rfl⟩ := r; rfl
 | str z => obtain ⟨t, rfl⟩ := r; rfl
 | _ => exact absurd (show false = true from f) a1L
theorem b4o {x : V} : ∀ {xs : List V} {us : List Value}, Vals xs us -> xs.all a5a = true -> us.any (eqU x) = xs.any fun y => eqV y x
 | _, _, .nil, _ => rfl
 | y :: xs, u :: us, .cons r t, f => by
  rw [List.all_cons, a3M] at f
  rw [a7E, a7E, c6w r f.1, b4o t f.2]
theorem b0w {A : Around} {s : Shared} {x : V} {v : Value} (rx : RelV x v) (fx : a5a x = true) : ∀ {xs : List V} {us : List Value}, Vals xs us -> xs.all a5a = true -> ∀ u ∈ us, SeqAt.EqAt A s u v (eqU x u)
 | _, _, .nil, _ => fun u hu => by cases hu
 | y :: xs, u :: us, .cons r t, f => fun u' hu => by
  rw [List.all_cons, a3M] at f
  rcases a1H.mp hu with rfl | hu
  ·rw [c6w r f.1]; exact b6h r rx f.1 fx
  ·exact b0w rx fx t f.2 u' hu
def inV (x : V) (xs : List V) : Bool := xs.any fun y => eqV y x
def rIn (K : W.Frag) (neg : Bool) : R2 := fun x y H Q => ∃ p xs, y = .ref p /\ (SqL K H p xs ∨ SqT K H p xs) /\ a5a x = true /\ xs.all a5a = true /\ Q (.bl (if neg then !inV x xs else inV x xs)) H
theorem c0h : OpR X (compareOp .In) (rIn X.K false) := by
 intro pins s σ H x y v u Q I rx ry h
 obtain ⟨p, xs, rfl, hq, fx, fs, q⟩ := h
 cases ry
 rcases hq with hq | hq
 ·obtain ⟨its, r, pl, hz⟩ := I.list hq
  refine SeqAt.in_listAt (eqU x) pl.isList (fun w hw => b0w rx fx r fs w (by simpa using hw)) ⟨.bl _, H, I, rfl, ?_⟩
  rw [show its.toArray.any (eqU x) = its.any (eqU x) by simp, b4o r fs]
  exact q
 ·obtain ⟨its, r, pl, hz⟩ := I.tuple hq
  refine SeqAt.in_tupleAt (eqU x) pl (fun w hw => b0w rx fx r fs w (by simpa using hw)) ⟨.bl _, H, I, rfl, ?_⟩
  rw [show its.toArray.any (eqU x) = its.any (eqU x) by simp, b4o r fs]
  exact q
theorem a0t : CallR X (.builtin "len") (fun xs H Q => ∃ p ys, xs = [.ref p] /\ (SqL X.K H p ys ∨ SqT X.K H p ys) /\ Q (.int ys.length) H) := by
 intro pins s σ H xs us Q I r h
 obtain ⟨p, ys, rfl, hq, q⟩ := h
 obtain ⟨u, rfl, rx⟩ := a4f r
 cases rx
 have hn := b2l
 rcases hq with hq | hq
 ·obtain ⟨its, r', pl, hz⟩ := I.list hq
  have hlen := r'.length
  exact Calls.call_len_list pl.isList (by simp only [List.size_toArray] <;> lia) ⟨.int ys.length, H, I.tok _, ⟨s.toks + 1, by rw [List.size_toArray, hlen]⟩, q⟩
 ·obtain ⟨its, r', pl, hz⟩ := I.tuple hq
  have hlen := r'.length
  exact len_tuple pl (by simp only [List.size_toArray] <;> lia) ⟨.int ys.length, H, I.tok _, ⟨s.toks + 1, by rw [List.size_toArray, hlen]⟩, q⟩
theorem a1d : CallR X (.type "tuple") (fun xs H Q => ∃ p ys, xs = [.ref p] /\ ((SqL X.K H p ys /\ ∀ l, H l = none -> Q (.ref l) (upd H l (.tup ys))) ∨ (SqT X.K H p ys /\ Q (.ref p) H))) := by
 intro pins s σ H xs us Q I r h
 obtain ⟨p, ys, rfl, h⟩ := h
 obtain ⟨u, rfl, rx⟩ := a4f r
 cases rx
 rcases h with ⟨hq, q⟩ | ⟨hq, q⟩
 ·obtain ⟨its, r', pl, hz⟩ := I.list hq
  have hlen := r'.length
  refine call_tuple_list pl.isList (fun h' kp => ?_) (by simp only [List.size_toArray] <;> lia)
  have I1 : Inv X pins σ H { s with heap := h' } := I.kept (t' := s.toks) kp
  have I2 : Inv X pins σ (upd H h'.objs.size (.tup ys)) { s with heap := h'.push { cls := .type "tuple", data := .seq its.toArray } } :=
   I1.laid (t' := s.toks) (fun b o e => a0I _ e) (a0N _) (show ObjOk X.prog X.w _ _ _ (.tup ys) from ⟨hz, its, r', TupD.new _ _⟩)
  exact ⟨.ref h'.objs.size, _, I2, rfl, q _ (I1.hok.fresh (a0N _))⟩
 ·obtain ⟨its, r', pl, hz⟩ := I.tuple hq
  exact call_tuple_same pl ⟨.ref p, H, I, rfl, q⟩
def tyV (K : W.Frag) (T : String) (x : V) (H : Hp) : Prop := match x with
 | .str _ => T = "str"
 | .int _ => T = "int"
 | .ref p => (T = "list" /\ ∃ xs, SqL K H p xs) ∨ (T = "tuple" /\ ∃ o, K.lookup p = some o /\ o.cls = .type "tuple" /\ o.dict = none) ∨
   (T = "dict" /\ ((∃ kvs, H p = some (.dK kvs)) ∨ ∃ kvs, H p = some (.dT kvs))) ∨ (T = "set" /\ ∃ S n, H p = some (.set S n))
 | _ => False
theorem c6x {pins : List (Addr × Obj)} {σ : St} {H : Hp} {s : Shared} {T : String} {x : V} {v : Value} (I : Inv X pins σ H s) (r : RelV x v) (ty : tyV X.K T x H) :
  s.TypeIs v T /\ ∀ a, v = .ref a -> ∃ ob, s.heap.get? a = some ob /\ ob.dict = none := by
 cases x with
 | str z =>
  obtain ⟨t, rfl⟩ := r
  cases (show T = "str" from ty)
  exact ⟨typeIs_str s z t, fun _ e => nomatch e⟩
 | int i =>
  obtain ⟨t, rfl⟩ := r
  cases (show T = "int" from ty)
  exact ⟨typeIs_int s i t, fun _ e => nomatch e⟩
 | ref p =>
  cases r
  rcases ty with ⟨rfl, xs, hq⟩ | ⟨rfl, o, hk, hc, hd⟩ | ⟨rfl, hk⟩ | ⟨rfl, S, n, hk⟩
  ·obtain ⟨its, _, pl, _⟩ := I.list hq
   refine ⟨pl.isList.typeIs, fun a e => ?_⟩
   cases e
   obtain ⟨o, n, e, c, hd, _⟩ := pl
   exact ⟨o, e, hd⟩
  ·refine ⟨⟨o, I.kIn p o hk, hc⟩, fun a e => ?_⟩
   cases e
   exact ⟨o, I.kIn _ o hk, hd⟩
  ·have z : ∃ o, s.heap.get? p = some o /\ o.ExactDict := by
    rcases hk with ⟨kvs, hk⟩ | ⟨kvs, hk⟩
    ·obtain ⟨_, _, _, _, o, _, _, e, ex, _⟩ := I.hok p _ hk
     exact ⟨o, e, ex⟩
    ·obtain ⟨_, _, _, _, o, _, _, e, ex, _⟩ := I.hok p _ hk
     exact ⟨o, e, ex⟩
   obtain ⟨o, e, ex⟩ := z
   refine ⟨⟨o, e, ex.1⟩, fun a e2 => ?_⟩
   cases e2
   exact ⟨o, e, ex.2.1⟩
  ·obtain ⟨o, _, _, _, e, ex, _⟩ := I.hok p _ hk
   refine ⟨⟨o, e, ex.1⟩, fun a e2 => ?_⟩
   cases e2
   exact ⟨o, e, ex.2.1⟩
 | _ => exact False.elim ty
def tBM0 (K : W.Frag) (T : String) (r : V -> List V -> Hp -> VK -> Prop) (to : TE) : TE := fun σ H Q => to σ H fun x H1 => tyV K T x H1 /\ r x [] H1 Q
def tBM (K : W.Frag) (T : String) (r : V -> List V -> Hp -> VK -> Prop) (to : TE) (t : TA) : TE := fun σ H Q => to σ H fun x H1 => tyV K T x H1 /\ t σ H1 fun xs H2 => r x xs H2 Q
variable {o e : Expr} {es : List Expr} {to : TE} {t : TA} {name : Str} {apos cpos : Pos} {T id : String} {r : V -> List V -> Hp -> VK -> Prop}
theorem d0y (pa : PlainAttrs T) (slot : Slot T name id) (hty : typeOf (.builtin id) = pure (.type "method_descriptor")) (hm : MtR X id r) (ho : PE X o to)
  (hbase : attributeBase o name X.env (eval o X.env) = eval o X.env := by rfl) (hline : (apos.endLine == cpos.line) = true := by rfl) : PE X (.Call (.Attribute o name apos) [] [] cpos) (tBM0 X.K T r to) := by
 intro pins s σ H Q I h
 refine wpAny_Call_method0_late hbase hline (thn (ho pins s σ H _ I h) fun v s1 ⟨x, H1, I1, r1, ty, q1⟩ => ?_)
 obtain ⟨h1, h2⟩ := c6x I1 r1 ty
 exact ⟨T, id, pa, slot, hty, h1, h2, a7J rfl (PySem.evalArgs_none (hm pins s1 σ H1 x [] v [] Q I1 r1 .nil q1))⟩
theorem a9t (pa : PlainAttrs T) (slot : Slot T name id) (hty : typeOf (.builtin id) = pure (.type "method_descriptor")) (hm : MtR X id r) (ho : PE X o to) (ha : PA X (e :: es) t)
  (hbase : attributeBase o name X.env (eval o X.env) = eval o X.env := by rfl)
  (hfew : ((backTo cpos (starEach (e :: es) X.env)).all (fun x => !x.1) && (backToKw cpos (keywordEach [] X.env)).all (fun x => x.1.isSome)
   && decide ((e :: es).length + ([] : List Keyword).length + (if ([] : List Keyword).isEmpty then 0 else 1) < 30)) = true := by rfl)
  (hline : (apos.endLine == cpos.line) = true := by rfl) (hs : starEach (e :: es) X.env = (false, eval e X.env) :: starEach es X.env := by rfl) (hplain : (backTo cpos (starEach es X.env)).any (·.1) = false := by rfl) :
  PE X (.Call (.Attribute o name apos) (e :: es) [] cpos) (tBM X.K T r to t) := by
 intro pins s σ H Q I h
 refine wpAny_Call_method_late hbase hfew hline rfl (thn (ho pins s σ H _ I h) fun v s1 ⟨x, H1, I1, r1, ty, q1⟩ => ?_)
 obtain ⟨h1, h2⟩ := c6x I1 r1 ty
 refine ⟨T, id, pa, slot, hty, h1, h2, ?_⟩
 have hA := ha cpos pins s1 σ H1 _ I1 q1
 rw [hs] at hA ⊢
 refine a7J (by show (false || (backTo cpos (starEach es X.env)).any (·.1)) = false; rw [hplain] <;> rfl) (Calls.evalArgs_plain ?_)
 exact thn hA fun us s2 ⟨vs, H2, I2, r2, q2⟩ => hm pins s2 σ H2 x vs v us Q I2 r1 r2 q2
/- xs.append(e), list.index on a module's tuple .. are MtR facts of 06m -/
end
def MtM (X : Cx) (id : String) (r : V -> List V -> Hp -> VK -> Prop) : Prop :=
 ∀ (pins : List (Addr × Obj)) (s : Shared) (σ : St) (H : Hp) (x : V) (xs : List V) (v : Value) (us : List Value) (Q : VK), Inv X pins σ H s -> RelV x v -> Vals xs us -> r x xs H Q ->
  wpAny (model X.prog X.w) X.A (call (.builtin id) (v :: us)) (EP X pins σ Q) X.xe s
theorem Vals.one : ∀ {x : V} {us : List Value}, Vals [x] us -> ∃ u, us = [u] /\ RelV x u
 | _, _, .cons r .nil => ⟨_, rfl, r⟩
theorem Vals.rep {xs : List V} {us : List Value} (h : Vals xs us) : ∀ k : Nat, Vals (List.replicate k xs).flatten (List.replicate k us).flatten
 | 0 => .nil
 | k + 1 => by
  rw [a5N, a5N, a7O, a7O]
  exact Vals.append h (Vals.rep h k)
theorem b2q (its : List Value) : ∀ (k : Nat) (acc : List Value),
  List.foldl (fun x1 x2 => x1 ++ x2) acc.toArray (List.replicate k its.toArray) = (acc ++ (List.replicate k its).flatten).toArray
 | 0, acc => by simp
 | k + 1, acc => by
  have e : acc.toArray ++ its.toArray = (acc ++ its).toArray := by simp
  have e2 : (acc ++ its) ++ (List.replicate k its).flatten = acc ++ (List.replicate (k + 1) its).flatten := by
   rw [a5N, a7O, a1K]
  rw [<- e2, <- b2q its k (acc ++ its), <- e, a5N, a9S]
section
variable {X : Cx} {pins : List (Addr × Obj)} {σ : St} {H : Hp} {s : Shared} {l b : Addr} {xs ys zs : List V}
theorem Inv.lset {its its' : List Value} {n : Nat} {f : Array Value -> Array Value} {t' : Nat} (I : Inv X pins σ H s) (hH : H l = some (.lst xs))
  (e : s.heap.get? l = some { cls := .type "list", data := .seq its.toArray n }) (hf : f its.toArray = its'.toArray) (hv : Vals ys its') (hz : ys.length <= sizeLine) :
  Inv X pins σ (upd H l (.lst ys)) { s with heap := s.heap.update l (Obj.mapSeq f), toks := t' } := by
 have q := PySem.IsL.update e f
 rw [hf] at q
 refine I.write (x := l) (e := l) (by rw [hH]; exact trivial) (.inl rfl) (fun b' u hb hu => (a1N s.heap (Obj.mapSeq f) (a3R hb)).trans hu) ⟨_, q⟩ ?_
 exact ⟨hz, its', _, hv, q⟩
theorem Inv.lnew {its : List Value} {t' : Nat} (I : Inv X pins σ H s) (hv : Vals ys its) (hz : ys.length <= sizeLine) :
  Inv X pins σ (upd H s.heap.objs.size (.lst ys)) { s with heap := s.heap.push { cls := .type "list", data := .seq its.toArray }, toks := t' } :=
 I.laid (fun _ _ q => a0I _ q) (a0N _) ⟨hz, its, 0, hv, a0R _ rfl⟩
theorem Inv.fresh (I : Inv X pins σ H s) : H s.heap.objs.size = none := I.hok.fresh (a0N _)
theorem Inv.lstM (I : Inv X pins σ H s) (hH : H l = some (.lst xs)) : xs.length <= sizeLine /\ ∃ (its : List Value) (n : Nat), Vals xs its /\ xs.length = its.length /\ s.heap.get? l = some { cls := .type "list", data := .seq its.toArray n } := by
 obtain ⟨z, its, n, r, e⟩ := I.hok l _ hH
 exact ⟨z, its, n, r, r.length, e⟩
theorem c4r {n : Nat} (h : n <= sizeLine) : Builtin.List.listTooLong n = false := by
 unfold Builtin.List.listTooLong
 exact a1I (by lia)
end
section
variable {X : Cx}
def c0i : V -> List V -> Hp -> VK -> Prop := fun x vs H Q => ∃ l xs y, x = .ref l /\ vs = [y] /\ H l = some (.lst xs) /\ xs.length < sizeLine /\ Q .non (upd H l (.lst (xs ++ [y])))
theorem a3l : MtM X "list.append" c0i := by
 intro pins s σ H x vs v us Q I rx rv h
 obtain ⟨l, xs, y, rfl, rfl, hH, hz, q⟩ := h
 cases rx
 obtain ⟨u, rfl, ru⟩ := rv.one
 obtain ⟨z, its, n, r, hl, e⟩ := I.lstM hH
 refine b0G F.slot_list_append ⟨_, e, rfl⟩ F.entry_list_append (F.args_list_append_2 _ _) (PySem.list_append l its.toArray n u (by rw [a0U]; lia)) ⟨e, ?_⟩
 refine ⟨.non, _, I.lset (its' := its ++ [u]) hH e (by simp) (r.append (.cons ru .nil)) ?_, rfl, q⟩
 rw [a0Z, a5C]
 lia
def rRep : R2 := fun x y H Q => ∃ l k xs, x = .ref l /\ y = .int k /\ H l = some (.lst xs) /\ -(2 ^ 63) <= k /\ k < 2 ^ 63 /\ xs.length * k.toNat <= sizeLine /\
 ∀ p, H p = none -> Q (.ref p) (upd H p (.lst (List.replicate k.toNat xs).flatten))
theorem c8l {α : Type} (xs : List α) (k : Nat) : (List.replicate k xs).flatten.length = k * xs.length := by
 induction k with
 | zero => simp
 | succ k ih => rw [a5N, a7O, a0Z, ih, Nat.succ_mul, a9T]
theorem d0z : OpR X (binaryOp .Mult) rRep := by
 intro pins s σ H x y v u Q I rx ry h
 obtain ⟨l, k, xs, rfl, rfl, hH, h1, h2, hz, q⟩ := h
 cases rx
 obtain ⟨t, rfl⟩ := ry
 obtain ⟨z, its, n, r, hl, e⟩ := I.lstM hH
 have hlen : its.toArray.size * k.toNat <= sizeLine := by rw [a0U, <- hl]; exact hz
 have hcap : ¬ its.toArray.size * k.toNat > (2 ^ 63 - 1) / 8 := by
  have : (sizeLine : Nat) <= (2 ^ 63 - 1) / 8 := by decide
  lia
 have hfit : ¬ (!Builtin.List.listFitsIndex k) = true := by
  rw [fitsIndex_both h1 h2]
  exact a1L
 have hlong : ¬ Builtin.List.listTooLong (its.toArray.size * k.toNat) = true := by
  rw [c4r hlen]
  exact a1L
 have hnew : List.foldl (fun x1 x2 => x1 ++ x2) #[] (List.replicate (if its.toArray.isEmpty = true then 0 else k.toNat) its.toArray) = (List.replicate k.toNat its).flatten.toArray := by
  have f0 : ∀ m : Nat, List.foldl (fun x1 x2 => x1 ++ x2) #[] (List.replicate m its.toArray) = (List.replicate m its).flatten.toArray := fun m => by
   have := b2q its m []
   rw [a9U] at this
   exact this
  rw [f0]
  cases its with
  | nil => simp
  | cons a r' => rw [if_neg (by simp)]
 refine wpAny_binaryOp_repeat_ref (T := "list") (U := "int") (by decide) ⟨_, e, rfl⟩ (fun s' => typeIs_int s' k t) noFill_list_mul F.fills_int_mul F.slot_int_rmul repeat_list F.slot_int_index.lookup
  (b0G F.slot_int_rmul (typeIs_int s k t) F.entry_int_rmul (F.args_int_rmul_2 _ _) (int___rmul___int_list k t l its.toArray n)
   ⟨e, rfl, ⟨_, e, rfl⟩, b0G F.slot_list_mul ⟨_, e, rfl⟩ F.entry_list_mul (F.args_list_mul_2 _ _) (AutoListH.list___mul___list_int_3 l its.toArray n k t hfit hcap hlong) ⟨e, ?_⟩⟩)
 rw [hnew]
 exact ⟨.ref _, _, I.lnew (t' := s.toks) (r.rep k.toNat) (by rw [c8l, Nat.mul_comm]; exact hz), rfl, q _ I.fresh⟩
end
end L2
namespace Att
open PySem PySem.W PySem.Calls PyProof.Rows
theorem a8q {P : Params} {h : Heap} : ∀ (ns : List Int) (vs : List Value), WellAll P h vs (ns.map WData.int) -> IntsAre vs ns := by
 intro ns
 induction ns with
 | nil =>
  intro vs w
  rw [a9R] at w
  cases w
  exact .nil
 | cons n ns ih =>
  intro vs w
  rw [a2M] at w
  cases w with
  | cons a b =>
   cases a
   exact .cons _ _ (ih _ b)
theorem c0j {l : OpenLaw} {n : Nat} (hn : l.most = some n) {P : Params} {h : Heap} {args : List WData} {vals : List Value}
  (hpre : l.row.toRowW.claim.pre args = true) (hwl : WellAll P h vals args) :
  ∃ a vs ns, vals = [Value.ref a] /\ args = [WData.list (ns.map WData.int)] /\ h.get? a = some { cls := .type "list", data := .seq vs.toArray } /\ IntsAre vs ns /\ ns.length <= n := by
 have hsh : WShape.hasAll [] args [.list .int] = true := (pre_splitW hpre).1
 have hc : l.pre.holds [] { args := args } = true := (pre_splitW hpre).2
 obtain ⟨d, r, rfl, h1, h2⟩ := hasAllW_cons hsh
 obtain rfl := hasAllW_nil h2
 obtain ⟨xs, rfl, h3⟩ := hasW_list h1
 obtain ⟨ns, rfl⟩ := items_int h3
 have hlen : ns.length <= n := by
  unfold OpenLaw.pre at hc
  have h4 : (WTm.not (.lt (.lit (.int (n : Int))) (.len (.arg 0)))).holds [] { args := [.list (ns.map .int)] } = true := by
   have h4 := (holds_andW hc).1
   rw [hn] at h4
   exact h4
  have h5 := condW_of h4 (w_not (w_lt w_lit (w_len_list (w_arg rfl))))
  rw [a0D] at h5
  refine a8B fun q => ?_
  have q' : (n : Int) < ((ns.length : Nat) : Int) := by lia
  first
   | (rw [a0Y q'] at h5; exact absurd h5 (by decide))
   | (simp at h5; lia)
 cases hwl with
 | cons w1 w2 =>
  cases w2
  cases w1 with
  | list ho hall => exact ⟨_, _, ns, rfl, rfl, ho, a8q ns _ hall, hlen⟩
theorem c0k (l : OpenLaw) (args : List WData) : l.row.toRowW.claim.post args (.bool true) args = true :=
 postW_of (r := l.row.toRowW) (X := (true == true))
  (show WShape.has [] (.bool true) .bool = true by first | rfl | decide | simp [WShape.has, WShape.arms, WShape.armsAll])
  (show (WTm.eq .res (.lit (.bool true))).value [] { args := args, res := some (.bool true), after := args } = some (.bool (true == true)) from w_eq_bool (w_res rfl) w_lit) rfl
theorem attach_call {l : OpenLaw} {n : Nat} {q : Program} {loose : List Str} {XP : (Str -> Option Value) -> Heap -> Prop} {YP : World -> Heap -> Prop} {d : DefRec}
  (hn : l.most = some n) (hdf : d.params.defaults = [])
  (call : ∀ (w : World) (s₀ s₁ : Shared) (mg mb : Str -> Option Value) (fa : Addr) (o : Obj) (pm cd doc : Value) (a : Addr) (vs : List Value) (ns : List Int),
   Ground q loose [] XP w s₀ mg mb s₁.heap -> YP w s₁.heap ->
   s₁.heap.get? fa = some o -> o.data = .func (docDef d.name d.params d.body d.scope pm cd doc) -> s₁.heap.CodeRec cd d.name -> mg d.name = some (.ref fa) ->
   s₁.heap.get? a = some { cls := .type "list", data := .seq vs.toArray } -> IntsAre vs ns -> ns.length <= n -> s₁.gens = #[] ->
   codeAny (model l.prog w) callerA (.call (.ref fa) ⟨[.ref a], []⟩) (fun r s' => r = .ok (.ret (.bool true)) /\ OldK s₁.heap s'.heap /\ s'.os = s₁.os /\ AllBare s'.gens) s₁) :
  WalkO q loose XP YP l.row.toRowW d [] (fun f vs => PySem.call f vs) := by
 intro w s₀ s₁ mg mb G Y fa o pm cd doc dV kV ho hd hcd hD hmg hg args vals as hpre hlay hrd hwl hlo
 obtain rfl : dV = .none := Dflts.none hD hdf
 obtain rfl : kV = .none := Dflts.noKw hD
 obtain ⟨a, vs, ns, rfl, rfl, hobj, hints, hlen⟩ := c0j hn hpre hwl
 refine enter_call (a5A (call w s₀ s₁ mg mb fa o pm cd doc a vs ns G Y ho (fd_plain hd) hcd hmg hobj hints hlen hg) fun r s' hq => ?_)
 obtain ⟨rfl, h2, h3, h4⟩ := hq
 exact ⟨.inl ⟨.bool true, .bool true, [], rfl, fun _ => rfl, .bool true, c0k l _, fun _ => ⟨List.Pairwise.nil, fun _ hm => (nomatch hm)⟩⟩, h2, h3, h4⟩
end Att
namespace L2
open PySem PySem.Spec PyProof.Rows
theorem b2r : ∀ {vs : List Value} {ns : List Int}, IntsAre vs ns -> Vals (ns.map V.int) vs
 | _, _, .nil => .nil
 | _, _, .cons n t h => .cons ⟨t, rfl⟩ (b2r h)
abbrev KOf {K : W.Frag} {h : Heap} (_ : K.In h) : W.Frag := K
end L2
/- THE LAST THEOREM (shape; LID, My.* are yours):
   My.Adr: a structure of the addresses that your layer names (classes, functions); My.Txt K t: a structure (Prop) of the equations over K;
   My.txt_mk : {K} {implicit addresses ..} (e1 : nsIn K mainGlobals "law" = some (some (.ref f))) (e2 : K.lookup f = some ⟨oc, od, .func (fnOf "law" "law" params body scope dV kV doc pm an cdv ct), sl⟩) (e3 : codeIn K cdv "law" = true) .. : ∃ t, My.Txt K t
set_option maxRecDepth 100000 in
set_option maxHeartbeats 0 in
theorem PySem.Challenge.cw_LID_holds : PySem.Challenge.rw_LID.Holds := by
 w_on; o_law; k_head; (case hw => w_witness2)
 k_fill
 refine L2.walk_of (l := PySem.Challenge.rw_LID) (n := 63) (k := 40) (x := "script") (CX := fun w => ..) (sp := fun _ => My.sp_law) rfl (by decide) rfl ⟨rfl, by decide, by decide⟩ (fun w h Y => PySem.W.kIn_of Y) ?F ?S ?C
 case F =>
  intro w mg fa h KX G hmg
  have T : ∃ t, My.Txt (L2.KOf KX) t := by
   dsimp only [L2.KOf]                          -- K must stand as «<heap const> w.params» for k_is
   refine' My.txt_mk ?e1 ?e2 ?e3 ..
   (case e1 => PySem.W.k_is)                    -- in the order: a name -> its address -> its object -> its parts
   (case e2 => PySem.W.k_is)
   ..
  obtain ⟨t, T⟩ := T
  have e0 := hmg.symm.trans (PySem.W.mg_of KX G T.law)
  cases e0                                       -- fa is the law's own address
  exact ⟨_, fun s u => .of_eq rfl, fun base kb nb => My.law_fn T kb nb⟩     -- if «.of_eq rfl» comes too early: refine' ⟨_, ?b, fun base kb nb => My.law_fn T kb nb⟩; exact fun s u => .of_eq rfl
 case S => exact fun w H a ns hl hO hS => ..
 case C => exact ..
(the tactic k_is has no namespace: write k_is) -/
namespace L2
open PySem PySem.Spec PyProof.Rows
def a0p (s : Stmt) : Arguments := match s with
 | .FunctionDef _ a _ _ _ _ _ _ _ _ => a
 | _ => { posonlyargs := [], args := [], vararg := none, kwonlyargs := [], kw_defaults := [], kwarg := none, defaults := [] }
def a0n (s : Stmt) : List Stmt := match s with
 | .FunctionDef _ _ b _ _ _ _ _ _ _ => b
 | _ => []
def a0b (s : Stmt) : Scope := match s with
 | .FunctionDef _ _ _ _ _ _ sc _ _ _ => sc
 | _ => { kind := .function, names := [], isGenerator := false, isCoroutine := false }
abbrev CX0 : CXT := fun _ _ _ _ _ _ => False
abbrev E0 : XK := fun _ _ _ => False
theorem d1a {X : Cx} : c0d CX0 X E0 := fun _ _ _ _ _ _ _ h => h.elim
structure Fun (K : W.Frag) (x qual : Str) (st : Stmt) (f : Addr) (fd : FuncData) : Prop where
 ex : ∃ (oc : Value) (od : Option Addr) (kV doc pm : Value) (an : Option Addr) (cdv ct : Value) (osl : Array (Option Value)),
  fd = PySem.W.fnOf x qual (a0p st) (a0n st) (a0b st) .none kV doc pm an cdv ct /\ K.lookup f = some ⟨oc, od, .func fd, osl⟩ /\ PySem.W.codeIn K cdv qual = true
 kp : PySem.W.keepIn K (.ref f) = true
section
variable {P : Program} {w : World} {K : W.Frag} {mg : Str -> Option Value} {base : Heap}
theorem Fun.ok {x qual : Str} {st : Stmt} {f : Addr} {fd : FuncData} {N ps : List Str} {k : Nat} {sp : Sp} (F : Fun K x qual st f fd) (S : FnScope N ps (a0b st)) (len : ∀ vs H Q E, sp vs H Q E -> vs.length = ps.length)
  (hbody : ∀ (cdv : Value) (A : Around) (outer : List Env) (s : Shared) (H : Hp) (vs : List V) (Q : VK) (E : XK), Room k (A.deeper (envOfC qual (a0b st) s.heap.objs.size f cdv)) -> sp vs H Q E ->
   ∃ t, PSs (c8j CX0 P w K mg base N qual (a0b st) f cdv A outer s H E).nox (a0n st) t /\ t { nx := fun _ H' => Q .non H', rt := Q } (start N vs) H) : FnOk P w K mg base CX0 (k + 1) f fd ps sp := by
 obtain ⟨oc, od, kV, doc, pm, an, cdv, ct, osl, rfl, lk, hcd⟩ := F.ex
 refine d0x lk hcd S len fun A outer s H vs Q E hr hsp => ?_
 obtain ⟨t, h, q⟩ := hbody cdv A outer s H vs Q E hr hsp
 exact ⟨t, h.nox, q⟩
theorem Fun.binds {x qual : Str} {st : Stmt} {f : Addr} {fd : FuncData} {ps : List Str} (F : Fun K x qual st f fd)
  (h : ∀ (kV doc pm : Value) (an : Option Addr) (cdv ct : Value) (us : List Value), us.length = ps.length -> bindArgs (PySem.W.fnOf x qual (a0p st) (a0n st) (a0b st) .none kV doc pm an cdv ct) ⟨us, []⟩ = pure (ps.zip us)) : Binds K fd ps [] := by
 obtain ⟨oc, od, kV, doc, pm, an, cdv, ct, osl, rfl, lk, hcd⟩ := F.ex
 exact .all (h kV doc pm an cdv ct)
theorem a1l {x qual : Str} {st : Stmt} {f : Addr} {oc : Value} {od an : Option Addr} {osl : Array (Option Value)} {kV doc pm cdv ct : Value} (l : K.lookup f = some ⟨oc, od, .func (PySem.W.fnOf x qual (a0p st) (a0n st) (a0b st) .none kV doc pm an cdv ct), osl⟩)
  (c : PySem.W.codeIn K cdv qual = true) (k : PySem.W.keepIn K (.ref f) = true) : Fun K x qual st f (PySem.W.fnOf x qual (a0p st) (a0n st) (a0b st) .none kV doc pm an cdv ct) := ⟨⟨oc, od, kV, doc, pm, an, cdv, ct, osl, rfl, l, c⟩, k⟩
end
theorem a8r {A : Around} {k : Nat} (hr : Room k A) : A.units + 1 < cLine := a5Z (a5O (by decide : 1 <= 64) _) hr.units
theorem c0l {n : Nat} (h : n <= 1000) : n < sizeLine := a5Z h (by decide)
section
variable {X : Cx}
theorem pv (i : Nat) {x : Str} {pos : Pos} (hN : X.N[i]? = some x := by rfl) (hv : Vis X.env.scope x := by first | exact Or.inl rfl | exact Or.inr (Or.inl rfl) | exact Or.inr (Or.inr rfl)) (hd : (x == ("__debug__" : Str)) = false := by decide)
  (hcd : (x == ("__classdict__" : Str)) = false := by decide) : PE X (.Name x pos) (a7s i) := d0k hN hv hd hcd
end
theorem a9u {A B : Prop} (h : B) : if false = true then A else B := by
 rw [if_neg a1L]
 exact h
theorem b2e {A B : Prop} (h : A) : if true = true then A else B := by
 rw [if_pos rfl]
 exact h
theorem c4s {c A B : Prop} [Decidable c] (h1 : c -> A) (h2 : ¬ c -> B) : if c then A else B := by
 by_cases h : c
 ·rw [if_pos h]
  exact h1 h
 ·rw [if_neg h]
  exact h2 h
def Same (H H' : Hp) : Prop := ∀ b o, H b = some o -> H' b = some o
theorem Same.refl (H : Hp) : Same H H := fun _ _ h => h
theorem Same.trans {H H1 H2 : Hp} (a : Same H H1) (b : Same H1 H2) : Same H H2 := fun c o h => b c o (a c o h)
theorem Same.free {H H' : Hp} (e : Same H H') {l : Addr} (h : H' l = Option.none) : H l = Option.none := by
 cases q : H l with
 | none => rfl
 | some o =>
  rw [e l o q] at h
  cases h
theorem Same.seq {K : W.Frag} {H H' : Hp} {a : Addr} {xs : List V} (e : Same H H') (h : SqL K H a xs) : SqL K H' a xs := by
 rcases h with (h | ⟨o, h⟩) | h
 ·exact .inl (.inl (e _ _ h))
 ·exact .inl (.inr ⟨o, e _ _ h⟩)
 ·exact .inr h
section
variable {κ : Type} [DecidableEq κ]
def a9v (kvs : List (κ × V)) (k : κ) : Option V := (kvs.find? fun kv => decide (kv.1 = k)).map (·.2)
def b2f (kvs : List (κ × V)) (k : κ) (v : V) : List (κ × V) :=
 if (kvs.any fun kv => decide (kv.1 = k)) = true then kvs.map (fun kv => if kv.1 = k then (kv.1, v) else kv) else kvs ++ [(k, v)]
theorem a6p {p : κ × V} {r : List (κ × V)} {k : κ} (e : p.1 = k) : a9v (p :: r) k = some p.2 := by simp [a9v, List.find?_cons, e]
theorem a4m {p : κ × V} {r : List (κ × V)} {k : κ} (e : ¬ p.1 = k) : a9v (p :: r) k = a9v r k := by simp [a9v, List.find?_cons, e]
theorem a8g (k : κ) : ∀ kvs : List (κ × V), (kvs.any fun kv => decide (kv.1 = k)) = (a9v kvs k).isSome
 | [] => rfl
 | p :: r => by
  rw [a7E]
  by_cases e : p.1 = k
  ·simp only [a6p e, decide_eq_true e, Bool.true_or, Option.isSome_some]
  ·rw [a4m e, a1I e, Bool.false_or]; exact a8g k r
theorem a8s (kvs : List (κ × V)) (k : κ) (v : V) : (b2f kvs k v).length <= kvs.length + 1 := by
 unfold b2f
 split
 ·rw [a0D]; lia
 ·rw [a0Z, a4O, a9V]; lia
theorem b0x {kvs : List (κ × V)} {k : κ} (v : V) (h : a9v kvs k = none) : b2f kvs k v = kvs ++ [(k, v)] := by
 unfold b2f
 rw [a8g, h]
 exact if_neg (by decide)
theorem RelO.isSome_eq {o : Option V} {u : Option Value} (r : RelO o u) : o.isSome = u.isSome := by
 cases o with
 | none => cases u with
  | none => rfl
  | some _ => exact (show False from r).elim
 | some _ => cases u with
  | none => exact (show False from r).elim
  | some _ => rfl
theorem KV.val {kvs : List (κ × V)} {vs : List (κ × Value)} (r : KV kvs vs) (k : κ) : RelO (a9v kvs k) (valueAt vs k) := by
 unfold KV at r
 induction r with
 | nil => exact True.intro
 | @cons p q ps qs h t ih =>
  obtain ⟨h1, h2⟩ := h
  by_cases e : p.1 = k
  ·have e' : q.1 = k := h1.symm.trans e
   have b : valueAt (q :: qs) k = some q.2 := by simp [valueAt, List.find?_cons, e']
   rw [a6p e, b]; exact h2
  ·have e' : ¬ q.1 = k := fun z => e (h1.trans z)
   have b : valueAt (q :: qs) k = valueAt qs k := by simp [valueAt, List.find?_cons, e']
   rw [a4m e, b]; exact ih
theorem KV.any {kvs : List (κ × V)} {vs : List (κ × Value)} (r : KV kvs vs) (k : κ) : (kvs.any fun kv => decide (kv.1 = k)) = vs.any fun kv => decide (kv.1 = k) := by
 unfold KV at r
 induction r with
 | nil => rfl
 | cons h t ih => rw [a7E, a7E, ih, h.1]
theorem KV.repl {kvs : List (κ × V)} {vs : List (κ × Value)} (r : KV kvs vs) (k : κ) {y : V} {u : Value} (ry : RelV y u) :
  KV (kvs.map fun kv => if kv.1 = k then (kv.1, y) else kv) (vs.map fun kv => if kv.1 = k then (kv.1, u) else kv) := by
 unfold KV at r ⊢
 induction r with
 | nil => exact .nil
 | @cons p q ps qs h t ih =>
  rw [a2M, a2M]
  refine .cons ?_ ih
  obtain ⟨h1, h2⟩ := h
  by_cases e : p.1 = k
  ·rw [if_pos e, if_pos (h1.symm.trans e)]; exact ⟨h1, ry⟩
  ·rw [if_neg e, if_neg (fun z => e (h1.trans z))]; exact ⟨h1, h2⟩
theorem KV.put {kvs : List (κ × V)} {vs : List (κ × Value)} (r : KV kvs vs) (k : κ) {y : V} {u : Value} (ry : RelV y u) : KV (b2f kvs k y) (stored vs k u) := by
 unfold b2f stored
 rw [r.any k]
 by_cases e : (vs.any fun kv => decide (kv.1 = k)) = true
 ·rw [if_pos e, if_pos e]; exact r.repl k ry
 ·rw [if_neg e, if_neg e]; exact Paired.snoc r ⟨rfl, ry⟩
theorem KV.length {kvs : List (κ × V)} {vs : List (κ × Value)} (r : KV kvs vs) : kvs.length = vs.length := a4T r
end
theorem c0m {P : Program} {w : World} {k : Key} {u : Value} (r : RelV (kV k) u) : (a1r P w).is k u = true := by
 cases k with
 | inl i => obtain ⟨t, e⟩ := (show ∃ t, u = Value.int i t from r); subst e; exact b4j P w i t
 | inr x => obtain ⟨t, e⟩ := (show ∃ t, u = Value.str x t from r); subst e; exact b4k P w x t
theorem b2s {P : Program} {w : World} : ∀ {ks : List Key} {us : List Value}, Vals (ks.map kV) us -> ItemsAre (a1r P w) ks us
 | [], _, r => by rw [a9R] at r; cases r; exact .nil
 | k :: ks, _, r => by
  rw [a2M] at r
  cases r with
  | cons h t => exact .cons (c0m h) (b2s t)
abbrev KT (H : Hp) : List (List Key × V) -> List (List Key × Addr × Value) -> Prop := Paired fun p q => p.1 = q.1 /\ H q.2.1 = some (.tup (p.1.map kV)) /\ RelV p.2 q.2.2
theorem KT.val {H : Hp} {kvs : List (List Key × V)} {xs : List (List Key × Addr × Value)} (r : KT H kvs xs) (k : List Key) : RelO (a9v kvs k) ((atKey xs k).map (·.2)) := by
 induction r with
 | nil => exact True.intro
 | @cons p q ps qs h t ih =>
  obtain ⟨h1, _, h2⟩ := h
  by_cases e : p.1 = k
  ·have e' : q.1 = k := h1.symm.trans e
   have b : atKey (q :: qs) k = some q.2 := by simp [atKey, List.find?_cons, e']
   rw [a6p e, b]; exact h2
  ·have e' : ¬ q.1 = k := fun z => e (h1.trans z)
   have b : atKey (q :: qs) k = atKey qs k := by simp [atKey, List.find?_cons, e']
   rw [a4m e, b]; exact ih
theorem KT.repl {H : Hp} {kvs : List (List Key × V)} {xs : List (List Key × Addr × Value)} (r : KT H kvs xs) (k : List Key) {y : V} {u : Value} (ry : RelV y u) :
  KT H (kvs.map fun kv => if kv.1 = k then (kv.1, y) else kv) (xs.map (putAt k u)) := by
 induction r with
 | nil => exact .nil
 | @cons p q ps qs h t ih =>
  rw [a2M, a2M]
  refine .cons ?_ ih
  obtain ⟨h1, h2, h3⟩ := h
  unfold putAt
  by_cases e : p.1 = k
  ·rw [if_pos e, if_pos (h1.symm.trans e)]; exact ⟨h1, h2, ry⟩
  ·rw [if_neg e, if_neg (fun z => e (h1.trans z))]; exact ⟨h1, h2, h3⟩
theorem KT.put {H : Hp} {kvs : List (List Key × V)} {xs : List (List Key × Addr × Value)} (r : KT H kvs xs) (k : List Key) {b : Addr} {y : V} {u : Value} (hb : H b = some (.tup (k.map kV))) (ry : RelV y u) :
  KT H (b2f kvs k y) (storedH xs k b u) := by
 have e : (kvs.any fun kv => decide (kv.1 = k)) = (atKey xs k).isSome := by
  rw [a8g, (r.val k).isSome_eq, a9K]
 unfold b2f storedH
 rw [e]
 by_cases q : (atKey xs k).isSome = true
 ·rw [if_pos q, if_pos q]; exact r.repl k ry
 ·rw [if_neg q, if_neg q]; exact Paired.snoc r ⟨rfl, hb, ry⟩
theorem KT.keeps {H H' : Hp} {kvs : List (List Key × V)} {xs : List (List Key × Addr × Value)} (r : KT H kvs xs) (ht : ∀ b ys, H b = some (.tup ys) -> H' b = some (.tup ys)) : KT H' kvs xs :=
 Paired.mapP r fun _ _ z => ⟨z.1, ht _ _ z.2.1, z.2.2⟩
section
variable {P : Program} {w : World} {H : Hp} {h : Heap} {a : Addr}
theorem d1b {u : HO} (ok : HOk P w H h) (e : Rd H a u) : ObjOk P w H h a u := e.ok ok
theorem c0n {kvs : List (Key × V)} (ok : HOk P w H h) (e : Rd H a (.dK kvs)) : kvs.length <= sizeLine /\ (a == sysModules) = false /\ ∃ vs, KV kvs vs /\ h.DictOf (a1r P w) a vs :=
 show ObjOk P w H h a (.dK kvs) from d1b ok e
theorem dk_of {kvs : List (Key × V)} (ok : HOk P w H h) (e : H a = some (.dK kvs)) : kvs.length <= sizeLine /\ (a == sysModules) = false /\ ∃ vs, KV kvs vs /\ h.DictOf (a1r P w) a vs := c0n ok (.inl e)
theorem b0d {ks : List Key} (ok : HOk P w H h) (e : H a = some (.tup (ks.map kV))) : (tupleKind (a1r P w)).is h ks a := by
 obtain ⟨_, its, r, o, h1, h2, n, h3, _⟩ := (show ObjOk P w H h a (.tup (ks.map kV)) from ok a _ e)
 exact ⟨o, its.toArray, n, h1, h2, h3, by simpa using b2s r⟩
theorem b8h {kvs : List (List Key × V)} (ok : HOk P w H h) (e : Rd H a (.dT kvs)) : kvs.length <= sizeLine /\ (a == sysModules) = false /\
  ∃ xs, KT H kvs xs /\ h.DictOfH (tupleKind (a1r P w)) a xs := by
 obtain ⟨z, y, xs, r, o, es, ep, h1, h2, h3, h4, h5⟩ := (show ObjOk P w H h a (.dT kvs) from d1b ok e)
 refine ⟨z, y, xs, r, o, es, ep, h1, h2, h3, h4, fun x hx => ?_, h5⟩
 have all : ∀ {l : List (List Key × V)} {m : List (List Key × Addr × Value)}, KT H l m -> ∀ x ∈ m, (tupleKind (a1r P w)).is h x.1 x.2.1 := by
  intro l m q
  induction q with
  | nil => intro x hx; exact nomatch hx
  | @cons p q ps qs hq t ih =>
   intro x hx
   rcases a1H.mp hx with e | hx
   ·subst e
    exact b0d ok (by rw [<- hq.1]; exact hq.2.1)
   ·exact ih x hx
 exact all r x hx
theorem c8m {kvs : List (List Key × V)} (ok : HOk P w H h) (e : H a = some (.dT kvs)) : kvs.length <= sizeLine /\ (a == sysModules) = false /\
  ∃ xs, KT H kvs xs /\ h.DictOfH (tupleKind (a1r P w)) a xs := b8h ok (.inl e)
end
def DGet (H : Hp) (a : Addr) (y : V) (r : Option V) : Prop :=
 (∃ kvs k, Rd H a (.dK kvs) /\ y = kV k /\ r = a9v kvs k) ∨ ∃ kvs k b, Rd H a (.dT kvs) /\ y = .ref b /\ H b = some (.tup (k.map kV)) /\ r = a9v kvs k
def DPut (H : Hp) (a : Addr) (y v : V) (H' : Hp) : Prop :=
 (∃ kvs k, H a = some (.dK kvs) /\ y = kV k /\ kvs.length < sizeLine /\ H' = upd H a (.dK (b2f kvs k v))) ∨
 ∃ kvs k b, H a = some (.dT kvs) /\ y = .ref b /\ H b = some (.tup (k.map kV)) /\ kvs.length < sizeLine /\ H' = upd H a (.dT (b2f kvs k v))
theorem DGet.t {H : Hp} {a b : Addr} {kvs : List (List Key × V)} {k : List Key} (e : H a = some (.dT kvs)) (eb : H b = some (.tup (k.map kV))) : DGet H a (.ref b) (a9v kvs k) := .inr ⟨kvs, k, b, .inl e, rfl, eb, rfl⟩
theorem DPut.t {H : Hp} {a b : Addr} {kvs : List (List Key × V)} {k : List Key} {v : V} (e : H a = some (.dT kvs)) (eb : H b = some (.tup (k.map kV))) (hl : kvs.length < sizeLine) :
  DPut H a (.ref b) v (upd H a (.dT (b2f kvs k v))) := .inr ⟨kvs, k, b, e, rfl, eb, hl, rfl⟩
section
variable {X : Cx} {pins : List (Addr × Obj)} {σ : St} {H : Hp} {s : Shared} {a : Addr} {y v : V} {u r : Value} {o : Option V} {A : Around} {E : Value -> Shared -> Prop}
theorem Inv.big (I : Inv X pins σ H s) : sysModules < s.heap.objs.size := by
 have h : mainGlobals < s.heap.objs.size := (I.mod.glob.keeps I.bk).lt
 exact a9W (by decide) h
theorem c0o {Q : Value -> Shared -> Prop} (hu : A.units + 1 < cLine) (I : Inv X pins σ H s) (g : DGet H a y (some v)) (ry : RelV y u) (h : ∀ w' s', Inv X pins σ H s' -> RelV v w' -> Q w' s') :
  wpAny (model X.prog X.w) A (getItem (.ref a) u) Q E s := by
 rcases g with ⟨kvs, k, e, ey, l⟩ | ⟨kvs, k, b, e, ey, eb, l⟩
 ·subst ey
  obtain ⟨z, hd, vs, rel, dd⟩ := c0n I.hok e
  obtain ⟨w', hw, rw'⟩ := RelO.some_of (v := v) (o := valueAt vs k) (by rw [l]; exact rel.val k)
  exact wpAny_getItem_of (c0m ry) dd.mapOf hw (h w' _ (I.tok _) rw')
 ·subst ey
  cases (show u = Value.ref b from ry)
  obtain ⟨z, hd, xs, rel, dd⟩ := b8h I.hok e
  obtain ⟨w', hw, rw'⟩ := RelO.some_of (v := v) (o := (atKey xs k).map (·.2)) (by rw [l]; exact rel.val k)
  obtain ⟨p, hp, hp2⟩ := a0O.mp hw
  refine wpAny_getItem_heap (a7F hu) (b0d I.hok eb) dd hp ?_
  rw [hp2]
  exact h w' _ (I.tok _) rw'
theorem d_in {Q : Value -> Shared -> Prop} (hu : A.units + 1 < cLine) (I : Inv X pins σ H s) (g : DGet H a y o) (ry : RelV y u) (h : ∀ s', Inv X pins σ H s' -> Q (.bool o.isSome) s') :
  wpAny (model X.prog X.w) A (compareOp .In u (.ref a)) Q E s := by
 rcases g with ⟨kvs, k, e, ey, l⟩ | ⟨kvs, k, b, e, ey, eb, l⟩
 ·subst ey
  obtain ⟨z, hd, vs, rel, dd⟩ := c0n I.hok e
  refine wpAny_in_of (c0m ry) hd dd.mapOf ?_
  rw [<- (rel.val k).isSome_eq, <- l]
  exact h _ (I.tok _)
 ·subst ey
  cases (show u = Value.ref b from ry)
  obtain ⟨z, hd, xs, rel, dd⟩ := b8h I.hok e
  refine wpAny_in_heap (a7F hu) (b0d I.hok eb) hd dd ?_
  have q := (rel.val k).isSome_eq
  rw [a9K] at q
  rw [<- q, <- l]
  exact h _ (I.tok _)
theorem c8n {Q : Value -> Shared -> Prop} (hu : A.units + 1 < cLine) (I : Inv X pins σ H s) (g : DGet H a y o) (ry : RelV y u) (h : ∀ s', Inv X pins σ H s' -> Q (.bool (!o.isSome)) s') :
  wpAny (model X.prog X.w) A (compareOp .NotIn u (.ref a)) Q E s := by
 rcases g with ⟨kvs, k, e, ey, l⟩ | ⟨kvs, k, b, e, ey, eb, l⟩
 ·subst ey
  obtain ⟨z, hd, vs, rel, dd⟩ := c0n I.hok e
  refine wpAny_notIn_of (c0m ry) hd dd.mapOf ?_
  rw [<- (rel.val k).isSome_eq, <- l]
  exact h _ (I.tok _)
 ·subst ey
  cases (show u = Value.ref b from ry)
  obtain ⟨z, hd, xs, rel, dd⟩ := b8h I.hok e
  refine wpAny_notIn_heap (a7F hu) (b0d I.hok eb) hd dd ?_
  have q := (rel.val k).isSome_eq
  rw [a9K] at q
  rw [<- q, <- l]
  exact h _ (I.tok _)
theorem b4p {h' : Heap} {t' : Nat} {ob : HO} (I : Inv X pins σ H s) (mu : Mut (H a)) (hs : Heap.SameBut a s.heap h') (he : ∃ q, h'.get? a = some q) (new : ObjOk X.prog X.w (upd H a ob) h' a ob) :
  Inv X pins σ (upd H a ob) { s with heap := h', toks := t' } :=
 I.write (x := a) (e := a) mu (.inl rfl) (fun b q hb z => (hs.2 b hb).trans z) he new
theorem d1c {P : Program} {w : World} {H' : Hp} {h' : Heap} {kvs : List (Key × V)} {vs : List (Key × Value)} (z : kvs.length <= sizeLine) (hd : (a == sysModules) = false) (rel : KV kvs vs) (dd : h'.DictOf (a1r P w) a vs) :
  ObjOk P w H' h' a (.dK kvs) := ⟨z, hd, vs, rel, dd⟩
theorem c0p {H' : Hp} {Q : Unit -> Shared -> Prop} (hu : A.units + 1 < cLine) (I : Inv X pins σ H s) (g : DPut H a y v H') (ry : RelV y u) (rv : RelV v r) (h : ∀ s', Inv X pins σ H' s' -> Q () s') :
  wpAny (model X.prog X.w) A (setItem (.ref a) u r) Q E s := by
 rcases g with ⟨kvs, k, e, ey, l, eH⟩ | ⟨kvs, k, b, e, ey, eb, l, eH⟩
 ·subst ey eH
  obtain ⟨z, hd, vs, rel, dd⟩ := dk_of I.hok e
  have hz : vs.length <= sizeLine := by rw [<- rel.length]; exact z
  have hl : (b2f kvs k v).length <= sizeLine := by have := a8s kvs k v; lia
  refine wpAny_setItem_pairs (hsz := hz) (c0m ry) dd fun h' dd' hs => h _ ?_
  have he : ∃ q, h'.get? a = some q := let ⟨q, _, _, hq, _⟩ := dd'; ⟨q, hq⟩
  exact b4p I (by rw [e]; exact True.intro) hs he (d1c hl hd (rel.put k rv) dd')
 ·subst ey eH
  cases (show u = Value.ref b from ry)
  obtain ⟨z, hd, xs, rel, dd⟩ := c8m I.hok e
  have hz : xs.length <= sizeLine := by rw [<- a4T rel]; exact z
  have hl : (b2f kvs k v).length <= sizeLine := by have := a8s kvs k v; lia
  refine wpAny_setItem_heap (hsz := hz) (a7F hu) (b0d I.hok eb) dd fun h' dd' hs => h _ ?_
  obtain ⟨q, es, ep, hq, h2, h3, h4, _, h5⟩ := dd'
  refine b4p I (by rw [e]; exact True.intro) hs ⟨q, hq⟩ ⟨hl, hd, _, (rel.put k eb rv).keeps fun c ys ec => ?_, q, es, ep, hq, h2, h3, h4, h5⟩
  rw [a0d (a1n ec e (fun z => nomatch z))]
  exact ec
end
def NoSl (i : Expr) : Prop := ∀ ov iv, subscripted i false ov iv = operate [ov, iv] (getItem ov iv)
theorem c8o {prog : Program} {w : World} {A : Around} {E : Value -> Shared -> Prop} {s : Shared} {env : Env} {value slice : Expr} {pos : Pos} {T id : String} {Q : Value -> Shared -> Prop}
  (hl : typeLookup (.type T) "__getitem__" = pure (some (.builtin id))) (hs : NoSl slice)
  (h : wpAny (model prog w) A (eval value env) (fun o s₁ => wpAny (model prog w) A (eval slice env) (fun i s₂ => s₂.TypeIs o T /\ wpAny (model prog w) A (getItem o i) Q E s₂) E s₁) E s) :
  wpAny (model prog w) A (eval (.Subscript value slice pos) env) Q E s := by
 refine Subscript_ (a3D h (fun o s₁ h₁ => a3D h₁ (fun i s₂ h₂ => ?_) fun _ _ x => x) fun _ _ x => x)
 obtain ⟨hT, h₂⟩ := h₂
 unfold subscriptTail
 refine a0C ?_
 rw [getitemInPython_of_ne hT.not_modules]
 refine a0C (a9X hT hl ?_)
 have fin : wpAny (model prog w) A (subscripted slice false o i) (fun r s₃ => wpAny (model prog w) A (letTemporaryGo value o r >>= fun _ => pure r) Q E s₃) E s₂ := by
  rw [hs o i]
  exact wpAny_operating (a3D h₂ (fun r s₃ h₃ => a0C (wpAny_letTemporaryGo (a0G h₃))) fun _ _ x => x)
 first
  | exact a0G (a0C fin)
  | exact a0C (a0G (a0C fin))
  | exact a0C fin
theorem b4q {X : Cx} {pins : List (Addr × Obj)} {σ : St} {H : Hp} {s : Shared} {a : Addr} {y : V} {o : Option V} (I : Inv X pins σ H s) (g : DGet H a y o) : s.TypeIs (.ref a) "dict" := by
 rcases g with ⟨kvs, k, e, _, _⟩ | ⟨kvs, k, b, e, _, _, _⟩
 ·obtain ⟨_, _, vs, _, dd⟩ := c0n I.hok e
  exact dd.typeIs
 ·obtain ⟨_, _, xs, _, dd⟩ := b8h I.hok e
  exact dd.typeIs
def d1d (td ty : TE) : TE := fun σ H Q => td σ H fun x H1 => ty σ H1 fun y H2 => ∃ a v, x = .ref a /\ DGet H2 a y (some v) /\ Q v H2
def tDIn (ty td : TE) : TE := fun σ H Q => ty σ H fun y H1 => td σ H1 fun x H2 => ∃ a o, x = .ref a /\ DGet H2 a y o /\ Q (.bl o.isSome) H2
def c0q (ty td : TE) : TE := fun σ H Q => ty σ H fun y H1 => td σ H1 fun x H2 => ∃ a o, x = .ref a /\ DGet H2 a y o /\ Q (.bl (!o.isSome)) H2
def d1e (td ty tv : TE) : TS := fun D σ H => tv σ H fun v H1 => td σ H1 fun x H2 => ty σ H2 fun y H3 => ∃ a H4, x = .ref a /\ DPut H3 a y v H4 /\ D.nx σ H4
section
variable {X : Cx} {o i e value : Expr} {pos pos' tpos : Pos} {td ty tv : TE}
theorem a7g (hu : X.A.units + 1 < cLine) (ho : PE X o td) (hi : PE X i ty) (hs : NoSl i) : PE X (.Subscript o i pos) (d1d td ty) := by
 intro pins s σ H Q I h
 refine c8o PySem.F.slot_dict_getitem.lookup hs (thn (ho pins s σ H _ I h) fun u s1 ⟨x, H1, I1, rx, q1⟩ => thn (hi pins s1 σ H1 _ I1 q1) fun iv s2 ⟨y, H2, I2, ry, a, v, ex, g, q2⟩ => ?_)
 subst ex
 obtain rfl : u = Value.ref a := rx
 exact ⟨b4q I2 g, c0o hu I2 g ry fun w' s3 I3 rw' => ⟨v, H2, I3, rw', q2⟩⟩
theorem c0r (hu : X.A.units + 1 < cLine) (hi : PE X i ty) (ho : PE X o td) : PC X .In i o (tDIn ty td) := by
 intro pins s σ H Q I h
 refine thn (hi pins s σ H _ I h) fun iv s1 ⟨y, H1, I1, ry, q1⟩ => thn (ho pins s1 σ H1 _ I1 q1) fun u s2 ⟨x, H2, I2, rx, a, ov, ex, g, q2⟩ => ?_
 subst ex
 obtain rfl : u = Value.ref a := rx
 exact d_in hu I2 g ry fun s3 I3 => ⟨.bl ov.isSome, H2, I3, rfl, q2⟩
theorem b2t (hu : X.A.units + 1 < cLine) (hi : PE X i ty) (ho : PE X o td) : PC X .NotIn i o (c0q ty td) := by
 intro pins s σ H Q I h
 refine thn (hi pins s σ H _ I h) fun iv s1 ⟨y, H1, I1, ry, q1⟩ => thn (ho pins s1 σ H1 _ I1 q1) fun u s2 ⟨x, H2, I2, rx, a, ov, ex, g, q2⟩ => ?_
 subst ex
 obtain rfl : u = Value.ref a := rx
 exact c8n hu I2 g ry fun s3 I3 => ⟨.bl (!ov.isSome), H2, I3, rfl, q2⟩
theorem a8t (hu : X.A.units + 1 < cLine) (ho : PE X o td) (hi : PE X i ty) (hv : PE X value tv) (hs : swapsWith value (some (.Subscript o i pos')) pos.line X.env = pure false) :
  PS X (.Assign [.Subscript o i pos'] value pos) (d1e td ty tv) := by
 intro pins s σ H D I h
 refine wpAny_Assign_Subscript (thn (hv pins s σ H _ I h) fun r s1 ⟨v, H1, I1, rv, q1⟩ => thn (ho pins s1 σ H1 _ I1 q1) fun u s2 ⟨x, H2, I2, rx, q2⟩ => thn (hi pins s2 σ H2 _ I2 q2) fun iv s3 ⟨y, H3, I3, ry, a, H4, ex, g, q3⟩ => ?_) hs
 subst ex
 obtain rfl : u = Value.ref a := rx
 exact c0p hu I3 g ry rv fun s4 I4 => ⟨σ, H4, I4, q3⟩
end
theorem b6i {P : Program} {w : World} {H : Hp} (h : Heap) (hb : sysModules < h.objs.size) : ObjOk P w H (h.push { cls := .type "dict", data := .dict #[] }) h.objs.size (.dT []) :=
 ⟨a2U _, a4X.mpr (a3R (a1J hb)), [], .nil, _, #[], 0, a0R _ rfl, ⟨rfl, rfl, rfl⟩, rfl, rfl, a9J⟩
def d1f : TE := fun _ H Q => ∀ p, H p = none -> Q (.ref p) (upd H p (.dT []))
section
variable {X : Cx} {pos : Pos}
theorem b0y : PE X (.Dict [] [] pos) d1f := fun pins s σ H Q I h =>
 wpAny_Dict_empty ⟨.ref s.heap.objs.size, _, I.laid (a := s.heap.objs.size) (o := .dT []) (t' := s.toks) (fun _ _ q => a0I _ q) (a0N _) (b6i s.heap I.big), rfl, h _ (I.hok.fresh (a0N _))⟩
end
def c6y : List (TE × TE) -> St -> Hp -> (List (V × V) -> Hp -> Prop) -> Prop
 | [], _, H, Q => Q [] H
 | (tk, tv) :: r, σ, H, Q => tk σ H fun x H1 => tv σ H1 fun y H2 => c6y r σ H2 fun ps H3 => Q ((x, y) :: ps) H3
abbrev VV : List (V × V) -> List (Value × Value) -> Prop := Paired fun p q => RelV p.1 q.1 /\ RelV p.2 q.2
def PPs (X : Cx) (pos : Pos) (keys : List (Option Expr)) (values : List Expr) (trs : List (TE × TE)) : Prop :=
 ∀ (pins : List (Addr × Obj)) (s : Shared) (σ : St) (H : Hp) (Q : List (V × V) -> Hp -> Prop), Inv X pins σ H s -> c6y trs σ H Q ->
  wpAny (model X.prog X.w) X.A (evalPairs (pairTrees keys values X.env pos)) (fun vs s' => ∃ ps H', Inv X pins σ H' s' /\ VV ps vs /\ Q ps H') X.xe s
theorem c8p {X : Cx} {pos : Pos} : PPs X pos [] [] [] := fun pins s σ H Q I h => pairTrees_nil_walk ⟨[], H, I, .nil, h⟩
theorem c4t {X : Cx} {pos : Pos} {k v : Expr} {ks : List (Option Expr)} {vs : List Expr} {tk tv : TE} {trs : List (TE × TE)} (hk : PE X k tk) (hv : PE X v tv) (hr : PPs X pos ks vs trs) :
  PPs X pos (some k :: ks) (v :: vs) ((tk, tv) :: trs) := fun pins s σ H Q I h =>
 pairTrees_cons_walk (thn (hk pins s σ H _ I h) fun u s1 ⟨x, H1, I1, rx, q1⟩ => thn (hv pins s1 σ H1 _ I1 q1) fun w2 s2 ⟨y, H2, I2, ry, q2⟩ =>
  thn (hr pins s2 σ H2 _ I2 q2) fun ws s3 ⟨ps, H3, I3, rel, q3⟩ => ⟨(x, y) :: ps, H3, I3, .cons ⟨rx, ry⟩ rel, q3⟩)
structure M1 (X : Cx) (o : Expr) (m : Str) (apos : Pos) (e : Expr) (cpos : Pos) : Prop where
 base : attributeBase o m X.env (eval o X.env) = eval o X.env
 few : ((backTo cpos (starEach [e] X.env)).all (fun x => !x.1) && (backToKw cpos (keywordEach [] X.env)).all (fun x => x.1.isSome)
  && decide (([e] : List Expr).length + ([] : List Keyword).length + (if ([] : List Keyword).isEmpty then 0 else 1) < 30)) = true
 line : (apos.endLine == cpos.line) = true
 trees : backTo cpos (starEach [e] X.env) = [(false, eval e X.env)]
structure M2 (X : Cx) (o : Expr) (m : Str) (apos : Pos) (e f : Expr) (cpos : Pos) : Prop where
 base : attributeBase o m X.env (eval o X.env) = eval o X.env
 few : ((backTo cpos (starEach [e, f] X.env)).all (fun x => !x.1) && (backToKw cpos (keywordEach [] X.env)).all (fun x => x.1.isSome)
  && decide (([e, f] : List Expr).length + ([] : List Keyword).length + (if ([] : List Keyword).isEmpty then 0 else 1) < 30)) = true
 line : (apos.endLine == cpos.line) = true
 trees : backTo cpos (starEach [e, f] X.env) = [(false, eval e X.env), (false, eval f X.env)]
theorem a8u {α β : Type} {f : α -> β -> Sem (ForInStep β)} {g : β -> α -> β} : ∀ {l : List α} (c : β), (∀ x ∈ l, ∀ c, f x c = pure (.yield (g c x))) -> forIn l c f = pure (l.foldl g c)
 | [], _, _ => rfl
 | x :: l, c, h => by
  rw [List.forIn_cons, h x (a0S ..), pure_bind]
  exact a8u (g c x) fun y hy => h y (a0V _ hy)
def a6a (env : Env) (acc : List (Str × Addr)) (y : Str × NameKind) : List (Str × Addr) :=
 if y.2 == .free then (match env.cells.lookup y.1 with | some c => (y.1, c) :: acc | none => acc) else acc
def c6z (env : Env) (sc : Scope) : List (Str × Addr) := sc.names.foldl (a6a env) []
theorem b8i {env : Env} {sc : Scope} (h : ∀ y ∈ sc.names, y.2 = .free -> ∃ c, env.cells.lookup y.1 = some c) : closureFor sc env = pure (c6z env sc) := by
 simp only [closureFor]
 rw [a8u (g := a6a env) [] fun x hx c => ?_]
 ·rfl
 ·obtain ⟨n, k⟩ := x
  by_cases hk : k = .free
  ·subst hk
   obtain ⟨d, hd⟩ := h _ hx rfl
   have hd' : env.cells.lookup n = some d := hd
   simp only [a6a, cellOf, hd', beq_self_eq_true, if_true, pure_bind]
  ·have hb : (k == NameKind.free) = false := by simpa using hk
   simp only [a6a, hb, Bool.false_eq_true, if_false]
theorem a8h {env : Env} : ∀ (names : List (Str × NameKind)) (acc : List (Str × Addr)), (∀ y c, acc.lookup y = some c -> env.cells.lookup y = some c) ->
  ∀ y c, (names.foldl (a6a env) acc).lookup y = some c -> env.cells.lookup y = some c
 | [], _, h => h
 | (n, k) :: r, acc, h => by
  refine a8h r _ fun y c e => ?_
  unfold a6a at e
  split at e
  ·split at e
   ·rename_i d hd
    rw [a4A] at e
    cases hy : y == n with
    | true =>
     rw [hy] at e
     have hy' : y = n := eq_of_beq hy
     cases e
     rw [hy']
     exact hd
    | false => rw [hy] at e; exact h y c e
   ·exact h y c e
  ·exact h y c e
theorem c0s {env : Env} : ∀ (names : List (Str × NameKind)) (acc : List (Str × Addr)) (y : Str), (∃ c, acc.lookup y = some c) -> ∃ c, (names.foldl (a6a env) acc).lookup y = some c
 | [], _, _, h => h
 | (n, k) :: r, acc, y, h => by
  refine c0s r _ y ?_
  unfold a6a
  split
  ·split
   ·rename_i d hd
    rw [a4A]
    cases hy : y == n with
    | true => exact ⟨_, rfl⟩
    | false => exact h
   ·exact h
  ·exact h
theorem c7a {env : Env} : ∀ (names : List (Str × NameKind)) (acc : List (Str × Addr)) (y : Str), names.lookup y = some .free -> (∃ c, env.cells.lookup y = some c) -> ∃ c, (names.foldl (a6a env) acc).lookup y = some c
 | [], _, _, h, _ => by simp at h
 | (n, k) :: r, acc, y, h, hc => by
  rw [a4A] at h
  cases hy : y == n with
  | true =>
   rw [hy] at h
   cases h
   have hy' : y = n := eq_of_beq hy
   subst hy'
   obtain ⟨c, hc⟩ := hc
   refine c0s r _ y ?_
   refine ⟨c, ?_⟩
   unfold a6a
   rw [if_pos (by rfl)]
   show List.lookup y (match env.cells.lookup y with | some c => (y, c) :: acc | none => acc) = _
   rw [hc]
   simp
  | false =>
   rw [hy] at h
   exact c7a r _ y h hc
theorem a3z {env : Env} : ∀ {names : List (Str × NameKind)} {y : Str} {k : NameKind},
  (names.map fun (n, k) => if (k == NameKind.free && env.scope.kind == .function && env.kindOf n == some .cell) then (n, NameKind.cell) else (n, k)).lookup y = some k ->
   names.lookup y = some k ∨ (names.lookup y = some .free /\ k = .cell)
 | [], _, _, h => by simp at h
 | (n, k0) :: r, y, k, h => by
  have ih := @a3z env r y k
  rw [a2M] at h
  by_cases hc : (k0 == NameKind.free && env.scope.kind == .function && env.kindOf n == some .cell) = true
  ·have h' : List.lookup y ((n, NameKind.cell) :: (r.map fun (n, k) => if (k == NameKind.free && env.scope.kind == .function && env.kindOf n == some .cell) then (n, NameKind.cell) else (n, k))) = some k := by
    have e : (if (k0 == NameKind.free && env.scope.kind == .function && env.kindOf n == some .cell) = true then (n, NameKind.cell) else (n, k0)) = (n, NameKind.cell) := if_pos hc
    rw [<- e]
    exact h
   rw [a4A] at h' ⊢
   cases hy : y == n with
   | true =>
    rw [hy] at h'
    cases h'
    have hk : k0 = .free := by
     rw [a3M, a3M] at hc
     exact eq_of_beq hc.1.1
    exact .inr ⟨by rw [hk], rfl⟩
   | false => rw [hy] at h'; exact ih h'
  ·have h' : List.lookup y ((n, k0) :: (r.map fun (n, k) => if (k == NameKind.free && env.scope.kind == .function && env.kindOf n == some .cell) then (n, NameKind.cell) else (n, k))) = some k := by
    have e : (if (k0 == NameKind.free && env.scope.kind == .function && env.kindOf n == some .cell) = true then (n, NameKind.cell) else (n, k0)) = (n, k0) := if_neg hc
    rw [<- e]
    exact h
   rw [a4A] at h' ⊢
   cases hy : y == n with
   | true => rw [hy] at h'; exact .inl h'
   | false => rw [hy] at h'; exact ih h'
def b4r (y : Str) : Str := ⟨#[46] ++ y.cps⟩
def c4i (vs : List Str) (y : Str) : Str := if vs.contains y = true then b4r y else y
structure CompScope (X : Cx) (vs : List Str) (sc : Scope) : Prop where
 kind : sc.kind = .function
 cell : ∀ y ∈ sc.names, y.2 ≠ .cell
 locs : ∀ y ∈ sc.names, y.2 = .local -> sc.names.lookup y.1 = some .local
 own : ∀ y ∈ X.N.map (c4i vs), sc.names.lookup y ≠ some .local
 hid : ∀ y ∈ vs, sc.names.lookup (b4r y) = none
 nd : (vs ++ X.N.map (c4i vs)).Nodup
 free : ∀ y ∈ sc.names, y.2 = .free -> X.env.kindOf y.1 = some .cell ∨ X.env.kindOf y.1 = some .free
def cxC (X : Cx) (vs : List Str) (sc : Scope) (C : Addr) (s : Shared) (H : Hp) (fp : List Addr) : Cx where
 prog := X.prog
 w := X.w
 K := X.K
 mg := X.mg
 base := X.base
 A := X.A
 N := vs ++ X.N.map (c4i vs)
 s₀ := s
 H₀ := H
 env := compEnvC sc (c6z X.env sc) C X.env
 outer := X.stack
 stack := X.stack
 ex := fp
 fn := fun _ => false
 calm := X.calm
 pn := X.pn
 xe := fun _ _ => False
def a3m (vs : List Str) (σ : St) : St := List.replicate vs.length none ++ σ
section
variable {X : Cx} {pins : List (Addr × Obj)} {σ : St} {H : Hp} {s : Shared} {vs : List Str} {sc : Scope}
theorem c4u {C : Addr} {fp : List Addr} {h' : Heap} {tk : Nat} {m0 : Str -> Option Value} (S : CompScope X vs sc) (I : Inv X pins σ H s) (hf : ∀ b ∈ fp, FpOk X pins H b) (ho : ∀ b ∈ fp, ∃ o, s.heap.get? b = some o)
  (k : ∀ b o, s.heap.get? b = some o -> h'.get? b = some o) (hns : h'.Ns C m0) (hC : s.heap.objs.size <= C) : Inv (cxC X vs sc C s H fp) pins (a3m vs σ) H { s with heap := h', toks := tk } := by
 have sound : ∀ y c, (c6z X.env sc).lookup y = some c -> X.env.cells.lookup y = some c := a8h sc.names [] fun y c e => by simp at e
 have fr : ∀ y, sc.names.lookup y = some .free -> X.env.kindOf y = some .cell ∨ X.env.kindOf y = some .free := fun y e => S.free (y, .free) (a3H e) rfl
 have frc : ∀ y, (X.env.kindOf y = some .cell ∨ X.env.kindOf y = some .free) -> ∃ c, X.env.cells.lookup y = some c := fun y e => I.ok.has y e
 have kinds : ∀ {y : Str} {kd : NameKind}, (relabel sc X.env).names.lookup y = some kd -> kd = .cell ∨ kd = .free -> sc.names.lookup y = some .free := fun {y kd} e hk => by
  rcases a3z (names := sc.names) e with z | ⟨z, _⟩
  ·rcases hk with q | q
   ·subst q; exact absurd rfl (S.cell _ (a3H z))
   ·subst q; exact z
  ·exact z
 have has : ∀ y, sc.names.lookup y = some .free -> ∃ c, (c6z X.env sc).lookup y = some c := fun y e => c7a sc.names [] y e (frc y (fr y e))
 have hlt : ∀ y c, X.env.cells.lookup y = some c -> c < s.heap.objs.size := fun y c e => let ⟨_, z⟩ := I.cell y c e; z.lt
 have kc : ∀ {c v}, s.heap.IsCell c v -> h'.IsCell c v := fun {c v} ⟨o, e, d⟩ => ⟨o, k _ _ e, d⟩
 refine ⟨⟨I.ok.mod, S.kind, I.ok.glob, I.ok.blt, hC, fun y z c h1 h2 => I.ok.inj y z c (sound y c h1) (sound z c h2), fun y hy => ?_, fun y c z _ => (nomatch z), I.ok.hd, I.ok.frames, .inl rfl, fun b hb => ⟨?_, fun y c e => ?_⟩, I.bs, a1A I.ok.bsz I.sz, fun b o e hb => ?_, fun b hb hs => ?_, I.stack, I.stkFree⟩,
  rfl, I.bare, Un.kept k, ⟨m0, hns, fun i y v e1 e2 e3 => ?_⟩, fun y c e => ?_, I.hok.fresh hC, fun y c e => I.freeC y c (sound y c e), fun p hp => ?_, I.hok.kept k, ?_⟩
 ·have hy' : (relabel sc X.env).names.lookup y = some .cell ∨ (relabel sc X.env).names.lookup y = some .free := hy
  rcases hy' with z | z
  ·exact has y (kinds z (.inl rfl))
  ·exact has y (kinds z (.inr rfl))
 ·obtain ⟨o, e⟩ := ho b hb
  exact a1J (a1E (a0Q e) hC)
 ·exact (hf b hb).2.2.2.2.1 y c (sound y c e)
 ·obtain ⟨_, _, _, z, _⟩ := hf b hb
  rcases z with z | z
  ·exact I.ok.noex b o e z
  ·exact absurd (a1E (a0Q (I.ok.bs b o e).1) z) (a4G _)
 ·obtain ⟨_, h1, h2, _⟩ := hf b hb
  rcases a1H.mp (I.stkSub b hs) with z | z
  ·exact h1 z
  ·exact h2 z
 ·have e1' : (vs ++ X.N.map (c4i vs))[i]? = some y := e1
  have e2' : (List.replicate vs.length none ++ σ)[i]? = some (some v) := e2
  have hi : vs.length <= i := by
   by_cases z : i < vs.length
   ·rw [a0P (by simpa using z), List.getElem?_replicate] at e2'
    split at e2' <;> cases e2'
   ·lia
  rw [a0T hi] at e1'
  rw [a0T (by simpa using hi), List.length_replicate] at e2'
  have yN : y ∈ X.N.map (c4i vs) := a0H e1'
  have e3' : (relabel sc X.env).names.lookup y = some .local ∨ (relabel sc X.env).names.lookup y = some .cell ∨ (relabel sc X.env).names.lookup y = some .free := e3
  have isf : sc.names.lookup y = some .free := by
   rcases e3' with z | z | z
   ·rcases a3z (names := sc.names) z with q | ⟨_, q⟩
    ·exact absurd q (S.own y yN)
    ·cases q
   ·exact kinds z (.inl rfl)
   ·exact kinds z (.inr rfl)
  have e1' : X.N[i - vs.length]? = some y := by
   rw [a0E] at e1'
   cases e : X.N[i - vs.length]? with
   | none => rw [e] at e1'; cases e1'
   | some y0 =>
    rw [e] at e1'
    have e2 : c4i vs y0 = y := a1S e1'
    unfold c4i at e2
    split at e2
    ·rename_i hc
     rw [<- e2, S.hid y0 (by simpa using hc)] at isf
     cases isf
    ·rw [e2]
  have ok := fr y isf
  obtain ⟨m, _, hl⟩ := I.loc
  obtain ⟨u, r, lk⟩ := hl (i - vs.length) y v e1' e2' (.inr ok)
  refine ⟨u, r, ?_⟩
  rcases lk with ⟨q, _⟩ | ⟨_, c, ec, hc⟩
  ·rcases ok with z | z <;> rw [z] at q <;> cases q
  ·obtain ⟨c', e'⟩ := has y isf
   have : c' = c := a1S ((sound y c' e').symm.trans ec)
   subst this
   refine .inr ⟨?_, c', e', kc hc⟩
   rcases e3' with z | z | z
   ·rcases a3z (names := sc.names) z with q | ⟨_, q⟩
    ·exact absurd q (S.own y yN)
    ·cases q
   ·exact .inl z
   ·exact .inr z
 ·obtain ⟨v, z⟩ := I.cell y c (sound y c e)
  exact ⟨v, kc z⟩
 ·obtain ⟨e, n, ne, nf, d⟩ := I.pin p hp
  refine ⟨k _ _ e, n, a1J (a1E (a0Q e) hC), fun z => ?_, d⟩
  rcases a1H.mp (I.stkSub p.1 z) with q | q
  ·exact ne q
  ·exact nf q
 ·show (List.replicate vs.length none ++ σ).length = (vs ++ X.N.map (c4i vs)).length
  rw [a0Z, a0Z, List.length_replicate, a0D, I.len]
theorem Inv.adopt {D : Addr} {ys : List V} {its : List Value} {n : Nat} (I : Inv X pins σ H s) (hz : ys.length <= sizeLine) (hv : Vals ys its) (hD : H D = none) (e : s.heap.get? D = some { cls := .type "list", data := .seq its.toArray n })
  (h0 : X.s₀.heap.objs.size <= D) (h1 : D ≠ X.env.locals) (h2 : ∀ x c, X.env.cells.lookup x = some c -> c ≠ D) (h3 : ∀ p ∈ X.pn ++ pins, p.1 ≠ D) : Inv X pins σ (upd H D (.lst ys)) s := by
 have nd : ∀ b u, H b = some u -> b ≠ D := fun b u q z => by rw [z, hD] at q; cases q
 have q := I.step (h' := s.heap) (H' := upd H D (.lst ys)) (g' := s.gens) (t' := s.toks) (d' := s.drawn) (ch := [D]) (fun b hb => by
   have z : b = D := by simpa using hb
   subst z
   exact ⟨.inr h0, h1, h2, h3⟩)
  (fun b o _ _ _ e _ => e) (fun b o _ _ _ e _ => ⟨o.slots, e⟩) (fun b o hb _ n => by rw [a0d (fun z => hb (by simp [z]))]; exact n) (fun b o _ e => ⟨o, e⟩)
  (fun b xs q => by rw [a0d (nd b _ q)]; exact q) (fun b o u q => by rw [a0d (nd b _ q)]; exact q) (fun b ps q => ⟨#[], by rw [a0d (nd b _ q), q]; simp⟩) (fun m hm => hm) (fun b u q => ?_) I.bare
 ·exact q
 ·by_cases hb : b = D
  ·subst hb
   rw [a0a] at q
   cases q
   exact ⟨hz, its, n, hv, e⟩
  ·rw [a0d hb] at q
   exact (I.hok b u q).stay (fun _ _ _ z => z) (fun c z => by rw [a0d (nd c _ z)]; exact z) fun c xs z => by rw [a0d (nd c _ z)]; exact z
end
def PTs (X : Cx) (ifs : List Expr) (t : TT) : Prop :=
 ∀ (pins : List (Addr × Obj)) (s : Shared) (σ : St) (H : Hp) (Q : Bool -> Hp -> Prop), Inv X pins σ H s -> t σ H Q ->
  wpAny (model X.prog X.w) X.A (forIn ifs true fun c r => if r = true then do let ok <- isTrue c X.env (eval c X.env); pure (ForInStep.yield ok) else pure (ForInStep.yield r)) (TP X pins σ Q) X.xe s
def tYes : TT := fun _ H Q => Q true H
theorem a6q {σ : St} {H : Hp} {F G : Hp -> Prop} (h : F H) : tYes σ H (fun b H3 => if b = true then F H3 else G H3) := by
 show (if true = true then F H else G H)
 exact b2e h
theorem a2t {X : Cx} : PTs X [] tYes := fun _ _ _ H _ I h => a0G ⟨H, I, h⟩
theorem a7h {X : Cx} {c : Expr} {t : TT} (h : PT X c t) : PTs X [c] t := fun pins s σ H Q I q => wpAny_tests_one (h pins s σ H Q I q)
theorem c0t {prog : Program} {w : World} {A : Around} {R : Result -> Shared -> Prop} {s : Shared} {elt tg iter : Expr} {ifs : List Expr} {sc : Scope} {pos : Pos} {it acc : Value} {env : Env} (Iv : Nat -> Shared -> Prop)
  (turn : ∀ n s, Iv n s -> wpAny (model prog w) A (pyNext it) (fun r s1 => match r with
   | none => R (.ok .next) s1
   | some v => wpAny (model prog w) A (letOwnedTupleGo tg it v) (fun _ s1 => wpAny (model prog w) A (assign tg env v) (fun _ s2 =>
     wpAny (model prog w) A (forIn ifs true fun c r => if r = true then do let ok <- isTrue c env (eval c env); pure (ForInStep.yield ok) else pure (ForInStep.yield r)) (fun ok s3 =>
      if ok = true then wpAny (model prog w) A (eval elt env) (fun y s4 => wpAny (model prog w) A (call (.builtin "list.append") [acc, y]) (fun _ s5 => ∃ m, m < n /\ Iv m s5) (fun _ _ => False) s4) (fun _ _ => False) s3
      else ∃ m, m < n /\ Iv m s3) (fun _ _ => False) s2) (fun _ _ => False) s1) (fun _ _ => False) s1) (fun _ _ => False) s)
  (n : Nat) (h : Iv n s) : codeAny (model prog w) A (.compLoop (.ListComp elt [⟨tg, iter, ifs, 0⟩] sc pos) 0 it acc env) R s := by
 refine codeAny_loop rfl Iv (fun n s hI => ?_) n h
 show wpAny _ A ((compTurn (.ListComp elt [⟨tg, iter, ifs, 0⟩] sc pos) 0 it acc env).onRaise (fun x => do noteFrame x env; theTreesLotGoes x)) _ _ s
 refine wpAny_noted (a3D (E := fun _ _ => False) ?_ (fun _ _ q => q) fun _ _ z => z.elim)
 rw [compTurn_list]
 refine a0C (a9M (a0C (thn (turn n s hI) fun r s1 h1 => ?_)))
 cases r with
 | none => exact a0G h1
 | some v =>
  refine a0C (thn h1 fun _ s2 h2 => a0C (thn h2 fun _ s3 h3 => a0C (thn h3 fun ok s4 h4 => ?_)))
  cases ok with
  | false => exact a0G ⟨rfl, h4⟩
  | true => exact a0C (a0C (thn h4 fun y s5 h5 => a0C (thn h5 fun _ s6 h6 => a0G (a0G ⟨rfl, h6⟩))))
def b4s (σ σ' : St) : Prop := ∀ (i : Nat) v, σ[i]? = some (some v) -> σ'[i]? = some (some v)
theorem a1w {σ : St} {x : Option V} : b4s (none :: σ) (x :: σ) := fun i v e => by
 cases i with
 | zero => cases e
 | succ i => exact e
theorem c4v {σ : St} {x y : Option V} : b4s (none :: none :: σ) (x :: y :: σ) := fun i v e => by
 match i, e with
 | 0, e => cases e
 | 1, e => cases e
 | _ + 2, e => exact e
section
variable {X : Cx} {pins : List (Addr × Obj)} {σ : St} {H : Hp} {s : Shared} {vs : List Str} {sc : Scope} {tg elt iter : Expr} {ifs : List Expr} {pos : Pos} {g : TG} {tt : TT} {te : TE}
def b4t (vs : List Str) (g : TG) (tt : TT) (te : TE) (σ : St) (J : It) (H : Hp) (Fin : List V -> Hp -> Prop) : Prop :=
 ∃ W : Nat -> Nat -> List V -> Hp -> Prop, (∃ m, W 0 m [] H) /\ ∀ i m ys H, W i m ys H ->
  (J.stop i H /\ ys.length <= sizeLine /\ Fin ys H) ∨ (J.go i H /\ ys.length < sizeLine /\ ∃ N : List V -> Hp -> Prop, (∀ zs H', N zs H' -> ∃ m', m' < m /\ W (i + 1) m' zs H') /\
   ∀ v H', J.yld i H v H' -> g v (a3m vs σ) H' fun σ2 H2 => b4s (a3m vs σ) σ2 /\ tt σ2 H2 fun b H3 => if b = true then te σ2 H3 fun y H4 => N (ys ++ [y]) H4 else N ys H3)
theorem b0e {J : It} {fp : List Addr} {it : Addr} {tn : Nat -> Heap -> Prop} {E : Value -> Shared -> Prop} {RR : Value -> Addr -> Result -> Shared -> Prop} {Fin : List V -> Hp -> Prop}
  (S : CompScope X vs sc) (hc : X.calm = true) (hg : ∀ C s H fp, PG (cxC X vs sc C s H fp) tg g) (ht : ∀ C s H fp, PTs (cxC X vs sc C s H fp) ifs tt) (he : ∀ C s H fp, PE (cxC X vs sc C s H fp) elt te)
  (I : Inv X pins σ H s) (T : Turn X.prog X.w X.K tg J fp it tn) (st : tn 0 s.heap) (hf : ∀ b ∈ fp, FpOk X pins H b) (hW : b4t vs g tt te σ J H Fin)
  (hRR : ∀ D C s' H' ys m', Inv X pins σ (upd H' D (.lst ys)) s' -> H' D = none -> FpOk X pins (upd H' D (.lst ys)) C -> s'.heap.Ns C m' -> Fin ys H' -> RR (.ref D) C (.ok .next) s') :
  wpAny (model X.prog X.w) X.A (newList []) (fun acc s3 => wpAny (model X.prog X.w) X.A (newFunctionEnv sc X.env.globals (c6z X.env sc) [] X.env.qual none .none (some X.env)) (fun cenv s4 =>
   codeAny (model X.prog X.w) X.A (.compStart (.ListComp elt [⟨tg, iter, ifs, 0⟩] sc pos) 0 (.ref it) acc { cenv with scope := relabel sc X.env }) (RR acc cenv.locals) s4) E s3) E s := by
 obtain ⟨W, ⟨m0, w0⟩, turn⟩ := hW
 refine a3S (wpAny_newFunctionEnv S.cell (by intro y hy; simp at hy) (fun h1 hns hsb => ?_) S.kind)
 dsimp only at hns hsb ⊢
 generalize hH2 : s.heap.push { cls := .type "list", dict := none, data := .seq ([] : List Value).toArray } = H2 at hns hsb ⊢
 have hC : H2.objs.size = s.heap.objs.size + 1 := by rw [<- hH2, a6S]
 generalize hCe : H2.objs.size = C at hns hsb hC ⊢
 generalize hDe : s.heap.objs.size = D at hC ⊢
 have hDC : D ≠ C := by lia
 have below : ∀ b o, s.heap.get? b = some o -> b ≠ D /\ b ≠ C := fun b o e => by
  have z : b < s.heap.objs.size := a0Q e
  rw [hDe] at z
  exact ⟨a1J z, a1J (by rw [hC]; exact a7P z)⟩
 have old : ∀ b o, s.heap.get? b = some o -> h1.get? b = some o := fun b o e => hsb.extBut b o (below b o e).2 (a0I _ (hH2 ▸ a0I _ e))
 have hD1 : h1.get? D = some { cls := .type "list", data := .seq ([] : List Value).toArray } :=
  hsb.extBut _ _ hDC (a0I _ (by rw [<- hH2, <- hDe]; exact a0R _ rfl))
 have hobj : ∀ b ∈ fp, ∃ o, s.heap.get? b = some o := fun b hb => let ⟨o, e, _⟩ := T.obj 0 _ st b hb; ⟨o, e⟩
 have fne : ∀ b ∈ fp, b ≠ D /\ b ≠ C := fun b hb => let ⟨o, e⟩ := hobj b hb; below b o e
 have fD : ∀ H', H' D = none -> FpOk X pins H' D := fun H' n => I.fpOk (by lia) n
 have fC : ∀ H', H' C = none -> FpOk X pins H' C := fun H' n => I.fpOk (by lia) n
 have Dpn : ∀ p ∈ X.pn ++ pins, p.1 ≠ D := fun p hp => (below _ _ (I.pin p hp).1).1
 have cells : ∀ y c, (c6z X.env sc).lookup y = some c -> c ≠ D := fun y c e => by
  have e' := a8h sc.names [] (fun y c e => by simp at e) y c e
  obtain ⟨v, z⟩ := I.cell y c e'
  have z' : c < s.heap.objs.size := z.lt
  rw [hDe] at z'
  exact a1J z'
 have nfs : ∀ b, b ∈ frs X.stack -> ∃ o, s.heap.get? b = some o := fun b hb => let ⟨_, o, ho, _⟩ := I.stack.mem hb; ⟨o, ho⟩
 have Dfs : D ∉ frs X.stack := fun z => let ⟨o, e⟩ := nfs D z; (below _ _ e).1 rfl
 have fpC : ∀ {pl : List (Addr × Obj)} {H' : Hp}, (∀ p ∈ pl, p.1 = D) -> (∀ b ∈ fp, H' b = none) -> ∀ b ∈ fp, FpOk (cxC X vs sc C s H fp) (pins ++ pl) H' b := fun {pl H'} hpl hn b hb => by
  obtain ⟨_, q1, q2, q3, q4, q5⟩ := hf b hb
  refine ⟨hn b hb, (fne b hb).2, fun z => ?_, .inl hb, fun y c e => q4 y c (a8h sc.names [] (fun y c e => by simp at e) y c e), fun p hp => ?_⟩
  ·rcases a1H.mp (I.stkSub b z) with y | y
   ·exact q1 y
   ·exact q2 y
  ·rcases a0K.mp hp with z | z
   ·exact q5 p (a3A _ z)
   ·rcases a0K.mp z with y | y
    ·exact q5 p (a0X _ y)
    ·rw [hpl p y]; exact a3R (fne b hb).1
 have loop : ∀ s3 : Shared, s3 = { s with heap := h1, toks := s.toks + ([] : List (Str × Value)).length } ->
   codeAny (model X.prog X.w) X.A (.compLoop (.ListComp elt [⟨tg, iter, ifs, 0⟩] sc pos) 0 (.ref it) (.ref D) (compEnvC sc (c6z X.env sc) C X.env)) (RR (.ref D) C) s3 := by
  rintro s3 rfl
  have I0 : Inv (cxC X vs sc C s H fp) pins (a3m vs σ) H { s with heap := h1, toks := s.toks + ([] : List (Str × Value)).length } := c4u S I hf hobj old hns (by lia)
  refine c0t (fun n s' => ∃ i ys its no H', Inv (cxC X vs sc C s H fp) pins (a3m vs σ) H' s' /\ tn i s'.heap /\ (∀ b ∈ fp, H' b = none) /\ H' D = none /\
   s'.heap.get? D = some { cls := .type "list", data := .seq its.toArray no } /\ Vals ys its /\ W i n ys H') ?_ m0
   ⟨0, [], [], 0, H, I0, T.keep 0 _ _ st fun b hb o e => old b o e, fun b hb => (hf b hb).1, I.hok.fresh (by lia), hD1, .nil, w0⟩
  rintro n s' ⟨i, ys, its, no, H', I1, st1, fr1, dn1, dl1, va1, w1⟩
  have pinD : Inv (cxC X vs sc C s H fp) (pins ++ [(D, { cls := .type "list", data := .seq its.toArray no })]) (a3m vs σ) H' s' := I1.pins_of fun p hp => by
   rcases a0K.mp hp with z | z
   ·exact I1.pin p (a0X _ z)
   ·have e : p = (D, { cls := .type "list", data := .seq its.toArray no }) := by simpa using z
    subst e
    exact ⟨dl1, dn1, hDC, Dfs, fun v z => by have z' : Data.seq _ _ = Data.cell v := z; cases z'⟩
  have onlyD : ∀ p ∈ [((D, { cls := .type "list", data := .seq its.toArray no }) : Addr × Obj)], p.1 = D := fun p hp => by
   have e : p = (D, { cls := .type "list", data := .seq its.toArray no }) := by simpa using hp
   rw [e]
  rcases turn i n ys H' w1 with ⟨stop, hz, fin⟩ | ⟨go, hz, N, hN, step⟩
  ·refine thn (T.done (cxC X vs sc C s H fp) rfl rfl rfl hc i _ s' _ H' (fun _ _ => False) pinD (fpC onlyD fr1) st1 stop) fun r s4 ⟨hr, I4⟩ => ?_
   subst hr
   have d4 : s4.heap.get? D = some { cls := .type "list", data := .seq its.toArray no } := (I4.pin (D, _) (a0X _ (a0X _ (a0S ..)))).1
   have Io : Inv X pins σ H' s4 := I.call' (H' := H') (ch := fp) I4.os I4.base I4.hok I4.bare fun b hb => by
    obtain ⟨_, q1, _, q3, q4, q5⟩ := hf b hb
    exact ⟨q3, q1, q4, q5⟩
   obtain ⟨_, a1, _, a3, a4, a5⟩ := fD H' dn1
   have Ia := Io.adopt hz va1 dn1 d4 (a1A I.sz (by lia)) a1 a4 a5
   obtain ⟨m4, ns4, _⟩ := I4.loc
   refine hRR D C s4 H' ys m4 Ia dn1 (fC _ ?_) ns4 fin
   rw [a0d (a3R hDC)]
   exact I4.free
  ·refine thn (T.item (cxC X vs sc C s H fp) rfl rfl rfl hc i _ s' _ H' (fun _ _ => False) pinD (fpC onlyD fr1) st1 go) fun r s4 ⟨u, hr, h4⟩ => ?_
   subst hr
   refine thn h4 fun _ s5 ⟨x, H5, I5, r5, y5, st5, fr5⟩ => ?_
   have I5' := I5.pinned (fpC onlyD fr5) (T.obj _ _ st5)
   refine thn (hg C s H fp _ s5 _ H5 x u _ I5' r5 (step x H5 y5)) fun _ s6 ⟨σ6, H6, I6, k6, q6⟩ => ?_
   refine thn (ht C s H fp _ s6 σ6 H6 _ I6 q6) fun ok s7 ⟨H7, I7, q7⟩ => ?_
   have len6 : (a3m vs σ).length = σ6.length := by rw [I1.len, I6.len]
   have pinned : ∀ {H8 : Hp} {s8 : Shared}, Inv (cxC X vs sc C s H fp) (pins ++ [(D, { cls := .type "list", data := .seq its.toArray no })] ++ b2k fp s5.heap) σ6 H8 s8 ->
     tn (i + 1) s8.heap /\ (∀ b ∈ fp, H8 b = none) /\ H8 D = none /\ s8.heap.get? D = some { cls := .type "list", data := .seq its.toArray no } := fun {H8 s8} I8 => by
    refine ⟨T.keep _ _ _ st5 fun b hb o e => (I8.pin (b, o) (a0X _ (a0X _ (a5q hb e)))).1, fun b hb => ?_, ?_, ?_⟩
    ·obtain ⟨o, e, d⟩ := T.obj _ _ st5 b hb
     exact (I8.pin (b, o) (a0X _ (a0X _ (a5q hb e)))).2.1
    ·exact (I8.pin (D, _) (a0X _ (a3A _ (a0X _ (a0S ..))))).2.1
    ·exact (I8.pin (D, _) (a0X _ (a3A _ (a0X _ (a0S ..))))).1
   cases ok with
   | false =>
    rw [if_neg (by decide)] at q7 ⊢
    obtain ⟨m', hm, w7⟩ := hN _ _ q7
    obtain ⟨a1, a2, a3, a4⟩ := pinned I7
    exact ⟨m', hm, i + 1, ys, its, no, H7, (I7.unpinned.unpinned).weak len6 k6, a1, a2, a3, a4, va1, w7⟩
   | true =>
    rw [if_pos rfl] at q7 ⊢
    refine thn (he C s H fp _ s7 σ6 H7 _ I7 q7) fun yv s8 ⟨y, H8, I8, r8, n8⟩ => ?_
    obtain ⟨m', hm, w8⟩ := hN _ _ n8
    obtain ⟨a1, a2, a3, a4⟩ := pinned I8
    have szI : its.toArray.size <= sizeLine := by
     have := va1.length
     rw [a0U]
     lia
    refine wpAny_list_append_plain ⟨no, a4⟩ (fun h' pl sb => ?_) szI
    obtain ⟨no', pl'⟩ := pl
    have I9 : Inv (cxC X vs sc C s H fp) pins σ6 H8 { s8 with heap := h' } := (I8.unpinned.unpinned).turned (t' := s8.toks) (it := D) (fun b o hb e => (sb.2 b hb).trans e) a3 hDC (.inr (a7U hDe)) cells Dpn
    refine ⟨m', hm, i + 1, ys ++ [y], its ++ [yv], no', H8, I9.weak len6 k6, T.keep _ _ _ a1 fun b hb o e => (sb.2 b (fne b hb).1).trans e, a2, a3, ?_, va1.append (.cons r8 .nil), w8⟩
    rw [pl']
    simp
 exact codeAny_compStart_list (loop _ rfl) (T.self _ 0 _ _ _ (T.keep 0 _ _ st fun b hb o e => old b o e) (loop _ rfl))
def c4w (vs : List Str) (wi : TI) (g : TG) (tt : TT) (te : TE) : TE := fun σ H Q => wi σ H fun J H1 => b4t vs g tt te σ J H1 fun ys H' => ∀ p, H' p = none -> Q (.ref p) (upd H' p (.lst ys))
theorem CompScope.clos {pins : List (Addr × Obj)} {σ : St} {H : Hp} {s : Shared} (S : CompScope X vs sc) (I : Inv X pins σ H s) : closureFor sc X.env = pure (c6z X.env sc) :=
 b8i fun y hy hk => I.ok.has y.1 (S.free y hy hk)
theorem c0u {wi : TI} (S : CompScope X vs sc) (hc : X.calm = true) (hi : PI X tg iter wi) (hg : ∀ C s H fp, PG (cxC X vs sc C s H fp) tg g) (ht : ∀ C s H fp, PTs (cxC X vs sc C s H fp) ifs tt)
  (he : ∀ C s H fp, PE (cxC X vs sc C s H fp) elt te) (hs : ∀ x, foldedSetIterable iter X.env x = pure x := by intro _; rfl) : PE X (.ListComp elt [⟨tg, iter, ifs, 0⟩] sc pos) (c4w vs wi g tt te) := by
 intro pins s σ H Q I h
 rw [eval_ListComp]
 refine wpAny_comprehension_free (use := none) rfl hs (S.clos I) S.kind S.locs ?_
 refine thn (hi pins s σ H _ I h) fun v s1 h1 => thn h1 fun itv s2 h2 => ?_
 obtain ⟨it, fp, tn, J, H2, e, I2, T, st2, f2, hW⟩ := h2
 subst e
 refine b0e (RR := fun acc C => compPost (model X.prog X.w) X.A X.xe none (EP X pins σ Q) acc C) S hc hg ht he I2 T st2 f2 hW fun D C s' H' ys m' I' hD fC ns fin => ?_
 obtain ⟨c0, c1, c2, c3, c4, c5⟩ := fC
 refine ⟨m', ns, fun h' sb => ⟨.ref D, _, ?_, rfl, fin D hD⟩⟩
 exact I'.turned (t' := s'.toks) (it := C) (fun b o hb e => (sb.2 b hb).trans e) c0 c1 c3 c4 c5
theorem c7b {x : Str} {p : Pos} (S : CompScope X [x] sc) (hx : sc.names.lookup x = some .local) : ∀ C s H fp, PG (cxC X [x] sc C s H fp) (.Name x p) (a4z 0) := fun C s H fp =>
 a1y S.nd rfl (.inl (a4R hx)) (.inr (a4R hx))
theorem a1m {wi : TI} {x : Str} {p : Pos} (S : CompScope X [x] sc) (hc : X.calm = true) (hx : sc.names.lookup x = some .local) (hi : PI X (.Name x p) iter wi) (ht : ∀ C s H fp, PTs (cxC X [x] sc C s H fp) ifs tt)
  (he : ∀ C s H fp, PE (cxC X [x] sc C s H fp) elt te) (hs : ∀ x, foldedSetIterable iter X.env x = pure x := by intro _; rfl) : PE X (.ListComp elt [⟨.Name x p, iter, ifs, 0⟩] sc pos) (c4w [x] wi (a4z 0) tt te) :=
 c0u S hc hi (c7b S hx) ht he hs
theorem c8q {wi : TI} {j : Nat} {y : Str} {py spos : Pos} (S : CompScope X vs sc) (hc : X.calm = true) (hN : X.N.Nodup) (hj : X.N[j]? = some y) (hy : X.env.scope.names.lookup y = some .local) (hi : PI X tg iter wi) (hg : ∀ C s H fp, PG (cxC X vs sc C s H fp) tg g) (ht : ∀ C s H fp, PTs (cxC X vs sc C s H fp) ifs tt)
  (he : ∀ C s H fp, PE (cxC X vs sc C s H fp) elt te) (hsw : swapsWith (.ListComp elt [⟨tg, iter, ifs, 0⟩] sc pos) (some (.Name y py)) spos.line X.env = pure true := by rfl) (hs : ∀ x, foldedSetIterable iter X.env x = pure x := by intro _; rfl) :
  PS X (.Assign [.Name y py] (.ListComp elt [⟨tg, iter, ifs, 0⟩] sc pos) spos) (c4n (c4w vs wi g tt te) (a4z j)) := by
 intro pins s σ H D I h
 rw [exec_Assign_Name_used _ _ _ _ hsw]
 refine a0C (a9M (a0C ?_))
 show wpAny _ X.A (do let _ <- comprehension (.ListComp elt [⟨tg, iter, ifs, 0⟩] sc pos) sc X.env _ (newList []) false (eval iter X.env) (some (assign (.Name y py) X.env))) _ _ s
 refine a0C (a3D (wpAny_comprehension_free (use := some (assign (.Name y py) X.env)) (Q := fun _ s' => SP X pins D .next s') rfl hs (S.clos I) S.kind S.locs ?_) (fun _ s' hq => a0G (a0G hq)) fun _ _ e => e)
 refine thn (hi pins s σ H _ I h) fun v s1 h1 => thn h1 fun itv s2 h2 => ?_
 obtain ⟨it, fp, tn, J, H2, e, I2, T, st2, f2, hW⟩ := h2
 subst e
 refine b0e (RR := fun acc C => compPost (model X.prog X.w) X.A X.xe (some (assign (.Name y py) X.env)) (fun _ s' => SP X pins D .next s') acc C) S hc hg ht he I2 T st2 f2 hW fun D' C s' H' ys m' I' hD fC ns fin => ?_
 obtain ⟨c0, c1, c2, c3, c4, c5⟩ := fC
 show wpAny _ X.A (assign (.Name y py) X.env (.ref D')) _ _ _
 refine wpAny_assign_Name (b2g (v := .ref D') I' hN hj (.inl hy) (show RelV (.ref D') (.ref D') from rfl) (fun s3 I3 ⟨a, sb, ha⟩ => ?_) (.inr hy))
 have hac : a ≠ C := by
  rcases ha with z | z
  ·rw [z]; exact a3R c1
  ·exact c4 y a z
 refine ⟨m', ns.sameBut sb (a3R hac), fun h' sb' => ⟨_, _, I3.turned (t' := s3.toks) (it := C) (fun b o hb e => (sb'.2 b hb).trans e) c0 c1 c3 c4 c5, fin D' hD⟩⟩
theorem b6j {wi : TI} {j : Nat} {x y : Str} {p py spos : Pos} (S : CompScope X [x] sc) (hc : X.calm = true) (hx : sc.names.lookup x = some .local) (hN : X.N.Nodup) (hj : X.N[j]? = some y) (hy : X.env.scope.names.lookup y = some .local) (hi : PI X (.Name x p) iter wi)
  (ht : ∀ C s H fp, PTs (cxC X [x] sc C s H fp) ifs tt) (he : ∀ C s H fp, PE (cxC X [x] sc C s H fp) elt te)
  (hsw : swapsWith (.ListComp elt [⟨.Name x p, iter, ifs, 0⟩] sc pos) (some (.Name y py)) spos.line X.env = pure true := by rfl) (hs : ∀ x, foldedSetIterable iter X.env x = pure x := by intro _; rfl) :
  PS X (.Assign [.Name y py] (.ListComp elt [⟨.Name x p, iter, ifs, 0⟩] sc pos) spos) (c4n (c4w [x] wi (a4z 0) tt te) (a4z j)) := c8q S hc hN hj hy hi (c7b S hx) ht he hsw hs
end
section
variable {K : W.Frag} {a : Addr} {xs : List V} {vs : List Str} {g : TG} {tt : TT} {te : TE} {σ : St} {H : Hp} {Fin : List V -> Hp -> Prop}
theorem c4x (Pv : Nat -> List V -> Hp -> Prop) (hz : xs.length <= sizeLine) (h0 : Pv 0 [] H) (hl : ∀ i ys H, i <= xs.length -> Pv i ys H -> SqT K H a xs /\ ys.length <= i)
  (hs : ∀ i v ys H, xs[i]? = some v -> Pv i ys H -> g v (a3m vs σ) H fun σ2 H2 => b4s (a3m vs σ) σ2 /\ tt σ2 H2 fun b H3 => if b = true then te σ2 H3 fun y H4 => Pv (i + 1) (ys ++ [y]) H4 else Pv (i + 1) ys H3)
  (hd : ∀ ys H, Pv xs.length ys H -> Fin ys H) : b4t vs g tt te σ (Itt K a) H Fin := by
 refine ⟨fun i m ys H => m = xs.length - i /\ i <= xs.length /\ Pv i ys H, ⟨xs.length, by simp, Nat.zero_le _, h0⟩, ?_⟩
 rintro i m ys H ⟨rfl, hi, p⟩
 obtain ⟨q, hy⟩ := hl i ys H hi p
 by_cases hlt : i < xs.length
 ·refine .inr ⟨⟨xs, xs[i], q, by simp [hlt]⟩, by lia, Pv (i + 1), fun zs H' p' => ⟨xs.length - (i + 1), Nat.sub_succ_lt_self _ _ hlt, rfl, hlt, p'⟩, fun v H' y => ?_⟩
  obtain ⟨e, y⟩ := y
  subst e
  exact hs i v ys _ (y xs q) p
 ·have e : i = xs.length := by lia
  subst e
  exact .inl ⟨⟨xs, q, a0N _⟩, by lia, hd ys H p⟩
theorem a2f (Pv : Nat -> List V -> Hp -> Prop) (hz : xs.length <= sizeLine) (h0 : Pv 0 [] H) (hl : ∀ i ys H, i <= xs.length -> Pv i ys H -> SqL K H a xs /\ ys.length <= i)
  (hs : ∀ i v ys H, xs[i]? = some v -> Pv i ys H -> g v (a3m vs σ) H fun σ2 H2 => b4s (a3m vs σ) σ2 /\ tt σ2 H2 fun b H3 => if b = true then te σ2 H3 fun y H4 => Pv (i + 1) (ys ++ [y]) H4 else Pv (i + 1) ys H3)
  (hd : ∀ ys H, Pv xs.length ys H -> Fin ys H) : b4t vs g tt te σ (Itl K a) H Fin := by
 refine ⟨fun i m ys H => m = xs.length - i /\ i <= xs.length /\ Pv i ys H, ⟨xs.length, by simp, Nat.zero_le _, h0⟩, ?_⟩
 rintro i m ys H ⟨rfl, hi, p⟩
 obtain ⟨q, hy⟩ := hl i ys H hi p
 by_cases hlt : i < xs.length
 ·refine .inr ⟨⟨xs, xs[i], q, by simp [hlt]⟩, by lia, Pv (i + 1), fun zs H' p' => ⟨xs.length - (i + 1), Nat.sub_succ_lt_self _ _ hlt, rfl, hlt, p'⟩, fun v H' y => ?_⟩
  obtain ⟨e, y⟩ := y
  subst e
  exact hs i v ys _ (y xs q) p
 ·have e : i = xs.length := by lia
  subst e
  exact .inl ⟨⟨xs, q, a0N _⟩, by lia, hd ys H p⟩
theorem a7i {lo : Int} {n : Nat} (Pv : Nat -> List V -> Hp -> Prop) (hz : n <= sizeLine) (h0 : Pv 0 [] H) (hl : ∀ i ys H, i <= n -> Pv i ys H -> ys.length <= i)
  (hs : ∀ i ys H, i < n -> Pv i ys H -> g (.int (lo + i)) (a3m vs σ) H fun σ2 H2 => b4s (a3m vs σ) σ2 /\ tt σ2 H2 fun b H3 => if b = true then te σ2 H3 fun y H4 => Pv (i + 1) (ys ++ [y]) H4 else Pv (i + 1) ys H3)
  (hd : ∀ ys H, Pv n ys H -> Fin ys H) : b4t vs g tt te σ (Itr lo n) H Fin := by
 refine ⟨fun i m ys H => m = n - i /\ i <= n /\ Pv i ys H, ⟨n, by simp, Nat.zero_le _, h0⟩, ?_⟩
 rintro i m ys H ⟨rfl, hi, p⟩
 have hy := hl i ys H hi p
 by_cases hlt : i < n
 ·refine .inr ⟨hlt, by lia, Pv (i + 1), fun zs H' p' => ⟨n - (i + 1), Nat.sub_succ_lt_self _ _ hlt, rfl, hlt, p'⟩, fun v H' y => ?_⟩
  obtain ⟨e, y⟩ := y
  subst e y
  exact hs i ys _ hlt p
 ·have e : i = n := by lia
  subst e
  exact .inl ⟨a0N _, by lia, hd ys H p⟩
theorem a8v {x : Str} {xs : List V} {f : V -> V} (hz : xs.length <= sizeLine) (hq : SqT K H a xs) (hs : ∀ v (Q : VK), v ∈ xs -> Q (f v) H -> te (some v :: σ) H Q) (hd : Fin (xs.map f) H) :
  b4t [x] (a4z 0) tYes te σ (Itt K a) H Fin := by
 refine c4x (fun i ys H' => H' = H /\ ys = (xs.take i).map f) hz ⟨rfl, rfl⟩ (fun i ys H' hi ⟨e, ey⟩ => ?_) (fun i v ys H' hv ⟨e, ey⟩ => ⟨a1w, ?_⟩) (fun ys H' ⟨e, ey⟩ => ?_)
 ·subst e ey
  exact ⟨hq, by simp; lia⟩
 ·subst e ey
  refine a6q (hs v _ (a0H hv) ⟨rfl, ?_⟩)
  rw [a2O, hv, a1M]
  rfl
 ·subst e ey
  rw [a2B]
  exact hd
end
inductive Dt where
 | non | int (i : Int) | str (x : Str) | lst (ds : List Dt) | tup (ds : List Dt)
inductive Rep (K : W.Frag) (H : Hp) : Nat -> Dt -> V -> Prop where
 | non (n : Nat) : Rep K H n .non .non
 | int (n : Nat) (i : Int) : Rep K H n (.int i) (.int i)
 | str (n : Nat) (x : Str) : Rep K H n (.str x) (.str x)
 | lst {n : Nat} {ds : List Dt} {a : Addr} {xs : List V} (h : SqL K H a xs) (hl : xs.length = ds.length) (hi : ∀ (i : Nat) d v, ds[i]? = some d -> xs[i]? = some v -> Rep K H n d v) : Rep K H (n + 1) (.lst ds) (.ref a)
 | tup {n : Nat} {ds : List Dt} {a : Addr} {xs : List V} (h : SqT K H a xs) (hl : xs.length = ds.length) (hi : ∀ (i : Nat) d v, ds[i]? = some d -> xs[i]? = some v -> Rep K H n d v) : Rep K H (n + 1) (.tup ds) (.ref a)
theorem a6r {α : Type} {xs ys : List α} (hl : xs.length = ys.length) (h : ∀ (i : Nat) a b, xs[i]? = some a -> ys[i]? = some b -> a = b) : xs = ys := by
 refine a9O hl fun i h1 h2 => ?_
 exact h i _ _ (by simp [h1]) (by simp [h2])
section
variable {X : Cx} {pins : List (Addr × Obj)} {σ : St} {H : Hp} {s : Shared}
theorem c7c {a : Addr} {xs ys : List V} (I : Inv X pins σ H s) (h : SqL X.K H a xs) (h' : SqT X.K H a ys) : False := by
 obtain ⟨_, _, p, _⟩ := I.list h
 obtain ⟨_, _, q, _⟩ := I.tuple h'
 exact SeqAt.ne_of_list_tuple p.isList (show s.heap.IsTuple a _ from q) rfl
theorem b4u (I : Inv X pins σ H s) : ∀ (n : Nat) {d d' : Dt} {v : V}, Rep X.K H n d v -> Rep X.K H n d' v -> d = d' := by
 intro n
 induction n with
 | zero =>
  intro d d' v r r'
  cases r <;> cases r' <;> rfl
 | succ n ih =>
  intro d d' v r r'
  cases r with
  | non => cases r'; rfl
  | int => cases r'; rfl
  | str => cases r'; rfl
  | @lst _ ds a xs h hl hi =>
   cases r' with
   | @lst _ ds' _ xs' h' hl' hi' =>
    have e := I.list_inj h h'
    subst e
    refine a2C Dt.lst (a6r (hl.symm.trans hl') fun i d d' e1 e2 => ?_)
    have hlt : i < xs.length := by rw [hl]; exact (a0B.mp e1).1
    exact ih (hi i d xs[i] e1 (a0A hlt)) (hi' i d' xs[i] e2 (a0A hlt))
   | tup h' _ _ => exact (c7c I h h').elim
  | @tup _ ds a xs h hl hi =>
   cases r' with
   | lst h' _ _ => exact (c7c I h' h).elim
   | @tup _ ds' _ xs' h' hl' hi' =>
    have e := I.tuple_inj h h'
    subst e
    refine a2C Dt.tup (a6r (hl.symm.trans hl') fun i d d' e1 e2 => ?_)
    have hlt : i < xs.length := by rw [hl]; exact (a0B.mp e1).1
    exact ih (hi i d xs[i] e1 (a0A hlt)) (hi' i d' xs[i] e2 (a0A hlt))
theorem b2u {ds ds' : List Dt} (hl : ds.length = ds'.length) {e : Nat -> Bool} {N : Nat} (hN : N = ds.length) (he : ∀ (j : Nat) d d', ds[j]? = some d -> ds'[j]? = some d' -> (e j = true ↔ d = d')) : ((List.range N).all e = true ↔ ds = ds') := by
 subst hN
 rw [a4Z]
 constructor
 ·intro h
  refine a6r hl fun i a b e1 e2 => ?_
  exact (he i a b e1 e2).mp (h i (a2G.mpr (a0B.mp e1).1))
 ·intro h i hi
  have hi' := a2G.mp hi
  subst h
  exact (he i ds[i] ds[i] (by simp [hi']) (by simp [hi'])).mpr rfl
theorem b8j {P : Nat -> Bool -> Prop} (h : ∀ j, ∃ b, P j b) : ∃ e : Nat -> Bool, ∀ j, P j (e j) := ⟨fun j => Classical.choose (h j), fun j => a3T (h j)⟩
theorem b0f {A : Around} {its its' : List Value} {ds ds' : List Dt} (h1 : its.length = ds.length) (h2 : its'.length = ds'.length)
  (h : ∀ (j : Nat) u u' d d', its[j]? = some u -> its'[j]? = some u' -> ds[j]? = some d -> ds'[j]? = some d' -> ∃ b, SeqAt.EqAt A s u u' b /\ (b = true ↔ d = d')) :
  ∃ e : Nat -> Bool, (∀ j (g1 : j < its.toArray.size) (g2 : j < its'.toArray.size), SeqAt.EqAt A s its.toArray[j] its'.toArray[j] (e j)) /\ ∀ (j : Nat) d d', ds[j]? = some d -> ds'[j]? = some d' -> (e j = true ↔ d = d') := by
 obtain ⟨e, he⟩ := b8j (P := fun j b => (∀ u u', its[j]? = some u -> its'[j]? = some u' -> SeqAt.EqAt A s u u' b) /\ ∀ d d', ds[j]? = some d -> ds'[j]? = some d' -> (b = true ↔ d = d')) fun j => by
  by_cases g : j < its.length /\ j < its'.length
  ·obtain ⟨b, h3, h4⟩ := h j its[j] its'[j] (ds[j]'(by lia)) (ds'[j]'(by lia)) (by simp [g.1]) (by simp [g.2]) (List.getElem?_eq_getElem _) (List.getElem?_eq_getElem _)
   refine ⟨b, fun u u' q q' => ?_, fun d d' q q' => ?_⟩
   ·rw [a0A g.1] at q
    rw [a0A g.2] at q'
    cases q
    cases q'
    exact h3
   ·rw [a0A (by lia)] at q
    rw [a0A (by lia)] at q'
    cases q
    cases q'
    exact h4
  ·refine ⟨true, fun u u' q q' => absurd ⟨(a0B.mp q).1, (a0B.mp q').1⟩ g, fun d d' q q' => ?_⟩
   have q1 := (a0B.mp q).1
   have q2 := (a0B.mp q').1
   exact absurd ⟨by lia, by lia⟩ g
 refine ⟨e, fun j g1 g2 => ?_, fun j => (he j).2⟩
 simp only [List.size_toArray] at g1 g2
 exact (he j).1 _ _ (by simp [g1]) (by simp [g2])
theorem c0v (I : Inv X pins σ H s) {n : Nat} {A : Around} (hu : A.units < cLine) {d d' : Dt} {a a' : Addr} (r : Rep X.K H (n + 1) d (.ref a)) (r' : Rep X.K H (n + 1) d' (.ref a'))
  (ih : ∀ {d d' : Dt} {v v' : V} {u u' : Value}, Rep X.K H n d v -> Rep X.K H n d' v' -> RelV v u -> RelV v' u' -> ∃ b, SeqAt.EqAt A.in1 s u u' b /\ (b = true ↔ d = d')) :
  ∃ b, SeqAt.RcAt A s (.ref a) (.ref a') b /\ SeqAt.RcNeAt A s (.ref a) (.ref a') (!b) /\ (b = true ↔ d = d') := by
 cases r with
 | @lst _ ds _ xs h hl hi =>
  obtain ⟨its, rv, p, _⟩ := I.list h
  have l1 := rv.length
  cases r' with
  | @lst _ ds' _ xs' h' hl' hi' =>
   obtain ⟨its', rv', p', _⟩ := I.list h'
   have l2 := rv'.length
   by_cases hs : ds.length = ds'.length
   ·obtain ⟨e, e1, e2⟩ := b0f (A := A.in1) (s := s) (its := its) (its' := its') (ds := ds) (ds' := ds') (by lia) (by lia) fun j u u' d d' q1 q2 q3 q4 => by
     have g1 := (a0B.mp q3).1
     have g2 := (a0B.mp q4).1
     have k1 : xs[j]? = some (xs[j]'(by lia)) := a0A _
     have k2 : xs'[j]? = some (xs'[j]'(by lia)) := a0A _
     obtain ⟨w1, z1, y1⟩ := rv.get k1
     obtain ⟨w2, z2, y2⟩ := rv'.get k2
     rw [q1] at z1
     rw [q2] at z2
     cases z1
     cases z2
     exact ih (hi j d _ q3 k1) (hi' j d' _ q4 k2) y1 y2
    have hz : its.toArray.size = its'.toArray.size := by simp only [List.size_toArray]; lia
    refine ⟨_, SeqAt.RcAt.lists p.isList p'.isList hz hu e1, SeqAt.RcNeAt.lists p.isList p'.isList hz hu e1, ?_⟩
    rw [b2u hs (by simp only [List.size_toArray]; lia) e2]
    exact ⟨fun z => by rw [z], fun z => by cases z; rfl⟩
   ·have hz : (its.toArray.size != its'.toArray.size) = true := by
     rw [bne_iff_ne]
     simp only [List.size_toArray]
     lia
    refine ⟨false, SeqAt.RcAt.lists_lengths p.isList p'.isList hz hu, SeqAt.RcNeAt.lists_lengths p.isList p'.isList hz hu, ⟨fun z => (by cases z), fun z => ?_⟩⟩
    cases z
    exact absurd rfl hs
  | @tup _ ds' _ xs' h' hl' hi' =>
   obtain ⟨its', rv', p', _⟩ := I.tuple h'
   exact ⟨false, SeqAt.RcAt.list_tuple p.isList (show s.heap.IsTuple a' _ from p') hu, SeqAt.RcNeAt.list_tuple p.isList (show s.heap.IsTuple a' _ from p') hu, ⟨fun z => (by cases z), fun z => (by cases z)⟩⟩
 | @tup _ ds _ xs h hl hi =>
  obtain ⟨its, rv, p, _⟩ := I.tuple h
  have l1 := rv.length
  cases r' with
  | @lst _ ds' _ xs' h' hl' hi' =>
   obtain ⟨its', rv', p', _⟩ := I.list h'
   exact ⟨false, SeqAt.RcAt.tuple_list (show s.heap.IsTuple a _ from p) p'.isList hu, SeqAt.RcNeAt.tuple_list (show s.heap.IsTuple a _ from p) p'.isList hu, ⟨fun z => (by cases z), fun z => (by cases z)⟩⟩
  | @tup _ ds' _ xs' h' hl' hi' =>
   obtain ⟨its', rv', p', _⟩ := I.tuple h'
   have l2 := rv'.length
   obtain ⟨e, e1, e2⟩ := b0f (A := A.in1) (s := s) (its := its) (its' := its') (ds := ds) (ds' := ds') (by lia) (by lia) fun j u u' d d' q1 q2 q3 q4 => by
     have g1 := (a0B.mp q3).1
     have g2 := (a0B.mp q4).1
     have k1 : xs[j]? = some (xs[j]'(by lia)) := a0A _
     have k2 : xs'[j]? = some (xs'[j]'(by lia)) := a0A _
     obtain ⟨w1, z1, y1⟩ := rv.get k1
     obtain ⟨w2, z2, y2⟩ := rv'.get k2
     rw [q1] at z1
     rw [q2] at z2
     cases z1
     cases z2
     exact ih (hi j d _ q3 k1) (hi' j d' _ q4 k2) y1 y2
   refine ⟨_, SeqAt.RcAt.tuples (show s.heap.IsTuple a _ from p) (show s.heap.IsTuple a' _ from p') hu e1, SeqAt.RcNeAt.tuples (show s.heap.IsTuple a _ from p) (show s.heap.IsTuple a' _ from p') hu e1, ?_⟩
   by_cases hs : ds.length = ds'.length
   ·have hz : (its.toArray.size == its'.toArray.size) = true := by
     rw [b0H]
     simp only [List.size_toArray]
     lia
    rw [hz, Bool.and_true, b2u hs (by simp only [List.size_toArray]; lia) e2]
    exact ⟨fun z => by rw [z], fun z => by cases z; rfl⟩
   ·have hz : (its.toArray.size == its'.toArray.size) = false := by
     rw [a4X]
     simp only [List.size_toArray]
     lia
    rw [hz, Bool.and_false]
    refine ⟨fun z => (by cases z), fun z => ?_⟩
    cases z
    exact absurd rfl hs
theorem c0w {n m : Nat} {d d' : Dt} {v v' : V} (r : Rep X.K H n d v) (r' : Rep X.K H m d' v') (f : a5a v = true) (f' : a5a v' = true) : (eqV v v' = true ↔ d = d') := by
 cases r <;> first | (cases f; done) | skip
 all_goals (cases r' <;> first | (cases f'; done) | skip)
 all_goals first | exact ⟨fun _ => rfl, fun _ => rfl⟩ | exact ⟨fun z => Bool.noConfusion z, fun z => by cases z⟩ | exact ⟨fun z => a2C Dt.int (eq_of_beq z), fun z => by injection z with z; exact b0H.mpr z⟩ | exact ⟨fun z => a2C Dt.str (eq_of_beq z), fun z => by injection z with z; exact b0H.mpr z⟩
theorem b2v (I : Inv X pins σ H s) : ∀ (n : Nat) {A : Around}, A.units + n < cLine -> ∀ {d d' : Dt} {v v' : V} {u u' : Value}, Rep X.K H n d v -> Rep X.K H n d' v' -> RelV v u -> RelV v' u' -> ∃ b, SeqAt.EqAt A s u u' b /\ (b = true ↔ d = d') := by
 intro n
 induction n with
 | zero =>
  intro A hu d d' v v' u u' r r' q q'
  have f : a5a v = true := by cases r <;> rfl
  have f' : a5a v' = true := by cases r' <;> rfl
  exact ⟨_, b6h q q' f f', c0w r r' f f'⟩
 | succ n ih =>
  intro A hu d d' v v' u u' r r' q q'
  by_cases f : a5a v = true
  ·by_cases f' : a5a v' = true
   ·exact ⟨_, b6h q q' f f', c0w r r' f f'⟩
   ·refine ⟨false, ?_, ⟨fun z => (by cases z), fun z => ?_⟩⟩
    ·cases r' with
     | non => exact absurd rfl f'
     | int => exact absurd rfl f'
     | str => exact absurd rfl f'
     | @lst _ ds a xs h hl hi =>
      cases q'
      obtain ⟨its, _, p, _⟩ := I.list h
      cases r with
      | non => cases q; exact SeqAt.EqAt.none_list p.isList (by lia)
      | int _ i => obtain ⟨t, rfl⟩ := q; exact SeqAt.EqAt.int_list i t p.isList (by lia)
      | str _ x => obtain ⟨t, rfl⟩ := q; exact SeqAt.EqAt.str_list x t p.isList (by lia)
      | lst _ _ _ => cases f
      | tup _ _ _ => cases f
     | @tup _ ds a xs h hl hi =>
      cases q'
      obtain ⟨its, _, p, _⟩ := I.tuple h
      have p' : s.heap.IsTuple a its.toArray := p
      cases r with
      | non => cases q; exact SeqAt.EqAt.none_tuple p' (by lia)
      | int _ i => obtain ⟨t, rfl⟩ := q; exact SeqAt.EqAt.int_tuple i t p' (by lia)
      | str _ x => obtain ⟨t, rfl⟩ := q; exact SeqAt.EqAt.str_tuple x t p' (by lia)
      | lst _ _ _ => cases f
      | tup _ _ _ => cases f
    ·subst z
     cases r <;> first | (cases f; done) | skip
     all_goals (cases r'; exact absurd rfl f')
  ·by_cases f' : a5a v' = true
   ·refine ⟨false, ?_, ⟨fun z => (by cases z), fun z => ?_⟩⟩
    ·cases r with
     | non => exact absurd rfl f
     | int => exact absurd rfl f
     | str => exact absurd rfl f
     | @lst _ ds a xs h hl hi =>
      cases q
      obtain ⟨its, _, p, _⟩ := I.list h
      cases r' with
      | non => cases q'; exact SeqAt.EqAt.list_none p.isList (by lia)
      | int _ i => obtain ⟨t, rfl⟩ := q'; exact SeqAt.EqAt.list_int i t p.isList (by lia)
      | str _ x => obtain ⟨t, rfl⟩ := q'; exact SeqAt.EqAt.list_str x t p.isList (by lia)
      | lst _ _ _ => cases f'
      | tup _ _ _ => cases f'
     | @tup _ ds a xs h hl hi =>
      cases q
      obtain ⟨its, _, p, _⟩ := I.tuple h
      have p' : s.heap.IsTuple a its.toArray := p
      cases r' with
      | non => cases q'; exact SeqAt.EqAt.tuple_none p' (by lia)
      | int _ i => obtain ⟨t, rfl⟩ := q'; exact SeqAt.EqAt.tuple_int i t p' (by lia)
      | str _ x => obtain ⟨t, rfl⟩ := q'; exact SeqAt.EqAt.tuple_str x t p' (by lia)
      | lst _ _ _ => cases f'
      | tup _ _ _ => cases f'
    ·subst z
     cases r' <;> first | (cases f'; done) | skip
     all_goals (cases r; exact absurd rfl f)
   ·have ex : ∀ {m : Nat} {d : Dt} {v : V}, Rep X.K H m d v -> ¬ a5a v = true -> ∃ a, v = .ref a := fun {m d v} r f => by
     cases r <;> first | exact ⟨_, rfl⟩ | exact absurd rfl f
    obtain ⟨a, rfl⟩ := ex r f
    obtain ⟨a', rfl⟩ := ex r' f'
    cases q
    cases q'
    by_cases ha : a = a'
    ·subst ha
     exact ⟨true, SeqAt.EqAt.same _, ⟨fun _ => b4u I (n + 1) r r', fun _ => rfl⟩⟩
    ·obtain ⟨b, h1, _, h3⟩ := c0v I (A := A) (by lia) r r' fun r r' q q' => ih (A := A.in1) (by show A.units + 1 + n < cLine; lia) r r' q q'
     exact ⟨b, .of_refs ha h1, h3⟩
def c8r (K : W.Frag) (neg : Bool) : R2 := fun x y H Q => ∃ a a' n d d', x = .ref a /\ y = .ref a' /\ Rep K H (n + 1) d (.ref a) /\ Rep K H (n + 1) d' (.ref a') /\ n <= 30 /\ ∀ b, (b = true ↔ d = d') -> Q (.bl (if neg then !b else b)) H
theorem c7d (hu : X.A.units + 64 < cLine) : OpR X (compareOp .Eq) (c8r X.K false) := by
 intro pins s σ H x y v u Q I rx ry h
 obtain ⟨a, a', n, d, d', rfl, rfl, r, r', hn, q⟩ := h
 cases rx
 cases ry
 obtain ⟨b, h1, _, h3⟩ := c0v I (A := X.A) (by lia) r r' fun r r' q q' => b2v I n (A := X.A.in1) (by show X.A.units + 1 + n < cLine; lia) r r' q q'
 exact h1 _ _ _ _ ⟨.bl b, H, I, rfl, q b h3⟩
theorem b2w (hu : X.A.units + 64 < cLine) : OpR X (compareOp .NotEq) (c8r X.K true) := by
 intro pins s σ H x y v u Q I rx ry h
 obtain ⟨a, a', n, d, d', rfl, rfl, r, r', hn, q⟩ := h
 cases rx
 cases ry
 obtain ⟨b, _, h2, h3⟩ := c0v I (A := X.A) (by lia) r r' fun r r' q q' => b2v I n (A := X.A.in1) (by show X.A.units + 1 + n < cLine; lia) r r' q q'
 exact h2 _ _ _ _ ⟨.bl (!b), H, I, rfl, q b h3⟩
end
theorem c4y {K : W.Frag} {H : Hp} {n : Nat} {is : List Int} (i : Nat) (d : Dt) (v : V) (h1 : (is.map Dt.int)[i]? = some d) (h2 : (is.map V.int)[i]? = some v) : Rep K H n d v := by
 rw [a0E] at h1 h2
 cases e : is[i]? with
 | none => rw [e] at h1; cases h1
 | some k =>
  rw [e] at h1 h2
  cases h1
  cases h2
  exact .int n k
theorem repT {K : W.Frag} {H : Hp} {n : Nat} {is : List Int} {a : Addr} (h : SqT K H a (is.map V.int)) : Rep K H (n + 1) (.tup (is.map Dt.int)) (.ref a) := .tup h (by simp) c4y
theorem a6c {α β : Type} {f : α -> β} (hf : ∀ a b, f a = f b -> a = b) : ∀ {xs ys : List α}, xs.map f = ys.map f -> xs = ys
 | [], [], _ => rfl
 | [], _ :: _, h => by simp at h
 | _ :: _, [], h => by simp at h
 | a :: xs, b :: ys, h => by
  simp only [List.map_cons, List.cons.injEq] at h
  rw [hf a b h.1, a6c hf h.2]
theorem dt_ints {xs ys : List Int} : Dt.lst (xs.map Dt.int) = Dt.lst (ys.map Dt.int) ↔ xs = ys :=
 ⟨fun h => by injection h with h; exact a6c (fun a b e => by injection e) h, fun h => by rw [h]⟩
theorem dt_intsT {xs ys : List Int} : Dt.tup (xs.map Dt.int) = Dt.tup (ys.map Dt.int) ↔ xs = ys :=
 ⟨fun h => by injection h with h; exact a6c (fun a b e => by injection e) h, fun h => by rw [h]⟩
def a4g (n : Nat) : List V := (List.range n).map fun (i : Nat) => V.int (i : Int)
section
variable {X : Cx}
def d1g : List V -> Hp -> VK -> Prop := fun xs H Q => ∃ j : Int, xs = [.int j] /\ ∀ p, H p = none -> Q (.ref p) (upd H p (.rng 0 j))
theorem a8w : CallR X (.type "range") d1g := by
 intro pins s σ H xs us Q I r h
 obtain ⟨j, rfl, q⟩ := h
 obtain ⟨u, rfl, t, rfl⟩ := a4f r
 refine call_range_1 ⟨.ref s.heap.objs.size, _, I.laid (t' := s.toks + 1 + 1) (fun b o e => a0I _ e) (a0N _) (show ObjOk X.prog X.w _ _ _ (.rng 0 j) from ⟨_, _, _, a0R _ rfl⟩), rfl, q _ (I.hok.fresh (a0N _))⟩
theorem a8x {n : Nat} {acc : Array Value} (h : ItemsOf (fun i v => ∃ t, v = Value.int ((0 : Int) + (i : Nat) * 1) t) acc n) : Vals (a4g n) acc.toList := by
 obtain ⟨hs, hi⟩ := h
 have go : ∀ (xs : List V) (us : List Value), xs.length = us.length -> (∀ (j : Nat) x u, xs[j]? = some x -> us[j]? = some u -> RelV x u) -> Vals xs us := by
  intro xs
  induction xs with
  | nil => intro us hl _; cases us with
   | nil => exact .nil
   | cons => simp at hl
  | cons x xs ih =>
   intro us hl h
   cases us with
   | nil => simp at hl
   | cons u us => exact .cons (h 0 x u rfl rfl) (ih us (by simpa using hl) fun j a b e1 e2 => h (j + 1) a b (by simpa using e1) (by simpa using e2))
 refine go _ _ (by simp [a4g, hs]) fun j x u e1 e2 => ?_
 obtain ⟨t, rfl⟩ := hi j u (by simpa using e2)
 unfold a4g at e1
 rw [a0E] at e1
 have hj : j < n := by
  have := (a0B.mp e2).1
  simpa [hs] using this
 rw [a3I hj] at e1
 cases e1
 refine ⟨t, ?_⟩
 congr 1
 lia
theorem a8y {j : Int} (h0 : 0 <= j) (h1 : j <= 1000000) : Builtin.Range.small 0 j 1 = true := small_one (by decide) (by decide) (by lia) (by lia)
theorem a8z {j : Int} (h0 : 0 <= j) : Builtin.Range.rangeSize 0 j 1 = (j.toNat : Nat) := by
 rw [rangeSize_one]
 split <;> lia
def c4z : List V -> Hp -> VK -> Prop := fun xs H Q => ∃ p j, xs = [.ref p] /\ H p = some (.rng 0 j) /\ 0 <= j /\ j <= 1000000 /\ ∀ l, H l = none -> Q (.ref l) (upd H l (.lst (a4g j.toNat)))
theorem b0z (hc : X.calm = true) : CallR X (.type "list") c4z := by
 intro pins s σ H xs us Q I r h
 obtain ⟨p, j, rfl, hp, h0, h1, q⟩ := h
 obtain ⟨u, rfl, rx⟩ := a4f r
 cases rx
 obtain ⟨t1, t2, t3, e⟩ := I.hok p _ hp
 refine call_list_range (I.ok.hd hc) e (a8y h0 h1) (a8z h0) (by lia) fun h' tk acc c' kp e' hit => ?_
 have hv := a8x hit
 have e2 : h'.get? s.heap.objs.size = some { cls := .type "list", data := .seq acc.toList.toArray c' } := by simpa using e'
 exact ⟨.ref s.heap.objs.size, _, I.laid (t' := tk) kp (a0N _) (show ObjOk X.prog X.w _ h' _ (.lst (a4g j.toNat)) from ⟨by rw [a1B]; simp [a4g]; lia, acc.toList, c', hv, e2⟩), rfl, q _ (I.hok.fresh (Nat.le_refl _))⟩
end
section
open AutoSeq1 (wpAny_loadPart')
abbrev a8i (j : Int) (acc : Array Value) : Prop := ItemsOf (fun i v => ∃ t, v = Value.int ((0 : Int) + (i : Nat) * 1) t) acc j.toNat
theorem b4v {prog : Program} {w : World} {A : Around} {E : Value -> Shared -> Prop} {s : Shared} {Q : List Value -> Shared -> Prop} {r : Addr} {j : Int} {t u v : Tok} (hh : A.handled = none) (hr : IsRange s.heap r 0 j 1 t u v) (h0 : 0 <= j) (h1 : j <= 1000000)
  (hQ : ∀ h' tk acc, (∀ b o, s.heap.get? b = some o -> h'.get? b = some o) -> a8i j acc -> Q acc.toList { s with heap := h', toks := tk }) : wpAny (model prog w) A (collect (.ref r)) Q E s := by
 have hS : (s.heap.push { cls := .type "list", data := .seq ([] : List Value).toArray }).get? s.heap.objs.size = some { cls := .type "list", data := .seq #[] 0 } := by exact a0R _ rfl
 unfold collect; refine wpAny_bind (wpAny_runValue (codeAny_builtin F.entry_proto_collect ?_)); rw [Around.under_plainId F.plain_proto_collect _]
 show wpAny _ A.in1 (newList [] >>= fun l => again (.builtin "list.__iadd__" ⟨[l, .ref r], []⟩)) _ _ s
 refine a0C (a3S (a0G ⟨a6J F.plain_list_iadd _, a3J F.entry_list_iadd ?_⟩)); rw [a3P F.plain_list_iadd _]
 show wpAny _ A.in1 (Builtin.List.listExtendWith (.ref s.heap.objs.size) (.ref r) (.ref s.heap.objs.size)) _ _ _
 have fin' : ∀ s', (∃ h' tk acc c', s' = { s with heap := h', toks := tk } /\ (∀ b o, s.heap.get? b = some o -> h'.get? b = some o) /\ h'.get? s.heap.objs.size = some { cls := .type "list", dict := none, data := .seq acc c', slots := #[] } /\ a8i j acc) ->
   wpAny (model prog w) A (match Value.ref s.heap.objs.size with
    | Value.ref a => do
     let o <- load a
     match o.data with
      | Data.seq xs _ => pure xs.toList
      | _ => unsupported "internal:collect"
    | _ => unsupported "internal:collect") Q E s' := by
  rintro s' ⟨h', tk, acc, c', rfl, kp, hS', hit⟩
  show wpAny _ A (load s.heap.objs.size >>= _) _ _ _
  exact a0C (wpAny_load hS' (a0G (hQ h' tk acc kp hit)))
 refine a3D (wpAny_extend_range (A := A) (R := fun r s' => r = .ok (.ret (.ref s.heap.objs.size)) /\ ∃ h' tk acc c', s' = { s with heap := h', toks := tk } /\ (∀ b o, s.heap.get? b = some o -> h'.get? b = some o) /\ h'.get? s.heap.objs.size = some { cls := .type "list", dict := none, data := .seq acc c', slots := #[] } /\ a8i j acc)
  (s := { s with heap := s.heap.push { cls := .type "list", data := .seq ([] : List Value).toArray } }) hh (a0I _ hr) (a8y h0 h1) (a8z h0) (by lia) _ (.ref s.heap.objs.size) 0 hS fun h' tk acc c' kp hS' hit =>
   ⟨rfl, h', tk, acc, c', rfl, fun b o e => kp b o (a1J (a0Q e)) (a0I _ e), hS', hit⟩) (fun fin s' h => ?_) (fun e s' h => absurd h.1 (by simp))
 cases fin with
 | done f => obtain ⟨e, g⟩ := h; cases e; exact fin' _ g
 | again c' => exact ⟨h.1, a5A h.2 fun r s'' hr => by obtain ⟨rfl, g⟩ := hr; exact fin' _ g⟩
theorem a9a (r : Addr) (j : Int) (t u v : Tok) (h0 : 0 <= j) (h1 : j <= 1000000) : Meets (Builtin.«tuple.__new__» ⟨[.type "tuple", .ref r], []⟩)
  (fun A R s => A.handled = none /\ IsRange s.heap r 0 j 1 t u v /\ ∀ (h' : Heap) tk acc, (∀ b o, s.heap.get? b = some o -> h'.get? b = some o) -> a8i j acc ->
   R (.ok (.ret (.ref h'.objs.size))) { s with heap := h'.push { cls := .type "tuple", data := .seq acc }, toks := tk }) :=
 .of_wp fun prog w A R s h => by
  obtain ⟨hp, g, d, tk, os⟩ := s; obtain ⟨hh, hr, h⟩ := h
  have hsub := sub_tuple_self; have hinit := init_tuple_lookup; have hmh := madeHere_tuple
  have hT : Shared.TypeIs ⟨hp, g, d, tk, os⟩ (.ref r) "range" := ⟨_, hr, rfl⟩
  wp_walk using a8P hr, a9Y hT, b4v (A := A.in1) hh hr h0 h1
  intro h' tk' acc hk hit
  show wpAny _ _ (Builtin.Tuple.tupleExact acc.toList.toArray >>= fun v => ret v) _ _ _
  have hz : acc.toList.toArray.size <= sizeLine := by
   have := hit.1
   rw [a1B]
   simp only [List.size_toArray, Array.length_toList]
   lia
  unfold Builtin.Tuple.tupleExact; refine wpAny_bind (wpAny_newObj_type (wpAny_pure ⟨_, rfl, ?_⟩) hz)
  have e : acc.toList.toArray = acc := by simp
  rw [e]; exact h h' tk' acc hk hit
end
section
variable {X : Cx}
def c8s : List V -> Hp -> VK -> Prop := fun xs H Q => ∃ p j, xs = [.ref p] /\ H p = some (.rng 0 j) /\ 0 <= j /\ j <= 1000000 /\ ∀ l, H l = none -> Q (.ref l) (upd H l (.tup (a4g j.toNat)))
theorem b2x (hc : X.calm = true) : CallR X (.type "tuple") c8s := by
 intro pins s σ H xs us Q I r h
 obtain ⟨p, j, rfl, hp, h0, h1, q⟩ := h
 obtain ⟨u, rfl, rx⟩ := a4f r
 cases rx
 obtain ⟨t1, t2, t3, e⟩ := I.hok p _ hp
 refine callType_new F.called_tuple (by decide) (F.typeCall_tuple_1 _) (F.newCall_tuple_1 _) (fun obj => F.args_object_init_2 obj _) F.entry_tuple_new (a9a p j t1 t2 t3 h0 h1) ⟨I.ok.hd hc, e, fun h' tk acc kp hit => ⟨⟨_, a0R _ rfl, rfl⟩, ?_⟩⟩
 have hv := a8x hit
 have I1 : Inv X pins σ H { s with heap := h', toks := tk } := I.kept kp
 have hz : (a4g j.toNat).length <= sizeLine := by rw [a1B]; simp [a4g]; lia
 have I2 : Inv X pins σ (upd H h'.objs.size (.tup (a4g j.toNat))) { s with heap := h'.push { cls := .type "tuple", data := .seq acc }, toks := tk } :=
  I1.laid (t' := tk) (fun b o e => a0I _ e) (a0N _) (show ObjOk X.prog X.w _ _ _ (.tup (a4g j.toNat)) from ⟨hz, acc.toList, hv, by simpa using TupD.new h' acc⟩)
 exact ⟨.ref h'.objs.size, _, I2, rfl, q _ (I1.hok.fresh (a0N _))⟩
end
structure CompSc (N : List Str) (osc : Scope) (vs : List Str) (sc : Scope) : Prop where
 kind : sc.kind = .function := by rfl
 cell : ∀ y ∈ sc.names, y.2 ≠ .cell := by decide +kernel
 locs : ∀ y ∈ sc.names, y.2 = .local -> sc.names.lookup y.1 = some .local := by decide +kernel
 own : ∀ y ∈ N.map (c4i vs), sc.names.lookup y ≠ some .local := by decide +kernel
 hid : ∀ y ∈ vs, sc.names.lookup (b4r y) = none := by decide +kernel
 nd : (vs ++ N.map (c4i vs)).Nodup := by decide +kernel
 free : ∀ y ∈ sc.names, y.2 = .free -> osc.names.lookup y.1 = some .cell ∨ osc.names.lookup y.1 = some .free := by decide +kernel
theorem CompSc.to {X : Cx} {N : List Str} {osc : Scope} {vs : List Str} {sc : Scope} (h : CompSc N osc vs sc) (hN : X.N = N := by rfl) (hs : X.env.scope = osc := by rfl) : CompScope X vs sc := by
 subst hN hs
 exact ⟨h.kind, h.cell, h.locs, h.own, h.hid, h.nd, h.free⟩
def a0l (P : Program) (w : World) (K : W.Frag) (mg : Str -> Option Value) (base : Heap) (x : Str) (k : Nat) (ps : List Str) (sp : Sp) : Prop :=
 ∃ f fd, FnOk P w K mg base CX0 k f fd ps sp /\ mg x = some (.ref f) /\ PySem.W.keepIn K (.ref f) = true /\ Binds K fd ps []
theorem a0m {X : Cx} {x : Str} {k : Nat} {ps : List Str} {sp : Sp} {e : Expr} {es : List Expr} {t : TA} {p pos : Pos} (c : a0l X.prog X.w X.K X.mg X.base x k ps sp) (hr : Room k X.A) (hg : Gl X x) (ha : PA X (e :: es) t)
  (hd : (x == ("__debug__" : Str)) = false := by decide) (hs : starEach (e :: es) X.env = (false, eval e X.env) :: starEach es X.env := by rfl) (hp : (backTo pos (starEach es X.env)).any (·.1) = false := by rfl) :
  PE X (.Call (.Name x p) (e :: es) [] pos) (c4q sp [] E0 t) := by
 obtain ⟨f, fd, F, m, kp, b⟩ := c
 exact c8i F hr hg m kp b .nil d1a ha hd hs hp
theorem IxR.k {X : Cx} {K : W.Frag} (r : W.Frag -> R2) (h : IxR X (r X.K)) (hK : X.K = K) : IxR X (r K) := hK ▸ h
theorem OpR.k {X : Cx} {K : W.Frag} {f : Value -> Value -> Sem Value} (r : W.Frag -> R2) (h : OpR X f (r X.K)) (hK : X.K = K) : OpR X f (r K) := hK ▸ h
theorem CallR.k {X : Cx} {K : W.Frag} {f : Value} (r : W.Frag -> List V -> Hp -> VK -> Prop) (h : CallR X f (r X.K)) (hK : X.K = K) : CallR X f (r K) := hK ▸ h
abbrev d1h (K : W.Frag) : List V -> Hp -> VK -> Prop := fun xs H Q => ∃ p ys, xs = [.ref p] /\ ((SqL K H p ys /\ ∀ l, H l = none -> Q (.ref l) (upd H l (.tup ys))) ∨ (SqT K H p ys /\ Q (.ref p) H))
theorem a0c {H : Hp} {p : Addr} (h : H p = none) (o : HO) : Same H (upd H p o) := fun b u q => by rw [a0d (a0h q h)]; exact q
theorem small {n : Nat} (h : n <= 1000) : n <= sizeLine := a3G (c0l h)
abbrev nv (n : Nat) : V := .int (n : Int)
theorem c8t (xs : List Nat) : xs.map nv = (xs.map fun (n : Nat) => (n : Int)).map V.int := by rw [a1T]; rfl
theorem b6k {xs ys : List Nat} : (xs.map fun (n : Nat) => (n : Int)) = (ys.map fun (n : Nat) => (n : Int)) ↔ xs = ys :=
 ⟨fun h => a6c (fun a b e => a8K e) h, fun h => by rw [h]⟩
theorem a4x {K : W.Frag} {H : Hp} {n : Nat} {is : List Nat} {a : Addr} (h : SqT K H a (is.map nv)) : Rep K H (n + 1) (.tup ((is.map fun (n : Nat) => (n : Int)).map Dt.int)) (.ref a) := repT (by rw [<- c8t]; exact h)
theorem c8u {xs ys : List Nat} : Dt.lst ((xs.map fun (n : Nat) => (n : Int)).map Dt.int) = Dt.lst ((ys.map fun (n : Nat) => (n : Int)).map Dt.int) ↔ xs = ys := dt_ints.trans b6k
theorem dt_natsT {xs ys : List Nat} : Dt.tup ((xs.map fun (n : Nat) => (n : Int)).map Dt.int) = Dt.tup ((ys.map fun (n : Nat) => (n : Int)).map Dt.int) ↔ xs = ys := dt_intsT.trans b6k
theorem c0x {xs : List Nat} {k : Nat} (h : k < xs.length) : atI (xs.map nv) (k : Int) = some (nv (xs.getD k 0)) := a2r (by rw [a0E, a0A h, a0J, a0A h]; rfl)
def d1i (H : Hp) (xs : List V) (Q : VK) : Prop := ∀ r H', Same H H' -> H' r = some (.tup xs) -> Q (.ref r) H'
def tCut (t : TS) : TS := fun D σ H => ∃ S : St -> Hp -> Prop, t { D with nx := S } σ H /\ ∀ σ' H', S σ' H' -> D.nx σ' H'
theorem d1j {X : Cx} {st : Stmt} {t : TS} (h : PS X st t) : PS X st (tCut t) := by
 intro pins s σ H D I q
 obtain ⟨S, q1, q2⟩ := q
 refine thn (h pins s σ H _ I q1) fun f s' z => ?_
 cases f with
 | next => obtain ⟨σ', H', I', z⟩ := z; exact ⟨σ', H', I', q2 σ' H' z⟩
 | brk => exact z
 | cont => exact z
 | ret u => exact z
theorem a1t {H H' : Hp} {l : Addr} {o : HO} (g : Same H H') (hl : H l = none) : Same H (upd H' l o) := fun b u e => by rw [a0d (a0h e hl)]; exact g b u e
theorem d1k {cs : List Int} {k : Nat} (h : k < cs.length) : atI (cs.map V.int) (k : Int) = some (.int (cs.getD k 0)) := a2r (by rw [a0E, a0A h, a0J, a0A h]; rfl)
theorem b1a {n k : Nat} (h : k < n) : ixN n (k : Int) = some k := by
 unfold ixN
 rw [if_pos (by lia), if_pos (by lia), a2I]
theorem c0y (c : Int) {n : Nat} (h : 1 <= n) : V.int (c % (n : Int)) = nv (c % (n : Int)).toNat /\ (c % (n : Int)).toNat < n := by
 have h1 := Int.emod_nonneg c (by lia : (n : Int) ≠ 0)
 have h2 := Int.emod_lt_of_pos c (by lia : (0 : Int) < (n : Int))
 refine ⟨?_, by lia⟩
 show V.int _ = V.int (((c % (n : Int)).toNat : Nat) : Int)
 rw [Int.toNat_of_nonneg h1]
theorem b6l (ys : List Nat) (j v : Nat) : (ys.map nv).set j (nv v) = (ys.set j v).map nv := (List.map_set).symm
theorem b6m {ys : List Nat} {j v n : Nat} (h : ∀ y ∈ ys, y < n) (hv : v < n) : ∀ y ∈ ys.set j v, y < n := by
 intro y hy
 rcases List.mem_or_eq_of_mem_set hy with z | z
 ·exact h y z
 ·rw [z]; exact hv
theorem a9b {ys : List Nat} {j n : Nat} (h : ∀ y ∈ ys, y < n) (hj : j < ys.length) : ys.getD j 0 < n := by
 rw [a0J, a0A hj]
 exact h _ (a2Y hj)
theorem b4w {P : Program} {w : World} {a : Addr} {κ : Type} [DecidableEq κ] {kd : HeapKind P w κ} (na : (a == sysModules) = false) :
  MeetsIn P w (Builtin.«dict.__len__» ⟨[.ref a], []⟩) fun _ R s => ∃ xs, s.heap.DictOfH kd a xs /\ R (.ok (.ret (.int xs.length s.toks))) { s with toks := s.toks + 1 } :=
 .of_wp fun A R s ⟨xs, dd, q⟩ => by
  obtain ⟨ob, en, ep, g1, g2, g3, g4, _⟩ := dd
  have ez : en.size = xs.length := a8Q g4
  show wpAny _ _ (dictSize a >>= _) _ _ s
  unfold dictSize
  refine a0C (a0C (a4E g1 g3 (a0G (a0C (wpAny_pendingCount_other na (wpAny_ret_mkInt ?_))))))
  rw [a8Z, ez]
  exact q
theorem b8k {P : Program} {w : World} {A : Around} {E : Value -> Shared -> Prop} {s : Shared} {a : Addr} {κ : Type} [DecidableEq κ] {kd : HeapKind P w κ} {xs : List (κ × Addr × Value)} {Q : Value -> Shared -> Prop} (na : (a == sysModules) = false)
  (dd : s.heap.DictOfH kd a xs) (few : (xs.length : Int) < 2 ^ 63) (q : Q (.int xs.length (s.toks + 1)) { s with toks := s.toks + 1 + 1 }) : wpAny (model P w) A (Builtin.«len» ⟨[.ref a], []⟩) (fun fin s' => ∃ r, fin = .done (.ret r) /\ Q r s') E s := by
 have n0 : ¬ ((xs.length : Nat) : Int) < 0 := by lia
 have n1 : ¬ ((xs.length : Nat) : Int) ≥ 2 ^ 63 := by lia
 unfold Builtin.«len»
 refine a0C (m := oneArg "len" _) (a0G (a0C (m := callSpecial? (.ref a) (Str.ofString "__len__")) ?_))
 refine a3O (name := Str.ofString "__len__") dd.typeIs F.slot_dict_len (call_meetsIn F.slot_dict_len dd.typeIs F.entry_dict_len (F.args_dict_len_1 _) (b4w (kd := kd) na) ⟨xs, dd, ?_⟩)
 show wpAny _ _ _ _ _ { s with toks := s.toks + 1 }
 refine a0C (a1Y (a0G (a0C (wpAny_letGo ?_))))
 show wpAny _ _ (if ((xs.length : Nat) : Int) < 0 then _ else (if ((xs.length : Nat) : Int) ≥ 2 ^ 63 then _ else _)) _ _ _
 rw [if_neg n0, if_neg n1]
 exact a0C (wpAny_mkInt (a0G ⟨_, rfl, q⟩))
section
variable {X : Cx}
theorem c0z : CallR X (.builtin "len") (fun xs H Q => ∃ a kvs, xs = [V.ref a] /\ H a = some (.dT kvs) /\ Q (.int kvs.length) H) := by
 intro pins s σ H xs us Q I r h
 obtain ⟨a, kvs, rfl, ha, q⟩ := h
 obtain ⟨u, rfl, ru⟩ := a4f r
 cases ru
 obtain ⟨z, na, ys, rel, dd⟩ := c8m I.hok ha
 have el : kvs.length = ys.length := a4T rel
 refine a2Z kind_len plain_len entry_len (args_len1 _) (b8k na dd (by rw [<- el]; rw [a1B] at z; lia) ?_)
 exact ⟨.int kvs.length, H, I.tok _, ⟨_, by rw [el]⟩, q⟩
end
def nk (xs : List Nat) : List Key := xs.map fun (n : Nat) => (Sum.inl (n : Int) : Key)
theorem a5y (xs : List Nat) : (nk xs).map kV = xs.map nv := by
 unfold nk
 rw [a1T]
 rfl
theorem b0g {xs ys : List Nat} (h : nk xs = nk ys) : xs = ys := by
 unfold nk at h
 exact a6c (fun a b e => by injection e with e; exact a8K e) h
section
variable {X : Cx}
def d1l (K : W.Frag) : R2 := fun x y H Q => ∃ l b xs zs, x = .ref l /\ y = .ref b /\ SqL K H l xs /\ SqL K H b zs /\ xs.length + zs.length <= sizeLine /\ ∀ p, H p = none -> Q (.ref p) (upd H p (.lst (xs ++ zs)))
theorem c1a : OpR X (binaryOp .Add) (d1l X.K) := by
 intro pins s σ H x y v u Q I rx ry h
 obtain ⟨l, b, xs, zs, rfl, rfl, hl, hb, hz, q⟩ := h
 cases rx
 cases ry
 obtain ⟨its, r, ⟨⟨c1, d1, k1, s1⟩, n, e, ec, ed, ek⟩, _⟩ := I.list hl
 obtain ⟨its2, r2, ⟨⟨c2, d2, k2, s2⟩, n2, e2, ec2, ed2, ek2⟩, _⟩ := I.list hb
 simp only at ec ed ek ec2 ed2 ek2
 subst ec ed ek ec2 ed2 ek2
 have l1 := r.length
 have l2 := r2.length
 have ea : its.toArray ++ its2.toArray = (its ++ its2).toArray := by simp
 refine concat_meets ⟨_, e, rfl⟩ ⟨_, e2, rfl⟩ noFill_list_add seq_list_add F.slot_list_add F.entry_list_add (F.args_list_add_2 _ _) (list_addW l b its.toArray its2.toArray n n2 none none s1 s2 (by simp only [List.size_toArray]; lia)) ⟨e, e2, ?_⟩
 rw [ea]
 exact ⟨.ref _, _, I.lnew (t' := s.toks) (r.append r2) (by rw [a0Z]; lia), rfl, q _ I.fresh⟩
end
section
variable {X : Cx}
def rAll (K : W.Frag) : List V -> Hp -> VK -> Prop := fun xs H Q => ∃ (p : Addr) (bs : List Bool), xs = [.ref p] /\ SqL K H p (bs.map V.bl) /\ Q (.bl (bs.all id)) H
theorem c1b (hc : X.calm = true) : CallR X (.builtin "all") (rAll X.K) := by
 intro pins s σ H xs us Q I r h
 obtain ⟨p, bs, rfl, hp, q⟩ := h
 obtain ⟨u, rfl, ru⟩ := a4f r
 cases ru
 obtain ⟨its, rv, pl, _⟩ := I.list hp
 have hl := pl.isList
 have hlt : p < s.heap.objs.size := pl.lt
 have hlen : its.length = bs.length := by rw [<- rv.length, a0D]
 refine call_all_walk (a7N hl ⟨_, _, _, _, _, _, fun i => bs.getD i false, rfl, Walks.list (A := X.A.in1) (I.ok.hd hc) _ p (a1J hlt) its.toArray, ⟨⟨_, a0R _ rfl, rfl, rfl⟩, hl.push _⟩, ?_, fun h' tk hk => ?_⟩)
 ·intro i v s2 Q2 E2 hv hq
  have hv' : its[i]? = some v := by simpa using hv
  have hi : i < bs.length := by rw [<- hlen]; exact (a0B.mp hv').1
  obtain ⟨u2, e1, e2⟩ := rv.get (i := i) (x := .bl (bs.getD i false)) (by rw [a0E, a0A hi, a0J, a0A hi]; rfl)
  rw [hv'] at e1
  cases e1
  cases (show v = Value.bool _ from e2)
  exact a4D hq
 ·have e : (List.range its.toArray.size).all (fun i => bs.getD i false) = bs.all id := by
   rw [a0U, hlen]
   have : bs = (List.range bs.length).map fun i => bs.getD i false := by
    refine a9O (by simp) fun i h1 h2 => ?_
    simp [List.getD_eq_getElem?_getD, h1]
   conv => rhs; rw [this, List.all_map]
   rfl
  rw [e]
  exact ⟨.bl (bs.all id), H, I.kept fun b o z => hk b o (by simp only [List.mem_singleton]; exact Nat.ne_of_lt (Heap.lt_size z)) (Heap.get?_push_of_some _ z), rfl, q⟩
end
structure PL (X : Cx) (es : List Expr) (t : TA) : Prop where
 pa : PA X es t
section
variable {X : Cx} {e a b : Expr} {es : List Expr} {te ta tb : TE} {t : TA} {pos : Pos}
theorem a1c : PL X [] b9t := ⟨a0j⟩
theorem a0e (ha : PE X e te) (hr : PL X es t) (hs : starEach (e :: es) X.env = (false, eval e X.env) :: starEach es X.env) : PL X (e :: es) (a7e te t) := ⟨a0g ha hr.pa hs⟩
theorem a2a (h : PL X es t) : PA X es t := h.pa
end
def d1m (op : CmpOp) (A : Around) (s : Shared) (x y : Value) (r : Bool) : Prop :=
 ∀ (P : Program) (w : World) (E : Value -> Shared -> Prop) (Q : Value -> Shared -> Prop), Q (.bool r) s -> wpAny (model P w) A (richCompare op x y) Q E s
inductive Cmp (op : CmpOp) (A : Around) (s : Shared) : List (Value × Value) -> Option Bool -> Prop where
 | nil : Cmp op A s [] none
 | eq {x y zs o} : SeqAt.EqAt A s x y true -> Cmp op A s zs o -> Cmp op A s ((x, y) :: zs) o
 | ne {x y zs r} : SeqAt.EqAt A s x y false -> d1m op A s x y r -> Cmp op A s ((x, y) :: zs) (some r)
def SeqObj (c : String) (h : Heap) (a : Addr) (its : List Value) : Prop := ∃ n dx sl, h.get? a = some ⟨.type c, dx, .seq its.toArray n, sl⟩
section
variable {P : Program} {w : World} {A : Around} {E : Value -> Shared -> Prop} {s : Shared} {op : CmpOp}
theorem c5a {β : Type} {f : Value × Value -> β -> Sem (ForInStep β)} {b0 : β} {Q : β -> Shared -> Prop} {zs : List (Value × Value)} {o : Option Bool} (h : Cmp op A s zs o)
  (yes : ∀ x y Q, SeqAt.EqAt A s x y true -> Q (.yield b0) s -> wpAny (model P w) A (f (x, y) b0) Q E s)
  (no : ∀ x y r, SeqAt.EqAt A s x y false -> d1m op A s x y r -> o = some r -> wpAny (model P w) A (f (x, y) b0) (fun t s' => match t with | .yield _ => False | .done b => Q b s') E s)
  (fin : o = none -> Q b0 s) : wpAny (model P w) A (forIn zs b0 f) Q E s := by
 refine a6X f (fun rest b s' => b = b0 /\ s' = s /\ Cmp op A s rest o) Q (fun z rest b s' q => ?_) (fun b s' q => ?_) zs b0 ⟨rfl, rfl, h⟩
 ·obtain ⟨rfl, rfl, c⟩ := q
  cases c with
  | eq e c => exact yes _ _ _ e ⟨rfl, rfl, c⟩
  | ne e c =>
   refine a3D (no _ _ _ e c rfl) (fun t s2 z => ?_) fun _ _ z => z
   cases t with
   | yield _ => exact z.elim
   | done _ => exact z
 ·obtain ⟨rfl, rfl, c⟩ := q
  cases c
  exact fin rfl
end
section
open AutoSeq1
open MeetsSeq MeetsSeq2 MeetsSeq3 SeqRoads2 SeqAt
variable {l b : Addr} {xs ys : List Value}
theorem d1n : Meets (Builtin.«tuple.__lt__» ⟨[.ref l, .ref b], []⟩) (fun A R s => SeqObj "tuple" s.heap l xs /\ SeqObj "tuple" s.heap b ys /\ ∃ o, Cmp .Lt A.in1 s (xs.zip ys) o /\ R (.ok (.ret (.bool (o.getD (decide (xs.length < ys.length)))))) s) := by
 refine .of_wp fun P w A R ⟨h, gn, dr, k, os⟩ ⟨⟨n, dx, sl, e1⟩, ⟨m, dy, tl, e2⟩, o, c, q⟩ => ?_
 have sub := AutoSeq1.sub_tuple_tuple
 wp_walk using a8P e1, a8P e2
 refine c5a c (fun x y Q e z => ?_) (fun x y r e rc z => ?_) (fun z => ?_)
 ·refine a0C (e P w _ _ ?_)
  wp_walk
  exact z
 ·refine a0C (e P w _ _ ?_)
  generalize g : richCompare .Lt x y = ask
  wp_walk
  subst g
  refine rc P w _ _ ?_
  wp_walk
  subst z
  exact ⟨_, rfl, q⟩
 ·subst z
  wp_walk
  exact ⟨_, rfl, by simpa [Builtin.Tuple.tupleCompareSizes] using q⟩
end
def a9w : List Nat -> List Nat -> Option Bool
 | a :: xs, b :: ys => if a = b then a9w xs ys else some (decide (a < b))
 | _, _ => none
def ltl (xs ys : List Nat) : Bool := (a9w xs ys).getD (decide (xs.length < ys.length))
theorem a6d (xs : List Nat) : ltl xs xs = false := by
 have no : a9w xs xs = none := by
  induction xs with
  | nil => rfl
  | cons a xs ih => rw [a9w, if_pos rfl, ih]
 unfold ltl
 rw [no]
 simp
section
variable {A : Around} {s : Shared} {l b : Addr} {xs ys : List Value} {o : Option Bool}
theorem c5b {i j : Int} {t u : Tok} : d1m .Lt A s (.int i t) (.int j u) (decide (i < j)) := fun P w E Q q => show wpAny _ _ (compareOp .Lt _ _) _ _ _ from PyProof.Rows.lt_int q
theorem eqAt_int {i j : Int} {t u : Tok} : SeqAt.EqAt A s (.int i t) (.int j u) (decide (i = j)) := by
 have z := b6h (A := A) (s := s) (y := .int i) (x := .int j) (u := .int i t) (v := .int j u) ⟨t, rfl⟩ ⟨u, rfl⟩ rfl rfl
 have e : eqV (.int i) (.int j) = decide (i = j) := by
  show (i == j) = _
  by_cases h : i = j <;> simp [h]
 rwa [e] at z
theorem b6n {op : CmpOp} {F : Bool -> Bool} (rc : ∀ (i j : Nat) (t u : Tok), i ≠ j -> d1m op A s (.int (i : Int) t) (.int (j : Int) u) (F (decide (i < j)))) :
  ∀ {ns ms : List Nat} {xs ys : List Value}, Vals (ns.map nv) xs -> Vals (ms.map nv) ys -> Cmp op A s (xs.zip ys) ((a9w ns ms).map F)
 | [], ms, _, _, .nil, _ => by rw [List.zip_nil_left, show a9w [] ms = none by cases ms <;> rfl]; exact .nil
 | n :: ns, [], _, _, .cons _ _, .nil => by rw [List.zip_nil_right]; exact .nil
 | n :: ns, m :: ms, _, _, .cons ⟨t, e1⟩ r1, .cons ⟨u, e2⟩ r2 => by
  subst e1 e2
  have z := eqAt_int (A := A) (s := s) (i := (n : Int)) (j := (m : Int)) (t := t) (u := u)
  by_cases e : n = m
  ·rw [a0Y (by lia)] at z
   rw [a9w, if_pos e]
   exact .eq z (b6n rc r1 r2)
  ·rw [a1I (by lia)] at z
   rw [a9w, if_neg e]
   exact .ne z (rc n m t u e)
theorem d1o {ns ms : List Nat} (h1 : Vals (ns.map nv) xs) (h2 : Vals (ms.map nv) ys) : Cmp .Lt A s (xs.zip ys) (a9w ns ms) := by
 have z := b6n (A := A) (s := s) (op := .Lt) (F := fun b => b) (fun i j t u _ => by
  have e : decide ((i : Int) < (j : Int)) = decide (i < j) := by simp
  exact e ▸ c5b) h1 h2
 rwa [Option.map_id' ] at z
theorem b8l (h : s.heap.IsTuple l xs.toArray) : SeqObj "tuple" s.heap l xs := by
 obtain ⟨⟨c, dx, da, sl⟩, e, hc, n, hd⟩ := h
 cases hc
 cases hd
 exact ⟨n, dx, sl, e⟩
theorem SeqObj.ty {c : String} (h : SeqObj c s.heap l xs) : s.TypeIs (.ref l) c := let ⟨_, _, _, e⟩ := h; ⟨_, e, rfl⟩
theorem c5c (h1 : SeqObj "tuple" s.heap l xs) (h2 : SeqObj "tuple" s.heap b ys) (hu : A.units < cLine) (c : Cmp .Lt A.in1 s (xs.zip ys) o) : d1m .Lt A s (.ref l) (.ref b) (o.getD (decide (xs.length < ys.length))) := fun P w E Q q =>
 richCompare_meets_room (op := .Lt) h1.ty h2.ty F.slot_tuple_lt F.entry_tuple_lt (F.args_tuple_lt_2 _ _) d1n ⟨h1, h2, o, c, (fun z => nomatch z), q⟩ hu
end
section
variable {X : Cx}
def plt (i : Int) (ps : List Nat) (j : Int) (qs : List Nat) : Bool := if i = j then ltl ps qs else decide (i < j)
end
def a0u (m : Nat) : List Nat := (List.range 5).filter fun i => m.testBit i
def a7j (led : Bool) (xs : List Nat) : SetTable := { mask := if xs.length = 5 then 31 else 7, place := xs.toArray, dummies := #[], finger := 0, led, moves := if xs.length = 5 then 1 else 0, plain := true }
def a9c (xs : List Nat) (k : Nat) : Nat := (xs.filter (· < k)).length
def b8m (led : Bool) (m k : Nat) : SetTable := { a7j led (a0u m) with place := (a0u (m ||| 2 ^ k)).toArray }
theorem a5b : ∀ (led : Bool) (m : Fin 32), (a7j led (a0u m)).fits (a0u m).length = true := by decide +kernel
theorem c1c : ∀ (led : Bool) (m : Fin 32) (k : Fin 5), (m : Nat).testBit k = false -> (a7j led (a0u m)).freeSlot ((k : Nat) : Int) = some ((k : Nat), false) := by decide +kernel
theorem c5d : ∀ (led : Bool) (m : Fin 32) (k : Fin 5), (m : Nat).testBit k = false -> (a7j led (a0u m)).put k = (b8m led m k, a9c (a0u m) k) /\ (b8m led m k).fits ((a0u m).length + 1) = true := by decide +kernel
theorem c5e : ∀ (m : Fin 32) (k : Fin 5), (m : Nat).testBit k = false -> a0u (m ||| 2 ^ (k : Nat)) = (a0u m).take (a9c (a0u m) k) ++ (k : Nat) :: (a0u m).drop (a9c (a0u m) k) := by decide +kernel
theorem c5f : ∀ (m : Fin 32) (k : Fin 5), (k : Nat) ∈ a0u m -> (m ||| 2 ^ (k : Nat) : Nat) = m := by decide +kernel
theorem c5g : ∀ (m : Fin 32) (k : Fin 5), (k : Nat) ∉ a0u m -> (m : Nat).testBit k = false := by decide +kernel
theorem c1d : ∀ (m : Fin 32) (k : Fin 5), (m ||| 2 ^ (k : Nat) : Nat) < 32 := by decide +kernel
theorem a6s : ∀ m : Fin 32, (a0u m).length <= 5 := by decide +kernel
theorem b8n : ∀ (led : Bool) (m : Fin 32) (k : Fin 5), (m : Nat).testBit k = false -> (a0u m).length ≠ 4 -> b8m led m k = a7j led (a0u (m ||| 2 ^ (k : Nat))) /\ (b8m led m k).tooFull = false := by decide +kernel
theorem c5h : ∀ (led : Bool) (m : Fin 32) (k : Fin 5), (m : Nat).testBit k = false -> (a0u m).length = 4 -> (b8m led m k).tooFull = true /\
  (b8m led m k).relaid #[0, 1, 2, 3, 4] (SetTable.grown 5) = some (a7j led (a0u (m ||| 2 ^ (k : Nat))), #[0, 1, 2, 3, 4]) /\ a0u (m ||| 2 ^ (k : Nat)) = [0, 1, 2, 3, 4] /\ (a7j led (a0u (m ||| 2 ^ (k : Nat)))).fits 5 = true := by decide +kernel
theorem c5i : ∀ k : Fin 5, hashInt ((k : Nat) : Int) = ((k : Nat) : Int) := by decide +kernel
def Ents : List Nat -> List (Int × Value) -> Prop := Paired fun n e => e.1 = (n : Int) /\ ∃ t, e.2 = .int (n : Int) t
def a4v (es : List (Int × Value)) (ep : Nat) (t : SetTable) : Obj := { cls := .type "set", data := .set es.toArray ep t }
def IsSet5 (h : Heap) (a : Addr) (led : Bool) (m : Nat) : Prop := m < 32 /\ ∃ es ep, h.get? a = some (a4v es ep (a7j led (a0u m))) /\ Ents (a0u m) es
theorem Ents.take : ∀ {ns : List Nat} {es : List (Int × Value)} (p : Nat), Ents ns es -> Ents (ns.take p) (es.take p)
 | _, _, 0, _ => .nil
 | _, _, _ + 1, .nil => .nil
 | _, _, p + 1, .cons r t => .cons r (Ents.take p t)
theorem Ents.drop : ∀ {ns : List Nat} {es : List (Int × Value)} (p : Nat), Ents ns es -> Ents (ns.drop p) (es.drop p)
 | _, _, 0, r => r
 | _, _, _ + 1, .nil => .nil
 | _, _, p + 1, .cons _ t => Ents.drop p t
theorem Ents.app : ∀ {ns ms : List Nat} {es fs : List (Int × Value)}, Ents ns es -> Ents ms fs -> Ents (ns ++ ms) (es ++ fs)
 | _, _, _, _, .nil, r => r
 | _, _, _, _, .cons q t, r => .cons q (Ents.app t r)
theorem Ents.len {ns : List Nat} {es : List (Int × Value)} (h : Ents ns es) : es.length = ns.length := (a4T h).symm
theorem Ents.keys : ∀ {ns : List Nat} {es : List (Int × Value)}, Ents ns es -> es.map (·.1) = ns.map fun (n : Nat) => (n : Int)
 | _, _, .nil => rfl
 | _, _, .cons q t => by rw [a2M, a2M, q.1, Ents.keys t]
theorem Ents.mem : ∀ {ns : List Nat} {es : List (Int × Value)} {e : Int × Value}, Ents ns es -> e ∈ es -> ∃ n ∈ ns, e.1 = (n : Int) /\ ∃ t, e.2 = .int (n : Int) t
 | _, _, _, .cons q t, h => by
  rcases a1H.mp h with z | z
  ·subst z
   exact ⟨_, a0S, q⟩
  ·obtain ⟨n, h1, h2⟩ := Ents.mem t z
   exact ⟨n, a0V _ h1, h2⟩
theorem Ents.has : ∀ {ns : List Nat} {es : List (Int × Value)} {n : Nat}, Ents ns es -> n ∈ ns -> ∃ e ∈ es, ∃ t, e.2 = .int (n : Int) t
 | _, _, _, .cons q t, h => by
  rcases a1H.mp h with z | z
  ·subst z
   exact ⟨_, a0S, q.2⟩
  ·obtain ⟨e, h1, h2⟩ := Ents.has t z
   exact ⟨e, a0V _ h1, h2⟩
theorem Ents.elems {P : Program} {w : World} {m : Fin 32} {es : List (Int × Value)} (h : Ents (a0u m) es) : ElemsOf (intKind P w) es := fun e he => by
 obtain ⟨n, hn, e1, t, e2⟩ := h.mem he
 have hn5 : n < 5 := a2G.mp (a1F.mp hn).1
 exact ⟨⟨(n : Int), by rw [e2]; exact a9L _ _ _ _, by rw [e1]; exact (c5i ⟨n, hn5⟩).symm⟩, by rw [e2]; rfl⟩
theorem c5j {α : Type} (xs : List α) (p : Nat) (x : α) : (SetTable.insertAt xs.toArray p x) = (xs.take p ++ x :: xs.drop p).toArray := by
 unfold SetTable.insertAt
 apply Array.ext'
 simp
 exact a5X (by simp)
section
variable {P : Program} {w : World} {A : Around} {E : Value -> Shared -> Prop} {s : Shared} {a : Addr} {led : Bool} {m k : Nat} {t : Tok}
theorem c1e {h : Heap} {es fs : List (Int × Value)} {ep : Nat} {t u : SetTable} (e : h.get? a = some (a4v es ep t)) : (h.update a (Obj.putSet fs.toArray u)).get? a = some (a4v fs (ep + 1) u) := a4J _ e rfl
theorem c1f {α : Type} {fs : List α} {n : Nat} (h : fs.length = n + 1) : ∃ a r, fs = a :: r /\ r.length = n := by
 cases fs with
 | nil => cases h
 | cons a r => exact ⟨a, r, rfl, Nat.succ.inj h⟩
theorem pick5 {α : Type} {fs : List α} (h : fs.length = 5) : (#[0, 1, 2, 3, 4] : Array Nat).filterMap (fs.toArray[·]?) = fs.toArray := by
 obtain ⟨_, _, rfl, h1⟩ := c1f h
 obtain ⟨_, _, rfl, h2⟩ := c1f h1
 obtain ⟨_, _, rfl, h3⟩ := c1f h2
 obtain ⟨_, _, rfl, h4⟩ := c1f h3
 obtain ⟨_, _, rfl, h5⟩ := c1f h4
 cases a2V.mp h5
 rfl
theorem b6o {Q : Shared -> Prop} (hk : k < 5) (hS : IsSet5 s.heap a led m) (q : ∀ h', IsSet5 h' a led (m ||| 2 ^ k) -> Heap.SameBut a s.heap h' -> Q { s with heap := h' }) :
  wpAny (model P w) A (setAddHashed a (.int (k : Int) t) (k : Int)) (fun _ s' => Q s') E s := by
 obtain ⟨hm, es, ep, e, en⟩ := hS
 have ln := en.len
 have fit := a5b led ⟨m, hm⟩
 have el : ElemsOf (intKind P w) es.toArray.toList := Ents.elems (m := ⟨m, hm⟩) en
 have m5 : (a0u m).length <= 5 := a6s ⟨m, hm⟩
 have fit' : (a7j led (a0u m)).fits es.toArray.size = true := by rw [a0U, ln]; exact fit
 have sc : byScan (.int (k : Int) t) es.toArray = true := by
  unfold byScan
  have e3 : es.toArray.all (·.2.scannable) = true := by
   rw [Array.all_eq_true_iff_forall_mem]
   exact fun x hx => (el x (by simpa using hx)).2
  rw [e3]
  have e4 : decide (es.toArray.size < scanBound) = true := a0Y (by rw [a0U, ln]; unfold scanBound; lia)
  rw [e4]
  rfl
 have hh : (intKind P w).hash (k : Int) = (k : Int) := c5i ⟨k, hk⟩
 unfold setAddHashed setAddHashedIn
 refine a1Y (a0C (a4V e rfl fit' ?_))
 dsimp only
 rw [sc, if_pos rfl]
 unfold setAddByScan
 refine a0C (a0C (a6K (a0C ?_)))
 have scan : ∀ {R : ScanMet -> Shared -> Prop}, R (match es.toArray.toList.findIdx? (fun e => (intKind P w).is (k : Int) e.2) with | some j => .found (0 + j) | none => .absent) s -> wpAny (model P w) A (setScan a (.int (k : Int) t) (k : Int) true es.toArray) R E s := fun z => by
  have y := wpAny_setScan_of (prog := P) (w := w) (A := A) (E := E) (knd := intKind P w) (k := (k : Int)) (x := .int (k : Int) t) (adding := true) (a9L _ _ _ _) e rfl fit' el z
  rw [hh] at y
  exact y
 refine scan ?_
 rw [a7A]
 by_cases hin : k ∈ a0u m
 ·obtain ⟨x, hx, tx, ex⟩ := en.has hin
  cases hf : es.findIdx? fun e => (intKind P w).is (k : Int) e.2 with
  | none =>
   have z := List.findIdx?_eq_none_iff.mp hf x hx
   rw [ex, a9L] at z
   cases z
  | some j =>
   refine a0G (a0G ?_)
   have z := q s.heap (by rw [c5f ⟨m, hm⟩ ⟨k, hk⟩ hin]; exact ⟨hm, es, ep, e, en⟩) (Heap.SameBut.refl a s.heap)
   cases s
   exact z
 ·have nb := c5g ⟨m, hm⟩ ⟨k, hk⟩ hin
  cases hf : es.findIdx? fun e => (intKind P w).is (k : Int) e.2 with
  | some j =>
   obtain ⟨hj, hpj, _⟩ := List.findIdx?_eq_some_iff_getElem.mp hf
   obtain ⟨n, hn, _, tn, e2⟩ := en.mem (a2Y hj)
   rw [e2] at hpj
   have z : (k : Int) = (n : Int) := (intKind P w).inj _ _ _ hpj (a9L _ _ _ tn)
   have z' : k = n := by lia
   exact absurd (z' ▸ hn) hin
  | none =>
   obtain ⟨pu, pf⟩ := c5d led ⟨m, hm⟩ ⟨k, hk⟩ nb
   have sa := c5e ⟨m, hm⟩ ⟨k, hk⟩ nb
   have lt32 := c1d ⟨m, hm⟩ ⟨k, hk⟩
   dsimp only at pu pf sa lt32
   have en' : Ents (a0u (m ||| 2 ^ k)) (es.take (a9c (a0u m) k) ++ ((k : Int), Value.int (k : Int) t) :: es.drop (a9c (a0u m) k)) := by
    rw [sa]
    exact (en.take _).app (.cons ⟨rfl, t, rfl⟩ (en.drop _))
   have lay : layNew (a7j led (a0u m)) es.toArray (k : Int) (.int (k : Int) t) = ((es.take (a9c (a0u m) k) ++ ((k : Int), Value.int (k : Int) t) :: es.drop (a9c (a0u m) k)).toArray, b8m led m k, false, false) := by
    unfold layNew
    rw [c1c led ⟨m, hm⟩ ⟨k, hk⟩ nb]
    dsimp only
    rw [pu]
    dsimp only
    rw [c5j]
    have sz : (es.take (a9c (a0u m) k) ++ ((k : Int), Value.int (k : Int) t) :: es.drop (a9c (a0u m) k)).toArray.size = (a0u m).length + 1 := by
     rw [a0U, a0Z, a4O, a1U, a6Y, ln]
     lia
    rw [sz]
    unfold SetTable.orStandIn
    rw [pf]
    rfl
   generalize es.take (a9c (a0u m) k) ++ ((k : Int), Value.int (k : Int) t) :: es.drop (a9c (a0u m) k) = fs at en' lay
   have lf := en'.len
   have f5 : fs.length <= 5 := by rw [lf]; exact a6s ⟨_, lt32⟩
   dsimp only
   rw [lay]
   dsimp only
   refine a0C (show wpAny _ _ (pure ()) _ _ _ from a0G ?_)
   refine a0C (show wpAny _ _ (pure true) _ _ _ from a0G ?_)
   refine a0C (wpAny_storeSet_of e rfl ?_ (by rw [a0U, a1B]; lia))
   have e1 := c1e (h := s.heap) (fs := fs) (u := b8m led m k) e
   have same1 : Heap.SameBut a s.heap (s.heap.update a (Obj.putSet fs.toArray (b8m led m k))) := Heap.SameBut.update ..
   by_cases h4 : (a0u m).length = 4
   ·obtain ⟨tf, rl, s5, ff⟩ := c5h led ⟨m, hm⟩ ⟨k, hk⟩ nb h4
    dsimp only at tf rl s5 ff
    have l5 : fs.length = 5 := by rw [lf, s5]; rfl
    have ks : fs.toArray.map (·.1) = #[0, 1, 2, 3, 4] := by
     rw [List.map_toArray, en'.keys, s5]
     rfl
    have pick : (#[0, 1, 2, 3, 4] : Array Nat).filterMap (fs.toArray[·]?) = fs.toArray := pick5 l5
    have rel : relayAll (b8m led m k) fs.toArray (SetTable.grown fs.toArray.size) = (fs.toArray, a7j led (a0u (m ||| 2 ^ k)), false) := by
     unfold relayAll
     rw [ks, a0U, l5, rl]
     dsimp only
     rw [pick, a0U, l5, ff, Bool.and_true, if_pos (by decide +kernel)]
    show wpAny _ _ (if (!false && (b8m led m k).tooFull) = true then _ else _) _ _ _
    rw [tf, if_pos (by decide)]
    simp only [if_true]
    rw [rel]
    dsimp only
    refine a0C (show wpAny _ _ (pure ()) _ _ _ from a0G ?_)
    refine a0C (wpAny_storeSet_of e1 rfl ?_ (by rw [a0U, a1B]; lia))
    have e2 := c1e (fs := fs) (u := a7j led (a0u (m ||| 2 ^ k))) e1
    have same2 := Heap.SameBut.trans same1 (Heap.SameBut.update (s.heap.update a (Obj.putSet fs.toArray (b8m led m k))) a (Obj.putSet fs.toArray (a7j led (a0u (m ||| 2 ^ k)))))
    exact a0G (a0G (q _ ⟨lt32, fs, ep + 1 + 1, e2, en'⟩ same2))
   ·obtain ⟨te, tf⟩ := b8n led ⟨m, hm⟩ ⟨k, hk⟩ nb h4
    dsimp only at te tf
    show wpAny _ _ (if (!false && (b8m led m k).tooFull) = true then _ else _) _ _ _
    rw [tf, if_neg (by decide)]
    refine a0G (a0G (q _ ⟨lt32, fs, ep + 1, ?_, en'⟩ same1))
    rw [<- te]
    exact e1
end
def a4y (m : Nat) (ns : List Nat) : Nat := ns.foldl (fun m n => m ||| 2 ^ n) m
section
variable {P : Program} {w : World} {A : Around} {E : Value -> Shared -> Prop} {S it l : Addr} {led : Bool} {ns : List Nat} {vs : List Value}
theorem b2y {R : Result -> Shared -> Prop} (hh : A.handled = none) (d1 : S ≠ it) (d2 : S ≠ l) (d3 : it ≠ l) (hv : Vals (ns.map nv) vs) (h5 : ∀ n ∈ ns, n < 5) :
  ∀ (rest : List Nat) (i m : Nat) (s : Shared), ns.drop i = rest -> s.heap.IsListIter it l i -> s.heap.IsList l vs.toArray -> IsSet5 s.heap S led m ->
   (∀ h' tk, IsSet5 h' S led (a4y m rest) -> (∀ b o, b ≠ S -> b ≠ it -> s.heap.get? b = some o -> h'.get? b = some o) -> R (.ok (.ret .none)) { s with heap := h', toks := tk }) ->
   codeAny (model P w) A (.builtin "set.update.loop" ⟨[.ref S, .ref it], []⟩) R s
 | [], i, m, s, hd, hi, hl, hS, q => by
  have hlen : vs.length <= i := by
   have h1 : vs.length = ns.length := by simpa using hv.length.symm
   have h2 := List.drop_eq_nil_iff.mp hd
   lia
  refine a3J a5P ?_
  rw [a3P a3Y _]
  show wpAny _ A.in1 (pyNext (.ref it) >>= _) _ _ s
  refine a0C (wpAny_pyNext_list_end (by simpa using hh) hi hl (by simp; lia) fun h' keep => ?_)
  refine a0G (q h' s.toks ?_ fun b o _ h2 e => keep b o h2 e)
  obtain ⟨hm, es, ep, e, en⟩ := hS
  exact ⟨hm, es, ep, keep _ _ d1 e, en⟩
 | n :: rest, i, m, s, hd, hi, hl, hS, q => by
  have at1 : ns[i]? = some n := by rw [<- List.head?_drop, hd]; rfl
  have next : ns.drop (i + 1) = rest := by rw [<- List.tail_drop, hd]; rfl
  have n5 := h5 n (a0H at1)
  obtain ⟨u, hu, t, rfl⟩ := hv.get (i := i) (x := nv n) (by rw [a0E, at1]; rfl)
  refine a3J a5P ?_
  rw [a3P a3Y _]
  show wpAny _ A.in1 (pyNext (.ref it) >>= _) _ _ s
  refine a0C (wpAny_pyNext_list_item hi hl (x := .int (n : Int) t) (by simpa using hu) fun h1 hi1 sb1 => ?_)
  show wpAny _ A.in1 (holding [Value.int (n : Int) t] (setAdd S (.int (n : Int) t)) >>= _) _ _ _
  refine a0C (a1Y ?_)
  unfold setAdd
  refine a1Y (a0C ((intKind P w).pyHash (k := (n : Int)) (a9L _ _ _ _) ?_))
  rw [show (intKind P w).hash (n : Int) = (n : Int) from c5i ⟨n, n5⟩]
  have hS1 : IsSet5 h1 S led m := by
   obtain ⟨hm, es, ep, e, en⟩ := hS
   exact ⟨hm, es, ep, sb1.extBut _ _ d1 e, en⟩
  refine b6o n5 hS1 fun h2 hS2 sb2 => ?_
  refine a0G ⟨a6J a3Y _, b2y hh d1 d2 d3 hv h5 rest (i + 1) (m ||| 2 ^ n) _ next (hi1.extBut sb2.extBut d1.symm) ((hl.extBut sb1.extBut d3.symm).extBut sb2.extBut d2.symm) hS2 fun h' tk hS' keep => ?_⟩
  exact q h' tk hS' fun b o b1 b2 e => keep b o b1 b2 (sb2.extBut _ _ b1 (sb1.extBut _ _ b2 e))
theorem b6p {s : Shared} {x : Value} {Q : Value -> Shared -> Prop} (q : Q (.ref s.heap.objs.size) { s with heap := s.heap.push (a4v [] 0 (a7j (!w.params.followText "set-order") [])) }) :
  codeAny (model P w) A (.call (.builtin "set.__new__") ⟨[.type "set", x], []⟩) (wants Q E) s := by
 refine a9Z ?_
 show wpAny _ A.in1 (checkBuiltinCall "set.__new__" ⟨[.type "set", x], []⟩ >>= fun _ => again (.builtin "set.__new__" ⟨[.type "set", x], []⟩)) _ _ s
 refine a0C (b0J (F.newCall_set_1 x) (a0G ⟨a6J F.plain_set_new _, a3J F.entry_set_new ?_⟩))
 rw [a3P F.plain_set_new _]
 have sub := sub_set_self
 unfold Builtin.«set.__new__» Builtin.Frozenset.newClass
 wp_walk
 refine a6Z (a0G ?_)
 dsimp only
 simp only [newObj]
 refine a0C (wpAny_alloc (a0G (a0G ?_)))
 exact q
abbrev c4j (led : Bool) : Obj := { cls := .type "set", dict := none, data := .set #[] 0 (.fresh 0 0 led) }
set_option maxHeartbeats 4000000 in
theorem c1g {h : Heap} {gn : Array GenState} {dr : Drawn} {k : Nat} {os : OsState} {R : PySem.Fin -> Shared -> Prop} (hh : A.handled = none) (hl : h.IsList l vs.toArray) (hv : Vals (ns.map nv) vs) (h5 : ∀ n ∈ ns, n < 5)
  (q : ∀ h' tk, IsSet5 h' h.objs.size led (a4y 0 ns) -> (∀ b o, h.get? b = some o -> h'.get? b = some o) -> R (.done (.ret .none)) ⟨h', gn, dr, tk, os⟩) :
  wpAny (model P w) A (Builtin.«set.__init__» ⟨[.ref h.objs.size, .ref l], []⟩) R E ⟨h.push (c4j led), gn, dr, k, os⟩ := by
 obtain ⟨⟨cl, dl, dat, sl⟩, e2, c2, n2, d2⟩ := id hl
 simp only at c2 d2
 subst c2 d2
 have e3 : (h.push (c4j led)).get? l = some ⟨.type "list", dl, .seq vs.toArray n2, sl⟩ := a0I _ e2
 have e0 : (h.push (c4j led)).get? h.objs.size = some { cls := .type "set", dict := none, data := .set #[] 0 (.fresh 0 0 led) } := a0R _ rfl
 have s1 := F.sub_list_set
 have s2 := F.sub_list_frozenset
 have ne : (Value.type "list" == Value.type "dict") = false := by decide
 unfold Builtin.«set.__init__» noKeywords Builtin.Frozenset.updateFrom
 generalize g : pyIter = iter
 wp_walk
 subst g
 have hl1 : (h.push (c4j led)).IsList l vs.toArray := hl.push _
 refine a7N hl1 (a0C (wpAny_runValue ?_))
 have lt : l < h.objs.size := a0Q e2
 have sz : (h.push (c4j led)).objs.size = h.objs.size + 1 := a6S ..
 refine b2y (vs := vs) (led := led) (by simpa using hh) (by rw [sz]; exact Nat.ne_of_lt (Nat.lt_succ_self _)) (Nat.ne_of_gt lt) (by rw [sz]; exact Nat.ne_of_gt (Nat.lt_succ_of_lt lt)) hv h5 ns 0 0 _ rfl ⟨_, Heap.get?_push_size _ rfl, rfl, rfl⟩ (hl1.push _) ⟨by decide, [], 0, Heap.get?_push_of_some _ e0, .nil⟩ fun h' tk z1 z2 => ?_
 refine a0G (a0G (q h' tk z1 fun b o e => ?_))
 have bl := a0Q e
 exact z2 b o (a1J bl) (by rw [sz]; exact a1J (a7P bl)) (a0I _ (a0I _ e))
theorem c1h {s : Shared} {Q : Value -> Shared -> Prop} (hh : A.handled = none) (hl : s.heap.IsList l vs.toArray) (hv : Vals (ns.map nv) vs) (h5 : ∀ n ∈ ns, n < 5)
  (q : ∀ h' tk, IsSet5 h' s.heap.objs.size (!w.params.followText "set-order") (a4y 0 ns) -> (∀ b o, s.heap.get? b = some o -> h'.get? b = some o) -> Q (.ref s.heap.objs.size) { s with heap := h', toks := tk }) :
  wpAny (model P w) A (call (.type "set") [.ref l]) Q E s := by
 have lt : l < s.heap.objs.size := let ⟨_, e, _⟩ := hl; a0Q e
 obtain ⟨c, tl, mro⟩ := a3K.mro
 have made := a3K.made
 have sub := a3K.sub
 have noType := a3K.notType
 have may := a3K.canCreate
 have args := F.typeCall_set_1 (.ref l)
 have look := a3K.init.lookup
 have bnd := a3K.init.bind (.ref s.heap.objs.size)
 generalize eo : a4v [] 0 (a7j (!w.params.followText "set-order") []) = o0
 have e0 : (s.heap.push o0).get? s.heap.objs.size = some o0 := a0R _ (by rw [<- eo]; rfl)
 have ty : Shared.TypeIs { s with heap := s.heap.push o0 } (.ref s.heap.objs.size) "set" := ⟨_, e0, by rw [<- eo]; rfl⟩
 refine b0F (a9Z (show wpAny _ _ (callAny (.type "set") _) _ _ _ from a0G ⟨a9A _ (by decide +kernel), a3J F.entry_type_call ?_⟩))
 rw [Around.under_plain (weight_type_call_type "set" [.ref l] []) rfl]
 repeat (any_goals (first | assumption | wp_step))
 refine a5A (b6p (w := w) (E := E) (Q := fun v s1 => v = .ref s.heap.objs.size /\ s1 = { s with heap := s.heap.push o0 }) (by rw [eo]; exact ⟨rfl, rfl⟩)) fun r s1 z => ?_
 cases r with
 | error _ => exact z
 | ok f =>
  cases f <;> first | exact z.elim | skip
  obtain ⟨e1, e2⟩ := z
  subst e1 e2
  repeat (any_goals (first | assumption | wp_step))
  refine a5A (codeAny_call_builtin (R := wants (fun v s2 => v = .none /\ ∃ h' tk, s2 = { s with heap := h', toks := tk } /\ IsSet5 h' s.heap.objs.size (!w.params.followText "set-order") (a4y 0 ns) /\ ∀ b o, s.heap.get? b = some o -> h'.get? b = some o) E)
   a3K.init.plain F.entry_set_init (check_set_init_1 ty ?_)) fun r s2 z => ?_
  ·subst eo
   exact c1g (A := A.in1.in1) (by simpa using hh) hl hv h5 fun h' tk z1 z2 => ⟨rfl, h', tk, rfl, z1, z2⟩
  ·cases r with
   | error _ => exact z
   | ok f =>
    cases f <;> first | exact z.elim | skip
    obtain ⟨e1, h', tk, e2, z1, z2⟩ := z
    subst e1 e2
    repeat (any_goals (first | assumption | wp_step))
    exact q h' tk z1 z2
end
theorem si_next : Slot "set_iterator" "__next__" "set_iterator.__next__" := Slot.of (owner := "set_iterator") (n := "__next__") (by rw [typeLookup_type, builtinLookup_eq_fast]; kernel_rfl) (by decide +kernel) (by decide +kernel) (by decide +kernel) (by first | exact .inl (by decide +kernel) | exact .inr (by decide +kernel)) (by rw [isSubtype_type]; kernel_rfl)
theorem c1i : Slot "set_iterator" "__iter__" "set_iterator.__iter__" := Slot.of (owner := "set_iterator") (n := "__iter__") (by rw [typeLookup_type, builtinLookup_eq_fast]; kernel_rfl) (by decide +kernel) (by decide +kernel) (by decide +kernel) (by first | exact .inl (by decide +kernel) | exact .inr (by decide +kernel)) (by rw [isSubtype_type]; kernel_rfl)
theorem b0h : entryFor table "set_iterator.__next__" = some Builtin.«set_iterator.__next__» := entryFor_of_tree (by kernel_rfl)
theorem b8o : entryFor table "set_iterator.__iter__" = some Builtin.«dict_keyiterator.__iter__» := entryFor_alias (id' := "dict_keyiterator.__iter__") (by kernel_rfl) (by first | rfl | decide +kernel | (unfold String.splitOn; simp +decide [String.splitOnAux])) (by decide +kernel) (by kernel_rfl)
theorem c1j : entryFor table "set.__iter__" = some Builtin.«frozenset.__iter__» := entryFor_alias (id' := "frozenset.__iter__") (by kernel_rfl) (by first | rfl | decide +kernel | (unfold String.splitOn; simp +decide [String.splitOnAux])) (by decide +kernel) (by kernel_rfl)
theorem a7t (a : Value) : argsOk "set_iterator.__next__" ⟨[a], []⟩ := by unfold argsOk; kernel_rfl
theorem b2z (a : Value) : argsOk "set_iterator.__iter__" ⟨[a], []⟩ := by unfold argsOk; kernel_rfl
theorem c1k {α : Type} (f : Nat -> Nat) : ∀ (fuel k : Nat) (left : List α) (out : Array α), left.length = fuel -> (pickOrder.go f fuel k left out).toList.Perm (out.toList ++ left)
 | 0, k, left, out, h => by
  rw [List.eq_nil_of_length_eq_zero h]
  simp [pickOrder.go]
 | fuel + 1, k, left, out, h => by
  have lt : f k % left.length < left.length := Nat.mod_lt _ (by lia)
  unfold pickOrder.go
  rw [a0A lt]
  dsimp only
  refine (c1k f fuel (k + 1) (left.eraseIdx (f k % left.length)) (out.push left[f k % left.length]) (by rw [List.length_eraseIdx_of_lt lt]; lia)).trans ?_
  rw [a5L, a1K]
  refine a5D _ ?_
  rw [List.eraseIdx_eq_take_drop_succ]
  have e : left = left.take (f k % left.length) ++ left[f k % left.length] :: left.drop (f k % left.length + 1) := by
   rw [<- a5G lt, a2Q]
  have z := (List.perm_middle (a := left[f k % left.length]) (l₁ := left.take (f k % left.length)) (l₂ := left.drop (f k % left.length + 1))).symm
  rw [<- e] at z
  exact z
def a8a (w : World) (a : Addr) (ep : Nat) (es : List (Int × Value)) : List (Int × Value) := if w.params.followText "set-order" then (pickOrder (w.params.setOrder a ep) es.toArray).toList else es
theorem a7k (w : World) (a : Addr) (ep : Nat) (es : List (Int × Value)) : (a8a w a ep es).Perm es := by
 unfold a8a
 cases w.params.followText "set-order" with
 | true =>
  have z := c1k (w.params.setOrder a ep) es.toArray.size 0 es.toArray.toList #[] (by simp)
  simpa [pickOrder] using z
 | false => exact List.Perm.refl _
def a8b (byText : Bool) (xs : List Nat) : Nat -> Nat
 | 0 => 0
 | i + 1 => if byText then 0 else xs.getD i 0 + 1
theorem d1p : ∀ (m : Fin 32) (i : Fin 6), (i : Nat) <= (a0u m).length -> SetTable.below (a0u m).toArray (a8b false (a0u m) i) = i := by decide +kernel
def a6e (slot i n ep : Nat) (a : Addr) : Obj := { cls := .type "set_iterator", data := .fields #[rawInt slot, rawInt i, .ref a, rawInt n, rawInt ep] }
section
variable {P : Program} {w : World} {A : Around} {E : Value -> Shared -> Prop} {s : Shared} {a it : Addr} {m ep i : Nat} {es : List (Int × Value)}
theorem d1q {Q : Option (Value × Nat) -> Shared -> Prop} (hm : m < 32) (hS : s.heap.get? a = some (a4v es ep (a7j (!w.params.followText "set-order") (a0u m)))) (en : Ents (a0u m) es) (hi : i <= (a0u m).length)
  (q : Q (((a8a w a ep es)[i]?).map fun e => (e.2, a8b (w.params.followText "set-order") (a0u m) (i + 1))) s) : wpAny (model P w) A (setNext a (a8b (w.params.followText "set-order") (a0u m) i) i ep) Q E s := by
 have ln := en.len
 have fit : (a7j (!w.params.followText "set-order") (a0u m)).fits es.toArray.size = true := by rw [a0U, ln]; exact a5b _ ⟨m, hm⟩
 have m5 : (a0u m).length <= 5 := a6s ⟨m, hm⟩
 unfold setNext setsByText
 refine a0C (a4V hS rfl fit ?_)
 refine a0C (a0C (a6Z (a0G ?_)))
 show wpAny _ _ (if w.params.followText "set-order" = true then _ else _) _ _ _
 unfold a8a at q
 generalize hb : w.params.followText "set-order" = bt at q hS fit ⊢
 cases bt with
 | true =>
  rw [if_pos rfl]
  rw [if_pos rfl] at q
  rw [if_neg (by simp)]
  unfold setWalk setsByText
  refine a0C (a0C (a4V hS rfl fit (a0C (a0C (a6Z (a0G ?_))))))
  show wpAny _ _ (if w.params.followText "set-order" = true then _ else _) _ _ _
  rw [hb, if_pos rfl]
  refine a0C (a6Z (a0G (a0G ?_)))
  rw [a1W] at q
  cases i <;> exact q
 | false =>
  rw [if_neg (by decide)]
  rw [if_neg (by decide)] at q
  rw [if_neg (by show ¬ ((!true && _) = true); simp)]
  refine a0C ?_
  show wpAny _ _ (if (!true && !es.toArray.isEmpty) = true then _ else _) _ _ _
  rw [if_neg (by simp)]
  refine a0G (a0G ?_)
  show Q (match es.toArray[SetTable.below (a0u m).toArray (a8b false (a0u m) i)]?, (a0u m).toArray[SetTable.below (a0u m).toArray (a8b false (a0u m) i)]? with | some (_, x), some j => some (x, j + 1) | _, _ => none) s
  rw [d1p ⟨m, hm⟩ ⟨i, by lia⟩ hi]
  rcases Nat.lt_or_ge i (a0u m).length with z | z
  ·have z' : i < es.length := by lia
   rw [a0A z'] at q
   simp only [List.getElem?_toArray, List.getElem?_eq_getElem z', List.getElem?_eq_getElem z]
   have e : a8b false (a0u m) (i + 1) = (a0u m)[i] + 1 := by
    show (if false = true then 0 else (a0u m).getD i 0 + 1) = _
    rw [if_neg (by decide), a0J, a0A z]
    rfl
   rw [e] at q
   exact q
  ·have z' : es.length <= i := by lia
   rw [a1Q z'] at q
   simp only [List.getElem?_toArray, List.getElem?_eq_none z']
   exact q
end
section
variable {P : Program} {w : World} {A : Around} {E : Value -> Shared -> Prop} {a it : Addr} {m ep : Nat} {es : List (Int × Value)}
theorem b8p {s : Shared} {i : Nat} {e : Int × Value} {Q : Option Value -> Shared -> Prop} (hne : a ≠ it) (hm : m < 32) (en : Ents (a0u m) es) (hI : s.heap.get? it = some (a6e (a8b (w.params.followText "set-order") (a0u m) i) i (a0u m).length ep a)) (hS : s.heap.get? a = some (a4v es ep (a7j (!w.params.followText "set-order") (a0u m))))
  (hi : i < (a0u m).length) (he : (a8a w a ep es)[i]? = some e)
  (q : ∀ h', h'.get? it = some (a6e (a8b (w.params.followText "set-order") (a0u m) (i + 1)) (i + 1) (a0u m).length ep a) -> Heap.SameBut it s.heap h' -> Q (some e.2) { s with heap := h' }) : wpAny (model P w) A (pyNext (.ref it)) Q E s := by
 have ty : s.TypeIs (.ref it) "set_iterator" := ⟨_, hI, rfl⟩
 have ln := en.len
 have fit : (a7j (!w.params.followText "set-order") (a0u m)).fits es.toArray.size = true := by rw [a0U, ln]; exact a5b _ ⟨m, hm⟩
 unfold pyNext
 refine a0C (a5Q (a3O (name := Str.ofString "__next__") ty si_next (a1Z si_next ty b0h ?_ (a7t _))))
 unfold a6e at hI
 unfold Builtin.«set_iterator.__next__»
 refine a0C (m := slotArgs _ _ _) (a0G ?_)
 refine a0C (a6T hI rfl ?_)
 show wpAny _ _ (setEntries a >>= _) _ _ _
 unfold setEntries
 refine a0C (a0C (a4V hS rfl fit (a0G ?_)))
 have zs : ((((es.toArray.size : Nat) : Int) != (((a0u m).length : Nat) : Int))) = false := by rw [a0U, ln]; simp
 show wpAny _ _ (if ((((es.toArray.size : Nat) : Int) != (((a0u m).length : Nat) : Int))) = true then _ else _) _ _ _
 rw [zs, if_neg (by decide)]
 show wpAny _ _ (setNext a ((a8b (w.params.followText "set-order") (a0u m) i : Nat) : Int).toNat ((i : Nat) : Int).toNat ((ep : Nat) : Int).toNat >>= _) _ _ _
 simp only [Int.toNat_natCast]
 refine a0C (d1q hm hS en (a3G hi) ?_)
 rw [he]
 show wpAny _ _ (setField (.ref it) 0 (rawInt _) >>= _) _ _ _
 refine a0C (a3C hI (by simp) fun h1 e1 sb1 => ?_)
 refine a0C (a3C e1 (by simp) fun h2 e2 sb2 => ?_)
 exact a0G ⟨_, rfl, a0G (q h2 e2 (sb1.trans sb2))⟩
theorem c1l {s : Shared} {Q : Option Value -> Shared -> Prop} (hh : A.handled = none) (hne : a ≠ it) (hm : m < 32) (en : Ents (a0u m) es) (hI : s.heap.get? it = some (a6e (a8b (w.params.followText "set-order") (a0u m) (a0u m).length) (a0u m).length (a0u m).length ep a)) (hS : s.heap.get? a = some (a4v es ep (a7j (!w.params.followText "set-order") (a0u m))))
  (q : ∀ h', Heap.ExtBut it s.heap h' -> Q none { s with heap := h' }) : wpAny (model P w) A (pyNext (.ref it)) Q E s := by
 have ty : s.TypeIs (.ref it) "set_iterator" := ⟨_, hI, rfl⟩
 have ln := en.len
 have fit : (a7j (!w.params.followText "set-order") (a0u m)).fits es.toArray.size = true := by rw [a0U, ln]; exact a5b _ ⟨m, hm⟩
 have he : (a8a w a ep es)[(a0u m).length]? = none := a1Q (by rw [(a7k w a ep es).length_eq]; lia)
 unfold pyNext
 refine a0C (a5Q (a3O (name := Str.ofString "__next__") ty si_next (a1Z si_next ty b0h ?_ (a7t _))))
 unfold a6e at hI
 unfold Builtin.«set_iterator.__next__»
 refine a0C (m := slotArgs _ _ _) (a0G ?_)
 refine a0C (a6T hI rfl ?_)
 show wpAny _ _ (setEntries a >>= _) _ _ _
 unfold setEntries
 refine a0C (a0C (a4V hS rfl fit (a0G ?_)))
 have zs : ((((es.toArray.size : Nat) : Int) != (((a0u m).length : Nat) : Int))) = false := by rw [a0U, ln]; simp
 show wpAny _ _ (if ((((es.toArray.size : Nat) : Int) != (((a0u m).length : Nat) : Int))) = true then _ else _) _ _ _
 rw [zs, if_neg (by decide)]
 show wpAny _ _ (setNext a ((a8b (w.params.followText "set-order") (a0u m) (a0u m).length : Nat) : Int).toNat (((a0u m).length : Nat) : Int).toNat ((ep : Nat) : Int).toNat >>= _) _ _ _
 simp only [Int.toNat_natCast]
 refine a0C (d1q hm hS en (a0N _) ?_)
 rw [he]
 show wpAny _ _ (setField (.ref it) 2 .none >>= _) _ _ _
 refine a0C (a3C hI (by simp) fun h1 e1 sb1 => ?_)
 refine a0C (m := newExc _ _) ?_
 simp only [newExc, newTuple]
 refine a0C (a3S ?_ (by size_fits))
 refine a0C (m := firstArgMember _ _) (b0J (a := Value.none) (by first | rfl | (unfold firstArgMember; rfl)) (wpAny_newObj_type ?_ (by size_fits)))
 refine a8R (by simpa using hh) (wpAny_bind (wpAny_isInstance (T := "StopIteration") (b := true) ⟨_, Heap.get?_push_size _ rfl, rfl⟩ isSubtype_stop (wpAny_pure ?_)))
 exact q _ fun b o nb e => a0I _ (a0I _ (sb1.extBut b o nb e))
theorem d1r (hh : A.handled = none) (hne : a ≠ it) (hm : m < 32) (en : Ents (a0u m) es) : Walks P w A it [it, a] [it] (a0u m).length (fun i v => ∃ e, (a8a w a ep es)[i]? = some e /\ v = e.2)
  (fun i h => h.get? it = some (a6e (a8b (w.params.followText "set-order") (a0u m) i) i (a0u m).length ep a) /\ h.get? a = some (a4v es ep (a7j (!w.params.followText "set-order") (a0u m)))) where
 sub := fun b hb => a1H.mpr (.inl (a0F.mp hb))
 frame := fun i h h' st k => ⟨k it (a0S ..) _ st.1, k a (a0V _ (a0F.mpr rfl)) _ st.2⟩
 item := fun i s Q E hi st q => by
  have l1 : (a8a w a ep es).length = (a0u m).length := by rw [(a7k w a ep es).length_eq, en.len]
  obtain ⟨e, he⟩ : ∃ e, (a8a w a ep es)[i]? = some e := ⟨_, a0A (by lia)⟩
  refine b8p hne hm en st.1 st.2 hi he fun h' e1 sb => q e.2 h' s.toks ⟨e, he, rfl⟩ ⟨e1, sb.extBut _ _ hne st.2⟩ fun b o nb e => sb.extBut _ _ (fun z => nb (a0F.mpr z)) e
 done := fun s Q E st q => c1l hh hne hm en st.1 st.2 fun h' x => q h' s.toks fun b o nb e => x b o (fun z => nb (a0F.mpr z)) e
 self := fun i s Q E st q => by
  have ty : s.TypeIs (.ref it) "set_iterator" := ⟨_, st.1, rfl⟩
  refine a5M ty c1i (a1Z c1i ty b8o ?_ (b2z _))
  exact show wpAny _ _ (ret (.ref it)) _ _ s from a0G ⟨_, rfl, "set_iterator", _, ty, si_next.lookup, q⟩
theorem iterS {s : Shared} {Q : Value -> Shared -> Prop} (hm : m < 32) (en : Ents (a0u m) es) (hS : s.heap.get? a = some (a4v es ep (a7j (!w.params.followText "set-order") (a0u m))))
  (q : Q (.ref s.heap.objs.size) { s with heap := s.heap.push (a6e 0 0 (a0u m).length ep a) }) : wpAny (model P w) A (pyIter (.ref a)) Q E s := by
 have ty : s.TypeIs (.ref a) "set" := ⟨_, hS, rfl⟩
 have ln := en.len
 have fit : (a7j (!w.params.followText "set-order") (a0u m)).fits es.toArray.size = true := by rw [a0U, ln]; exact a5b _ ⟨m, hm⟩
 refine a5M ty F.slot_set_iter (a1Z F.slot_set_iter ty c1j ?_ (F.args_set_iter_1 _))
 unfold Builtin.«frozenset.__iter__»
 refine a0C (m := Builtin.Frozenset.slot0 _ _) (a0G ?_)
 unfold Builtin.Frozenset.sizeOf setEntries
 refine a0C (a0C (a0C (a4V hS rfl fit (a0G (a0G ?_)))))
 unfold setDrawn setsByText
 refine a0C (a0C (a4V hS rfl fit (a0C (a0C (a6Z (a0G (a0G ?_)))))))
 have nd : (!w.params.followText "set-order" && (!true && decide (es.toArray.size > 1))) = false := by simp
 show wpAny _ _ (if (!w.params.followText "set-order" && (!true && decide (es.toArray.size > 1))) = true then _ else _) _ _ _
 rw [nd, if_neg (by decide)]
 refine a0C (a0G (a0C (wpAny_setEpoch_of hS rfl fit ?_)))
 refine a0C (m := newFields _ _) ?_
 unfold newFields
 refine a3S ?_ (by size_fits)
 rw [<- ln] at q
 exact a0G ⟨_, rfl, "set_iterator", _, ⟨_, a0R _ rfl, rfl⟩, si_next.lookup, q⟩
theorem hintS {s : Shared} {Q : Bool -> Shared -> Prop} (ty : s.TypeIs (.ref a) "set") (q : Q false s) : wpAny (model P w) A (Builtin.List.listLengthHint (.ref a)) Q E s := by
 unfold Builtin.List.listLengthHint
 refine a0C (a9X ty F.slot_set_len.lookup ?_)
 generalize g : ("set.__len__" : String) = name
 wp_delta
 rw [show splitId name = some ("set", "__len__") by subst g; decide +kernel]
 subst g
 refine a0C (wpAny_isInstance (T := "set") (b := true) ty (by rw [isSubtype_type]; kernel_rfl) (b0A (fun z => absurd z (by decide)) fun _ => ?_))
 exact b0A (fun _ => a0C (a9Y ty (a0G q))) fun z => absurd (by decide +kernel) z
theorem srcS (hm : m < 32) (en : Ents (a0u m) es) : PySem.W.KdlSrc P w "set" a a (a0u m).length (fun i v => ∃ e, (a8a w a ep es)[i]? = some e /\ v = e.2) (fun h => h.get? a = some (a4v es ep (a7j (!w.params.followText "set-order") (a0u m)))) where
 type := fun _ e => ⟨_, e, rfl⟩
 there := fun _ e => ⟨a0Q e, a0Q e⟩
 keep := fun _ _ e k => k a (.inl rfl) _ e
 notList := by decide
 notTuple := by decide
 hint := fun _ _ _ _ e q => hintS ⟨_, e, rfl⟩ q
 iter := fun _ _ hh e => ⟨_, _, fun _ _ q => iterS hm en e q, d1r hh (a1J (a0Q e)) hm en, a0R _ rfl, a0I _ e⟩
end
def a1o (ns : List Nat) : List Nat := (List.range 5).filter fun i => ns.contains i
theorem b3a (i : Nat) : ∀ (ns : List Nat) (m : Nat), (a4y m ns).testBit i = (m.testBit i || ns.contains i)
 | [], m => by simp [a4y]
 | n :: ns, m => by
  show (a4y (m ||| 2 ^ n) ns).testBit i = _
  rw [b3a i ns, Nat.testBit_or, Nat.testBit_two_pow, List.contains_cons, Bool.or_assoc]
  congr 2
  by_cases h : n = i
  ·simp [h]
  ·simp [h, Ne.symm h]
theorem a9d (ns : List Nat) : a0u (a4y 0 ns) = a1o ns := by
 unfold a0u a1o
 congr 1
 funext i
 rw [b3a]
 simp
theorem c8v (m : Nat) : (a0u m).Pairwise (· <= ·) := by
 unfold a0u
 exact List.Pairwise.filter _ (by decide)
theorem c5k : ∀ {vs : List Value} {is : List Int}, IntsAre vs is -> Vals (is.map V.int) vs
 | _, _, .nil => .nil
 | _, _, .cons n t h => .cons ⟨t, rfl⟩ (c5k h)
theorem b3b : ∀ {ls : List (Int × Value)}, (∀ e ∈ ls, ∃ t, e.2 = .int e.1 t) -> IntsAre (ls.map (·.2)) (ls.map (·.1))
 | [], _ => .nil
 | e :: ls, h => by
  obtain ⟨t, et⟩ := h e (a0S ..)
  rw [a2M, a2M, et]
  exact .cons _ _ (b3b fun x hx => h x (a0V _ hx))
section
variable {P : Program} {w : World} {A : Around} {E : Value -> Shared -> Prop} {a : Addr} {m : Nat}
theorem c8w {s : Shared} {Q : Value -> Shared -> Prop} (hh : A.handled = none) (hS : IsSet5 s.heap a (!w.params.followText "set-order") m)
  (q : ∀ (h1 h' : Heap) tk out n, Vals ((a0u m).map nv) out -> (∀ b o, s.heap.get? b = some o -> h1.get? b = some o) -> (∀ b o, h1.get? b = some o -> h'.get? b = some o) -> h'.get? h1.objs.size = some { cls := .type "list", data := .seq out.toArray n } -> Q (.ref h1.objs.size) { s with heap := h', toks := tk }) :
  wpAny (model P w) A (call (.builtin "sorted") [.ref a]) Q E s := by
 obtain ⟨hm, es, ep, eS, en⟩ := hS
 have m5 : (a0u m).length <= 5 := a6s ⟨m, hm⟩
 have ln := en.len
 have perm := a7k w a ep es
 refine a2Z a8S a7V a7W (a9B _) ?_
 unfold Builtin.«sorted»
 refine a0C (m := checkCount "sorted" 1 1 _) (a0G ?_)
 refine a0C (PySem.W.kdu_collect (A := A.in1) (srcS hm en) (by simpa using hh) eS (by rw [sizeLine_eq]; lia) fun h1 tk acc keep its => ?_)
 have whole : acc.toList = (a8a w a ep es).map (·.2) := by
  refine a6r (by rw [a0L, its.1, a0D, perm.length_eq]; exact ln.symm) fun i x y hx hy => ?_
  obtain ⟨e, e1, e2⟩ := its.2 i x (by rw [<- a1W]; exact hx)
  rw [a0E, e1] at hy
  cases hy
  exact e2
 have are : IntsAre acc.toList ((a8a w a ep es).map (·.1)) := by
  rw [whole]
  refine b3b fun e he => ?_
  obtain ⟨n, _, e1, t, e2⟩ := en.mem (perm.mem_iff.mp he)
  exact ⟨t, by rw [e1, e2]⟩
 have al : acc.toList.length = (a0u m).length := by rw [whole, a0D, perm.length_eq, ln]
 refine a0C (a5E ?_ (by rw [al, a1B]; lia))
 have eD : (h1.push (seqObj "list" acc.toList.toArray 0)).get? h1.objs.size = some (seqObj "list" acc.toList.toArray 0) := a0R _ rfl
 refine a0C (a1Y (a1Z a6U ⟨_, eD, rfl⟩ a6E (list_sort_tree eD are (by lia) fun out js o1 o2 o3 => ⟨_, rfl, ?_⟩) (a7T _)))
 have js_is : js = (a0u m).map fun (n : Nat) => (n : Int) := by
  refine List.Perm.eq_of_pairwise (le := (· <= ·)) (fun x y _ _ => Int.le_antisymm) o3 ?_ (o2.trans ?_)
  ·exact a4F.mpr ((c8v m).imp fun h => by lia)
  ·rw [<- en.keys]
   exact perm.map _
 obtain ⟨n, eN⟩ := sortedHeap_at (out := out) eD
 refine a0G ⟨_, rfl, q h1 _ tk out.toList n ?_ keep (fun b o e => ?_) (by simpa using eN)⟩
 ·have z := c5k o1
  rw [js_is, a1T] at z
  exact z
 ·have lt := a0Q e
  rw [sortedHeap_old (a1J lt) (a1E lt (by rw [a6S]; exact a7B _))]
  exact a0I _ e
end
section
variable {X : Cx}
def c8x (w : World) (a : Addr) (m : Nat) : HO := .ext fun h => IsSet5 h a (!w.params.followText "set-order") m
theorem IsSet5.ok {w : World} {h : Heap} {a : Addr} {m : Nat} {P : Program} {w' : World} {H : Hp} (x : IsSet5 h a (!w.params.followText "set-order") m) : ObjOk P w' H h a (c8x w a m) := by
 obtain ⟨hm, es, ep, e, en⟩ := id x
 exact ⟨x, ⟨_, e⟩, fun h1 h2 ⟨y1, es', ep', y2, y3⟩ k => ⟨y1, es', ep', k _ y2, y3⟩⟩
theorem Inv.track {pins : List (Addr × Obj)} {σ : St} {H : Hp} {s : Shared} {D : Addr} {o : HO} (I : Inv X pins σ H s) (hD : H D = none) (ok : ObjOk X.prog X.w (upd H D o) s.heap D o)
  (h0 : X.s₀.heap.objs.size <= D) (h1 : D ≠ X.env.locals) (h2 : ∀ x c, X.env.cells.lookup x = some c -> c ≠ D) (h3 : ∀ p ∈ X.pn ++ pins, p.1 ≠ D) : Inv X pins σ (upd H D o) s := by
 have nd : ∀ b u, H b = some u -> b ≠ D := fun b u q z => by rw [z, hD] at q; cases q
 have q := I.step (h' := s.heap) (H' := upd H D o) (g' := s.gens) (t' := s.toks) (d' := s.drawn) (ch := [D]) (fun b hb => by
   have z : b = D := by simpa using hb
   subst z
   exact ⟨.inr h0, h1, h2, h3⟩)
  (fun b o _ _ _ e _ => e) (fun b o _ _ _ e _ => ⟨o.slots, e⟩) (fun b o hb _ n => by rw [a0d (fun z => hb (by simp [z]))]; exact n) (fun b o _ e => ⟨o, e⟩)
  (fun b xs q => by rw [a0d (nd b _ q)]; exact q) (fun b o u q => by rw [a0d (nd b _ q)]; exact q) (fun b ps q => ⟨#[], by rw [a0d (nd b _ q), q]; simp⟩) (fun m hm => hm) (fun b u q => ?_) I.bare
 ·exact q
 ·by_cases hb : b = D
  ·subst hb
   rw [a0a] at q
   cases q
   exact ok
  ·rw [a0d hb] at q
   exact (I.hok b u q).stay (fun _ _ _ z => z) (fun c z => by rw [a0d (nd c _ z)]; exact z) fun c xs z => by rw [a0d (nd c _ z)]; exact z
theorem Inv.trackNew {pins : List (Addr × Obj)} {σ : St} {H : Hp} {s s1 : Shared} {o : HO} (I : Inv X pins σ H s) (I1 : Inv X pins σ H s1) (ok : ObjOk X.prog X.w (upd H s.heap.objs.size o) s1.heap s.heap.objs.size o) : Inv X pins σ (upd H s.heap.objs.size o) s1 := by
 obtain ⟨f0, f1, f2, f3, f4, f5⟩ := I.fpOk (b := s.heap.objs.size) (H' := H) (a0N _) (I.hok.fresh (a0N _))
 exact I1.track f0 ok I.sz f1 f4 f5
def rSetN (K : W.Frag) (w : World) : List V -> Hp -> VK -> Prop := fun xs H Q => ∃ p ns, xs = [.ref p] /\ SqL K H p (ns.map nv) /\ (∀ n ∈ ns, n < 5) /\ ∀ a, H a = none -> Q (.ref a) (upd H a (c8x w a (a4y 0 ns)))
theorem c1m (hc : X.calm = true) : CallR X (.type "set") (rSetN X.K X.w) := by
 intro pins s σ H xs us Q I r h
 obtain ⟨p, ns, rfl, hl, h5, q⟩ := h
 obtain ⟨u, rfl, ru⟩ := a4f r
 cases ru
 obtain ⟨its, rv, pl, _⟩ := I.list hl
 refine c1h (I.ok.hd hc) pl.isList rv h5 fun h' tk z keep => ?_
 have I1 : Inv X pins σ H { s with heap := h', toks := tk } := I.kept keep
 exact ⟨.ref s.heap.objs.size, _, Inv.trackNew I I1 z.ok, rfl, q _ I.fresh⟩
def d1s (w : World) : List V -> Hp -> VK -> Prop := fun xs H Q => ∃ a m, xs = [.ref a] /\ H a = some (c8x w a m) /\ ∀ l, H l = none -> Q (.ref l) (upd H l (.lst ((a0u m).map nv)))
theorem b8q (hc : X.calm = true) : CallR X (.builtin "sorted") (d1s X.w) := by
 intro pins s σ H xs us Q I r h
 obtain ⟨a, m, rfl, ha, q⟩ := h
 obtain ⟨u, rfl, ru⟩ := a4f r
 cases ru
 obtain ⟨z, _, _⟩ := I.hok a _ ha
 refine c8w (I.ok.hd hc) z fun h1 h' tk out n vo k1 k2 e => ?_
 have I1 : Inv X pins σ H { s with heap := h1, toks := tk } := I.kept k1
 have I2 : Inv X pins σ H { s with heap := h', toks := tk } := I1.kept k2
 have m5 : (a0u m).length <= 5 := a6s ⟨m, z.1⟩
 have ok : ObjOk X.prog X.w (upd H h1.objs.size (.lst ((a0u m).map nv))) h' h1.objs.size (.lst ((a0u m).map nv)) := ⟨by rw [a0D, a1B]; lia, out, n, vo, e⟩
 exact ⟨.ref h1.objs.size, _, Inv.trackNew I1 I2 ok, rfl, q _ I1.fresh⟩
end
section
variable {X : Cx}
def rAny (K : W.Frag) : List V -> Hp -> VK -> Prop := fun xs H Q => ∃ (p : Addr) (bs : List Bool), xs = [.ref p] /\ SqL K H p (bs.map V.bl) /\ Q (.bl (bs.any id)) H
theorem b3c (hc : X.calm = true) : CallR X (.builtin "any") (rAny X.K) := by
 intro pins s σ H xs us Q I r h
 obtain ⟨p, bs, rfl, hp, q⟩ := h
 obtain ⟨u, rfl, ru⟩ := a4f r
 cases ru
 obtain ⟨its, rv, pl, _⟩ := I.list hp
 have hl := pl.isList
 have hlt : p < s.heap.objs.size := pl.lt
 have hlen : its.length = bs.length := by rw [<- rv.length, a0D]
 refine call_any_walk (a7N hl ⟨_, _, _, _, _, _, fun i => bs.getD i false, rfl, Walks.list (A := X.A.in1) (I.ok.hd hc) _ p (a1J hlt) its.toArray, ⟨⟨_, a0R _ rfl, rfl, rfl⟩, hl.push _⟩, ?_, fun h' tk hk => ?_⟩)
 ·intro i v s2 Q2 E2 hv hq
  have hv' : its[i]? = some v := by simpa using hv
  have hi : i < bs.length := by rw [<- hlen]; exact (a0B.mp hv').1
  obtain ⟨u2, e1, e2⟩ := rv.get (i := i) (x := .bl (bs.getD i false)) (by rw [a0E, a0A hi, a0J, a0A hi]; rfl)
  rw [hv'] at e1
  cases e1
  cases (show v = Value.bool _ from e2)
  exact a4D hq
 ·have e : (List.range its.toArray.size).any (fun i => bs.getD i false) = bs.any id := by
   rw [a0U, hlen]
   have : bs = (List.range bs.length).map fun i => bs.getD i false := by
    refine a9O (by simp) fun i h1 h2 => ?_
    simp [List.getD_eq_getElem?_getD, h1]
   conv => rhs; rw [this, b0B]
   rfl
  rw [e]
  exact ⟨.bl (bs.any id), H, I.kept fun b o z => hk b o (by simp only [List.mem_singleton]; exact Nat.ne_of_lt (Heap.lt_size z)) (Heap.get?_push_of_some _ z), rfl, q⟩
end
def drop (H : Hp) (c : Addr) : Hp := fun b => if b = c then none else H b
theorem a5c {H : Hp} {c : Addr} : drop H c c = none := by unfold drop; rw [if_pos rfl]
theorem a0x {H : Hp} {b c : Addr} (h : b ≠ c) : drop H c b = H b := by unfold drop; rw [if_neg h]
theorem a4h {H : Hp} {b c : Addr} (h : H b = none) : drop H c b = none := by
 by_cases e : b = c
 ·rw [e]; exact a5c
 ·rw [a0x e]; exact h
def a3n (c m : Addr) (o : Obj) : HO := .ext fun h => h.get? c = some o /\ o.data = .cell (some (.ref m))
def a6f (c : Addr) (q : Str) : HO := .ext fun h => h.CodeRec (.ref c) q
def b1b (f : Addr) (fd : FuncData) : HO := .ext fun h => h.get? f = some { cls := .type "function", data := .func fd }
theorem HOk.drop {P : Program} {w : World} {H : Hp} {h : Heap} {c : Addr} {φ : Heap -> Prop} (x : HOk P w H h) (hc : H c = some (.ext φ)) : HOk P w (drop H c) h := fun b o e => by
 by_cases hb : b = c
 ·rw [hb, a5c] at e; cases e
 ·rw [a0x hb] at e
  refine (x b o e).stay (fun _ _ _ z => z) (fun d z => ?_) fun d xs z => ?_
  ·rw [a0x (fun q => by rw [q, hc] at z; cases z)]; exact z
  ·rw [a0x (fun q => by rw [q, hc] at z; cases z)]; exact z
theorem HOk.back {P : Program} {w : World} {H : Hp} {h : Heap} {c : Addr} {o : HO} (x : HOk P w H h) (hc : H c = none) (ok : ObjOk P w (upd H c o) h c o) : HOk P w (upd H c o) h := fun b u e => by
 by_cases hb : b = c
 ·subst hb; rw [a0a] at e; cases e; exact ok
 ·rw [a0d hb] at e
  exact (x b u e).stay (fun _ _ _ z => z) (fun d z => by rw [a0d (a0h z hc)]; exact z) fun d xs z => by rw [a0d (a0h z hc)]; exact z
theorem c1n {P : Program} {w : World} {H : Hp} {h : Heap} {c m : Addr} {o : Obj} (x : h.get? c = some o) (d : o.data = .cell (some (.ref m))) : ObjOk P w H h c (a3n c m o) := ⟨⟨x, d⟩, ⟨o, x⟩, fun h1 h2 e k => ⟨k _ e.1, e.2⟩⟩
theorem c7e {P : Program} {w : World} {H : Hp} {h : Heap} {f : Addr} {fd : FuncData} (x : h.get? f = some { cls := .type "function", data := .func fd }) : ObjOk P w H h f (b1b f fd) := ⟨x, ⟨_, x⟩, fun h1 h2 e k => k _ e⟩
theorem c8y {P : Program} {w : World} {H : Hp} {h : Heap} {c : Addr} {q : Str} (x : h.CodeRec (.ref c) q) : ObjOk P w H h c (a6f c q) := by
 obtain ⟨c', o, vs, t, e1, e2, e3⟩ := id x
 cases e1
 refine ⟨x, ⟨o, e2⟩, fun h1 h2 ⟨c', o', vs', t', f1, f2, f3⟩ k => ?_⟩
 cases f1
 exact ⟨c, o', vs', t', rfl, k _ f2, f3⟩
structure LamScope (ps : List Str) (y : Str) (sc : Scope) : Prop where
 kind : sc.kind = .function
 co : sc.isCoroutine = false
 gen : sc.isGenerator = false
 nd : (ps ++ [y]).Nodup
 par : ∀ x ∈ ps, sc.names.lookup x = some .local
 fre : sc.names.lookup y = some .free
 only : ∀ z ∈ sc.names, z.2 ≠ .cell /\ (z.2 = .free -> z.1 = y)
abbrev a3u (qual : Str) (params : Arguments) (body : Expr) (scope : Scope) (y : Str) (c : Addr) (pm cd ct : Value) : FuncData := PySem.W.kla_fn "<lambda>" qual params body scope [(y, c)] pm cd ct
def cxL (P : Program) (w : World) (K : W.Frag) (mg : Str -> Option Value) (base : Heap) (N : List Str) (qual : Str) (scope : Scope) (f : Addr) (cd : Value) (cl : List (Str × Addr)) (A : Around) (outer : List Env) (s : Shared) (H : Hp) : Cx where
 prog := P
 w := w
 K := K
 mg := mg
 base := base
 A := A.deeper (PySem.W.envX qual scope s.heap.objs.size f cd cl)
 N := N
 s₀ := s
 H₀ := H
 env := PySem.W.envX qual scope s.heap.objs.size f cd cl
 outer := outer
 stack := PySem.W.envX qual scope s.heap.objs.size f cd cl :: outer
 ex := []
 calm := true
 fn := fun _ => false
 pn := []
 xe := fun _ _ => False
theorem a7u {x : Str} {u : Value} : ∀ {l : List (Str × Value)}, (l.map (·.1)).Nodup -> (x, u) ∈ l -> l.lookup x = some u
 | (a, b) :: l, nd, h => by
  rw [a2M, a2X] at nd
  rw [a4A]
  rcases a1H.mp h with e | e
  ·cases e
   rw [a9P]
  ·have ne : (x == a) = false := a4X.mpr fun q => nd.1 (a0M.mpr ⟨(x, u), e, q⟩)
   rw [ne]
   exact a7u nd.2 e
theorem b8r {ps : List Str} {us : List Value} {i : Nat} {x : Str} {u : Value} (nd : ps.Nodup) (h1 : ps[i]? = some x) (h2 : us[i]? = some u) : (ps.zip us).reverse.lookup x = some u := by
 refine a7u ?_ (a3N.mpr (a1C.mpr ⟨i, List.getElem?_zip_eq_some.mpr ⟨h1, h2⟩⟩))
 have sub : ∀ (ps : List Str) (us : List Value), ((ps.zip us).map (·.1)).Sublist ps := fun ps => by
  induction ps with
  | nil => intro us; simp
  | cons a ps ih =>
   intro us
   cases us with
   | nil => simp
   | cons b us => rw [List.zip_cons_cons, a2M]; exact (ih us).cons₂ a
 rw [List.map_reverse]
 show List.Pairwise (· ≠ ·) _
 rw [List.pairwise_reverse]
 exact (nd.sublist (sub ps us)).imp a3R
theorem c8z {P : Program} {w : World} {K : W.Frag} {mg : Str -> Option Value} {base : Heap} {ps : List Str} {y qual : Str} {scope : Scope} {f c m : Addr} {cd : Value} {A : Around} {outer : List Env} {s : Shared} {H : Hp} {us : List Value} {vs : List V} {h1 : Heap} {tk : Nat}
  (S : LamScope ps y scope) (hd : A.handled = none) (e0 : Env0 P w K mg base A outer s H) (hl : vs.length = ps.length) (r : Vals vs us) (hc : H c = none) (ic : s.heap.IsCell c (some (.ref m)))
  (hns : h1.Ns s.heap.objs.size (fun x => (ps.zip us).reverse.lookup x)) (sb : Heap.SameBut s.heap.objs.size (s.heap.push { cls := .type "frame", data := .dict #[] }) h1) :
  Inv (cxL P w K mg base (ps ++ [y]) qual scope f cd [(y, c)] A outer s H) [] (vs.map some ++ [some (.ref m)]) H { s with heap := h1, toks := tk } := by
 have hk : ∀ b o, s.heap.get? b = some o -> h1.get? b = some o := fun b o e => sb.extBut _ _ (a1J (a0Q e)) (a0I _ e)
 have ic1 : h1.IsCell c (some (.ref m)) := let ⟨o, e, d⟩ := ic; ⟨o, hk _ _ e, d⟩
 have one : ∀ {x : Str} {d : Addr}, ([(y, c)] : List (Str × Addr)).lookup x = some d -> x = y /\ d = c := fun {x d} h => by
  rw [a4A] at h
  cases q : x == y with
  | true => rw [q] at h; cases h; exact ⟨eq_of_beq q, rfl⟩
  | false => rw [q] at h; cases h
 have at_y : ([(y, c)] : List (Str × Addr)).lookup y = some c := by rw [a4A, a9P]
 have noA : ∀ b : Addr, b ∉ (cxL P w K mg base (ps ++ [y]) qual scope f cd [(y, c)] A outer s H).ex := fun b z => absurd (show b ∈ ([] : List Addr) from z) (by simp)
 refine ⟨⟨e0.mod, S.kind, rfl, rfl, a0N _, fun a b d h1 h2 => (one h1).1.trans (one h2).1.symm, fun a ha => ?_, fun a d h _ => absurd (show false = true from h) a1L, fun _ => hd, Around.frames_deeper e0.frames, .inr ⟨rfl, rfl⟩, fun b z => absurd z (noA b), e0.bs, e0.bsz, fun b _ _ => noA b, fun b z => absurd z (noA b), e0.funs, e0.frf⟩,
  rfl, e0.bare, Un.kept hk, ⟨_, hns, fun i x v q1 q2 q3 => ?_⟩, fun a d h => ?_, e0.hok.fresh (a0N _), fun a d h => ?_, fun p hp => absurd (show p ∈ ([] : List (Addr × Obj)) from hp) (by simp), e0.hok.kept hk, ?_⟩
 ·have ha' : scope.names.lookup a = some .cell ∨ scope.names.lookup a = some .free := ha
  rcases ha' with z | z
  ·exact absurd rfl (S.only _ (a3H z)).1
  ·have e := (S.only _ (a3H z)).2 rfl
   exact ⟨c, by rw [show a = y from e]; exact at_y⟩
 ·have q1' : (ps ++ [y])[i]? = some x := q1
  rcases Nat.lt_or_ge i ps.length with z | z
  ·rw [a0P z] at q1'
   rw [a0P (by rw [a0D]; lia), a0E] at q2
   cases e : vs[i]? with
   | none => rw [e] at q2; cases q2
   | some a =>
    rw [e] at q2
    cases q2
    obtain ⟨u, hu, rv⟩ := r.get e
    have kx := S.par x (a0H q1')
    refine ⟨u, rv, .inl ⟨kx, ?_⟩⟩
    exact b8r (S.nd.sublist (List.sublist_append_left _ _)) q1' hu
  ·rw [a0T z] at q1'
   rw [a0T (by rw [a0D]; lia), a0D] at q2
   have e : i - ps.length = 0 := by
    rcases Nat.eq_zero_or_pos (i - ps.length) with y0 | y0
    ·exact y0
    ·rw [a1Q (by simp; lia)] at q1'; cases q1'
   rw [e] at q1'
   rw [hl, e] at q2
   cases q1'
   cases q2
   exact ⟨.ref m, rfl, .inr ⟨.inr S.fre, c, at_y, ic1⟩⟩
 ·obtain ⟨rfl, rfl⟩ := one (show ([(y, c)] : List (Str × Addr)).lookup a = some d from h)
  exact ⟨_, ic1⟩
 ·obtain ⟨rfl, rfl⟩ := one (show ([(y, c)] : List (Str × Addr)).lookup a = some d from h)
  exact hc
 ·show (vs.map some ++ [some (V.ref m)]).length = (ps ++ [y]).length
  simp [hl]
theorem c7f {P : Program} {w : World} {K : W.Frag} {mg : Str -> Option Value} {base : Heap} {k : Nat} {ps : List Str} {y qual : Str} {params : Arguments} {body : Expr} {scope : Scope} {f c m cc : Addr} {oc : Obj} {pm ct : Value} {sp : Sp}
  (S : LamScope ps y scope) (len : ∀ vs H Q E, sp vs H Q E -> vs.length = ps.length) (here : ∀ vs H Q E, sp vs H Q E -> H f = some (b1b f (a3u qual params body scope y c pm (.ref cc) ct)) /\ H c = some (a3n c m oc) /\ H cc = some (a6f cc qual))
  (hbody : ∀ (A : Around) (outer : List Env) (s : Shared) (H : Hp) (vs : List V) (Q : VK) (E : XK), Room k (A.deeper (PySem.W.envX qual scope s.heap.objs.size f (.ref cc) [(y, c)])) -> sp vs H Q E ->
   ∃ t, PE (cxL P w K mg base (ps ++ [y]) qual scope f (.ref cc) [(y, c)] A outer s (drop H c)) body t /\ t (vs.map some ++ [some (.ref m)]) (drop H c) fun v H' => H' c = none -> Q v (upd H' c (a3n c m oc))) :
  FnOk P w K mg base CX0 (k + 1) f (a3u qual params body scope y c pm (.ref cc) ct) ps sp := by
 refine ⟨len, fun A outer s H args us vs Q E hr e0 hb r hsp => ?_⟩
 obtain ⟨hf, hc, hcc⟩ := here _ _ _ _ hsp
 have hl := len _ _ _ _ hsp
 obtain ⟨ef, _, _⟩ := e0.hok f _ hf
 obtain ⟨ecell, _, _⟩ := e0.hok c _ hc
 obtain ⟨ecode, _, _⟩ := e0.hok cc _ hcc
 have e1 : Env0 P w K mg base A outer s (drop H c) := ⟨e0.frames, e0.mod, fun b o e => ⟨(e0.bs b o e).1, a4h (e0.bs b o e).2⟩, e0.bsz, e0.funs, fun b hb => a4h (e0.frf b hb), e0.hok.drop hc, e0.bare⟩
 have lim : s.heap.NoLimit := e0.mod.nolimit.keeps fun b o e => (e0.bs b o e).1
 refine PySem.W.kla_callFunE hr.depth ef rfl S.co S.gen rfl ecode (hb _ _ _ _ ?_)
 refine wpAny_newFunctionEnv (fun x hx => (S.only x hx).1) (fun x hx => S.par _ (a8O hx).1) (fun h1 hns sb => ?_) S.kind
 have hk : ∀ b o, s.heap.get? b = some o -> h1.get? b = some o := fun b o e => sb.extBut _ _ (a1J (a0Q e)) (a0I _ e)
 refine ⟨lim.keeps hk, PySem.W.kla_codeExpr ?_⟩
 obtain ⟨t, ht, hq⟩ := hbody A outer s H vs Q E (hr.deeper _) hsp
 have I : Inv (cxL P w K mg base (ps ++ [y]) qual scope f (.ref cc) [(y, c)] A outer s (drop H c)) [] (vs.map some ++ [some (.ref m)]) (drop H c) { s with heap := h1, toks := s.toks + (ps.zip us).length } := c8z S hr.hd e1 hl r a5c ⟨oc, ecell⟩ hns sb
 refine a3D (ht [] _ _ _ _ I hq) (fun v s' ⟨x, H', J, rx, q⟩ => ?_) fun e s' z => False.elim z
 have Hc : H' c = none := J.freeC y c (by show ([(y, c)] : List (Str × Addr)).lookup y = some c; rw [a4A, a9P])
 have ec' : s'.heap.get? c = some oc := J.base.keep c oc ecell.1 a5c (fun z => ?_) (by simp [cxL])
 ·refine ⟨x, upd H' c (a3n c m oc), J.os, J.bare, ⟨fun b o e n hb _ => ?_, fun b o e n hb _ => ?_, fun b o e n _ => ?_, fun b o e _ => J.base.there b o e (by simp [cxL]), fun b xs e => ?_, fun b o u e => ?_, fun b ps e => ?_⟩, J.hok.back Hc (c1n ec' ecell.2), rx, q Hc⟩
  ·exact J.base.keep b o e (a4h n) hb (by simp [cxL])
  ·exact J.base.slot b o e (a4h n) hb (by simp [cxL])
  ·have nb : b ≠ c := fun z => by rw [z, hc] at n; cases n
   rw [a0d nb]
   exact J.base.free b o e (a4h n) (by simp [cxL])
  ·have nb : b ≠ c := fun z => by rw [z, hc] at e; cases e
   rw [a0d nb]
   exact J.base.tups b xs (by show drop H c b = _; rw [a0x nb]; exact e)
  ·have nb : b ≠ c := fun z => by rw [z, hc] at e; cases e
   rw [a0d nb]
   exact J.base.frzs b o u (by show drop H c b = _; rw [a0x nb]; exact e)
  ·have nb : b ≠ c := fun z => by rw [z, hc] at e; cases e
   rw [a0d nb]
   exact J.base.tbls b ps (by show drop H c b = _; rw [a0x nb]; exact e)
 ·have := e0.frf c z
  rw [hc] at this
  cases this
section
variable {X : Cx}
def c7g (X : Cx) (i : Nat) (t : TA) : TE := fun σ H Q => a7s i σ H fun v H0 => ∃ st fd, v = .ref st /\ H0 st = some (b1b st fd) /\ t σ H0 fun vs H1 => H1 st = some (b1b st fd) /\ ∃ k ps sp, FnOk X.prog X.w X.K X.mg X.base CX0 k st fd ps sp /\ Room k X.A /\ Binds X.K fd ps [] /\ sp vs H1 Q E0
theorem c7h {pins : List (Addr × Obj)} {σ : St} {H : Hp} {s : Shared} {st : Addr} {fd : FuncData} (I : Inv X pins σ H s) (h : H st = some (b1b st fd)) : PySem.W.FnAt st s.heap := by
 obtain ⟨e, _, _⟩ := I.hok st _ h
 exact ⟨_, _, _, _, e⟩
theorem c5l (i : Nat) {x : Str} {e : Expr} {es : List Expr} {t : TA} {p pos : Pos} (hv : PE X (.Name x p) (a7s i)) (ha : PA X (e :: es) t) (he : starEach (e :: es) X.env = (false, eval e X.env) :: starEach es X.env := by rfl) (hpl : (backTo pos (starEach es X.env)).any (·.1) = false := by rfl) :
  PE X (.Call (.Name x p) (e :: es) [] pos) (c7g X i t) := by
 intro pins s σ H Q I h
 refine a5B (thn (hv pins s σ H _ I h) fun u s1 ⟨v, H0, I0, rv, st, fd, ev, e0, q⟩ => ?_)
 subst ev
 cases rv
 refine PySem.W.callWith_F (c7h I0 e0) (thn (ha pos pins s1 σ H0 _ I0 q) fun us s2 zq => ?_) he hpl
 obtain ⟨vs, H1, I1, r, e1, k, ps, sp, F, hr, hb, q2⟩ := zq
 refine ⟨c7h I1 e1, ?_⟩
 have z := c6v (dvs := []) (ds := []) F hr hb .nil d1a I1 r (by rw [a2J]; exact q2)
 exact z
def c7i (sp : Sp) (dvs : List V) (j : Nat) (c : Addr) (t : TA) : TE := fun σ H Q => t σ H fun vs H1 => ∃ m, σ[j]? = some (some (.ref m)) /\ ∀ oc, H1 c = none -> sp (vs ++ dvs) (upd H1 c (a3n c m oc)) (fun r H2 => H2 c = some (a3n c m oc) /\ Q r (drop H2 c)) E0
theorem Inv.afterC {pins : List (Addr × Obj)} {σ : St} {H : Hp} {s s' : Shared} {c m : Addr} {oc : Obj} {Q : VK} {u : Value} (I : Inv X pins σ H s) (hc : H c = none) (ec : s.heap.get? c = some oc)
  (h : CE X.stack X.prog X.w (upd H c (a3n c m oc)) s (fun r H2 => H2 c = some (a3n c m oc) /\ Q r (drop H2 c)) u s') : EP X pins σ Q u s' := by
 obtain ⟨v, H2, os, bare, un, hok, rv, e2, q⟩ := h
 obtain ⟨⟨ec', _⟩, _, _⟩ := hok c _ e2
 refine I.after ⟨v, drop H2 c, os, bare, ⟨fun b o e n hb he => ?_, fun b o e n hb he => ?_, fun b o e n he => ?_, un.there, fun b xs e => ?_, fun b o w e => ?_, fun b ps e => ?_⟩, hok.drop e2, rv, q⟩
 ·by_cases z : b = c
  ·subst z
   rw [ec] at e
   cases e
   exact ec'
  ·exact un.keep b o e (by rw [a0d z]; exact n) hb he
 ·by_cases z : b = c
  ·subst z
   rw [ec] at e
   cases e
   exact ⟨oc.slots, ec'⟩
  ·exact un.slot b o e (by rw [a0d z]; exact n) hb he
 ·by_cases z : b = c
  ·rw [z]; exact a5c
  ·exact a4h (un.free b o e (by rw [a0d z]; exact n) he)
 ·have z : b ≠ c := fun z => by rw [z, hc] at e; cases e
  rw [a0x z]
  exact un.tups b xs (by rw [a0d z]; exact e)
 ·have z : b ≠ c := fun z => by rw [z, hc] at e; cases e
  rw [a0x z]
  exact un.frzs b o w (by rw [a0d z]; exact e)
 ·have z : b ≠ c := fun z => by rw [z, hc] at e; cases e
  rw [a0x z]
  exact un.tbls b ps (by rw [a0d z]; exact e)
theorem c5m {x : Str} {k j : Nat} {ps : List Str} {sp : Sp} {f c : Addr} {fd : FuncData} {dvs : List V} {ds : List Value} {y : Str} {e : Expr} {es : List Expr} {t : TA} {p pos : Pos} (F : FnOk X.prog X.w X.K X.mg X.base CX0 k f fd ps sp) (hr : Room k X.A) (hg : Gl X x) (hm : X.mg x = some (.ref f))
  (hk : PySem.W.keepIn X.K (.ref f) = true) (hb : Binds X.K fd ps ds) (hd : Vals dvs ds) (hN : X.N[j]? = some y) (hc : X.env.cells.lookup y = some c) (hkd : X.env.scope.names.lookup y = some .cell) (hfn : X.fn y = true) (ha : PA X (e :: es) t)
  (hdb : (x == ("__debug__" : Str)) = false := by decide) (he : starEach (e :: es) X.env = (false, eval e X.env) :: starEach es X.env := by rfl) (hpl : (backTo pos (starEach es X.env)).any (·.1) = false := by rfl) :
  PE X (.Call (.Name x p) (e :: es) [] pos) (c7i sp dvs j c t) := by
 intro pins s σ H Q I h
 refine a5B (b4l I hg hm ?_ hdb)
 refine PySem.W.callWith_K (h₀ := X.base) I.ok.mod.kin hk (thn (ha pos pins s σ H _ I h) fun us s1 ⟨vs, H1, I1, r, m, hj, q⟩ => ⟨I1.kIn, ?_⟩) he hpl
 have hc0 : H1 c = none := I1.freeC y c hc
 obtain ⟨mm, hn, look⟩ := I1.loc
 obtain ⟨u, ru, lk⟩ := look j y (.ref m) hN hj (.inr (.inl hkd))
 cases ru
 obtain ⟨oc, ec, dc⟩ : s1.heap.IsCell c (some (.ref m)) := by
  rcases lk with ⟨z, _⟩ | ⟨_, c', ec', ic⟩
  ·have z' : X.env.scope.names.lookup y = some .local := z
   rw [hkd] at z'
   cases z'
  ·rw [hc] at ec'
   cases ec'
   exact ic
 have q1 := q oc hc0
 have r2 : Vals (vs ++ dvs) (us ++ ds) := r.append hd
 have hl : (us ++ ds).length = ps.length := by rw [<- r2.length]; exact F.len _ _ _ _ q1
 have e1 : Env0 X.prog X.w X.K X.mg X.base X.A X.stack s1 (upd H1 c (a3n c m oc)) := by
  have e0 := I1.env0
  have young := I1.ok.cab y c hfn hc
  have nb : ∀ b o, X.base.get? b = some o -> b ≠ c := fun b o e z => by
   subst z
   exact absurd (a1E (a0Q e) (a1A I1.ok.bsz young)) (a4G _)
  have nf : ∀ b ∈ frs X.stack, b ≠ c := fun b hb z => by
   subst z
   rcases a1H.mp (I1.stkSub b hb) with w | w
   ·exact I1.cne y b hc w
   ·obtain ⟨_, o, ho, _⟩ := I1.ok.funs.mem w
    exact absurd (a1E (a0Q ho) young) (a4G _)
  exact ⟨e0.frames, e0.mod, fun b o e => ⟨(e0.bs b o e).1, by rw [a0d (nb b o e)]; exact (e0.bs b o e).2⟩, e0.bsz, e0.funs, fun b hb => by rw [a0d (nf b hb)]; exact e0.frf b hb, e0.hok.back hc0 (c1n ec dc), e0.bare⟩
 refine b0F (a5A (F.run X.A X.stack s1 _ ⟨us, []⟩ (us ++ ds) (vs ++ dvs) _ E0 hr e1 (hb s1 us I1.kIn hl) r2 q1) fun r s' hq => ?_)
 cases r with
 | error e => exact hq.elim
 | ok fl =>
  cases fl with
  | ret u => exact I1.afterC hc0 ec hq
  | next => exact False.elim hq
  | brk => exact False.elim hq
  | cont => exact False.elim hq
end
section
variable {X : Cx}
def b1c (mg : Str -> Option Value) (h : Heap) : Prop := ∃ bm o, mg "__builtins__" = some (.ref bm) /\ bm ≠ builtinsNs /\ h.get? bm = some o /\ o.cls = .type "module" /\ o.dict = some builtinsNs /\ o.data = .plain
abbrev a3o (pos : Pos) (cc : Addr) : Array Value := #[rawInt pos.line, rawInt pos.col, .ref cc]
def tLam (P : Addr) (qual : Str) (params : Arguments) (body : Expr) (scope : Scope) (y : Str) (c : Addr) (pm : Value) (pos : Pos) : TE := fun _ H Q =>
 (H P = some (.tbl #[]) /\ ∀ fl cc ct, H fl = none -> H cc = none -> fl ≠ cc -> Q (.ref fl) (upd (upd (upd H P (.tbl (a3o pos cc))) cc (a6f cc qual)) fl (b1b fl (a3u qual params body scope y c pm (.ref cc) ct)))) ∨
 ∃ cc, H P = some (.tbl (a3o pos cc)) /\ H cc = some (a6f cc qual) /\ ∀ fl ct, H fl = none -> Q (.ref fl) (upd H fl (b1b fl (a3u qual params body scope y c pm (.ref cc) ct)))
theorem c7j {P cd c : Addr} {qual y : Str} {params : Arguments} {body : Expr} {scope : Scope} {pos : Pos} (hcd : X.env.code = .ref cd) (C : PySem.W.CodeHd X.base cd P) (bm : b1c X.mg X.base) (hcl : ∀ pins σ H s, Inv X pins σ H s -> closureFor scope X.env = pure [(y, c)])
  (hdf : defaultsOf params X.env = ([], [])) (hq : X.env.qual ++ "<lambda>" = qual) : PE X (.Lambda params body scope pos) (tLam P qual params body scope y c ((X.mg "__name__").getD .none) pos) := by
 intro pins s σ H Q I h
 rw [arm_eval_Lambda, hdf, hq]
 have C' : PySem.W.CodeHd s.heap cd P := C.keeps I.bk
 have hg : s.heap.Ns mainGlobals X.mg := I.mod.glob.keeps I.bk
 refine a0C (m := evalAll []) (a0G (a0C (m := holding _ (evalAllOpt [])) (a1Y (a0G ?_))))
 have track : ∀ ps, H P = some (.tbl ps) -> s.heap.get? P = some (PySem.W.tabObj ps) /\ mainGlobals ≠ P /\ s.heap.BuiltinsAt X.mg P := fun ps e => by
  have eP : s.heap.get? P = some (PySem.W.tabObj ps) := I.hok P _ e
  have ng : mainGlobals ≠ P := fun z => by
   obtain ⟨o, es, ep, e1, _⟩ := I.mod.glob
   have := (I.bs _ _ e1).2
   rw [z, e] at this
   cases this
  obtain ⟨b, o, b1, b2, b3, b4, b5, b6⟩ := bm
  refine ⟨eP, ng, b, o, b1, b2, fun z => ?_, fun z => ?_, I.bk _ _ b3, b4, b5, b6⟩
  ·obtain ⟨o', es, ep, e1, d1, _⟩ := I.mod.glob
   rw [z, e1] at b3
   cases b3
   rw [d1] at b6
   cases b6
  ·have := (I.bs _ _ b3).2
   rw [z, e] at this
   cases this
 rcases h with ⟨e, q⟩ | ⟨cc, e, ecc, q⟩
 ·obtain ⟨eP, ng, hb⟩ := track _ e
  refine PySem.W.kla_makeFunction (hcl pins σ H s I) I.ok.glob hg hcd C' eP (by trivial) rfl ng hb fun cc ct h' tk hx hge hlt hrec htb => ?_
  have hcc : H cc = none := I.hok.fresh hge
  have hfl : H h'.objs.size = none := I.hok.fresh (a1A hge (a3G hlt))
  have nPc : P ≠ cc := a0h e hcc
  have nPf : P ≠ h'.objs.size := a0h e hfl
  have nfc : h'.objs.size ≠ cc := a4I hlt
  generalize eo : PySem.W.kla_obj "<lambda>" qual params body scope [(y, c)] ((X.mg "__name__").getD .none) cc ct = ob
  have old : ∀ b u, H b = some u -> b ≠ cc /\ b ≠ h'.objs.size := fun b u z => ⟨a0h z hcc, a0h z hfl⟩
  have far : ∀ b o, s.heap.get? b = some o -> b ≠ cc /\ b ≠ h'.objs.size := fun b o z => ⟨a1J (a1E (a0Q z) hge), a1J (a1E (a0Q z) (a1A hge (a3G hlt)))⟩
  have kp : ∀ b o, b ≠ P -> s.heap.get? b = some o -> (h'.push ob).get? b = some o := fun b o n z => a0I _ (hx b o n z)
  have at3 : ∀ b, b ≠ P -> b ≠ cc -> b ≠ h'.objs.size -> upd (upd (upd H P (.tbl (a3o pos cc))) cc (a6f cc qual)) h'.objs.size (b1b h'.objs.size (a3u qual params body scope y c ((X.mg "__name__").getD .none) (.ref cc) ct)) b = H b := fun b n1 n2 n3 => by rw [a0d n3, a0d n2, a0d n1]
  have atP : upd (upd (upd H P (.tbl (a3o pos cc))) cc (a6f cc qual)) h'.objs.size (b1b h'.objs.size (a3u qual params body scope y c ((X.mg "__name__").getD .none) (.ref cc) ct)) P = some (.tbl (a3o pos cc)) := by rw [a0d nPf, a0d nPc, a0a]
  have tP : (h'.push ob).get? P = some (PySem.W.tabObj (a3o pos cc)) := by
   refine a0I _ ?_
   rw [htb]
   rfl
  refine ⟨.ref h'.objs.size, _, ?_, rfl, q h'.objs.size cc ct hfl hcc nfc⟩
  refine I.step (ch := []) (fun _ z => nomatch z) (fun b o _ _ _ z n => kp b o (fun w => by rw [w, e] at n; cases n) z) (fun b o _ _ _ z n => ⟨o.slots, kp b o (fun w => by rw [w, e] at n; cases n) z⟩)
   (fun b o _ z n => ?_) (fun b o _ z => ?_) (fun b xs z => ?_) (fun b o u z => ?_) (fun b ps z => ?_) (fun m hm => ?_) (fun b u z => ?_) I.bare
  ·rw [at3 b (fun w => by rw [w, e] at n; cases n) (far b o z).1 (far b o z).2]; exact n
  ·by_cases w : b = P
   ·rw [w]; exact ⟨_, tP⟩
   ·exact ⟨o, kp b o w z⟩
  ·rw [at3 b (fun w => by rw [w, e] at z; cases z) (old b _ z).1 (old b _ z).2]; exact z
  ·rw [at3 b (fun w => by rw [w, e] at z; cases z) (old b _ z).1 (old b _ z).2]; exact z
  ·by_cases w : b = P
   ·subst w
    rw [e] at z
    cases z
    exact ⟨a3o pos cc, by rw [atP]; rfl⟩
   ·exact ⟨#[], by rw [at3 b w (old b _ z).1 (old b _ z).2, z]; simp⟩
  ·exact hm.at' fun o z => kp _ o (fun w => by have := I.free; rw [w, e] at this; cases this) z
  ·by_cases w3 : b = h'.objs.size
   ·rw [w3, a0a] at z
    cases z
    rw [w3]
    exact c7e (by rw [<- eo]; exact a0R _ rfl)
   ·by_cases w2 : b = cc
    ·rw [w2, a0d nfc.symm, a0a] at z
     cases z
     rw [w2]
     exact c8y (hrec.push _)
    ·by_cases w1 : b = P
     ·rw [w1, atP] at z
      cases z
      rw [w1]
      exact tP
     ·rw [at3 b w1 w2 w3] at z
      refine (I.hok b u z).stay (fun d o hd y => kp d o (fun w => ?_) y) (fun d y => ?_) fun d xs y => ?_
      ·rcases hd with v | v
       ·exact w1 (v.symm.trans w)
       ·rw [w, e] at v; cases v
      ·rw [at3 d (fun w => by rw [w, e] at y; cases y) (old d _ y).1 (old d _ y).2]; exact y
      ·rw [at3 d (fun w => by rw [w, e] at y; cases y) (old d _ y).1 (old d _ y).2]; exact y
 ·obtain ⟨eP, ng, hb⟩ := track _ e
  have found : codeAmong pos (a3o pos cc).toList = some (.ref cc) := by
   show (if ((pos.line : Int) == (pos.line : Int) && (pos.col : Int) == (pos.col : Int)) = true then _ else _) = _
   rw [if_pos (by simp)]
  refine PySem.W.kla_makeFunctionHit (hcl pins σ H s I) I.ok.glob hg hcd C' eP (by trivial) found hb fun ct h' tk keep sz => ?_
  have I1 : Inv X pins σ H { s with heap := h', toks := tk } := I.kept keep
  have I2 : Inv X pins σ H { s with heap := h'.push { cls := .type "function", data := .func (a3u qual params body scope y c ((X.mg "__name__").getD .none) (.ref cc) ct) }, toks := tk } := I1.kept fun b o z => a0I _ z
  have ok : ObjOk X.prog X.w (upd H h'.objs.size (b1b h'.objs.size (a3u qual params body scope y c ((X.mg "__name__").getD .none) (.ref cc) ct))) (h'.push { cls := .type "function", data := .func (a3u qual params body scope y c ((X.mg "__name__").getD .none) (.ref cc) ct) }) h'.objs.size (b1b h'.objs.size (a3u qual params body scope y c ((X.mg "__name__").getD .none) (.ref cc) ct)) := c7e (a0R _ rfl)
  exact ⟨.ref h'.objs.size, _, Inv.trackNew I1 I2 ok, rfl, q _ ct I1.fresh⟩
end
def hpT (K : W.Frag) (tabs : List Addr) (a : Addr) (o : Obj) (ns : List Int) : Hp := fun b => if b ∈ tabs then some (.tbl #[]) else if b = a /\ K.lookup a = none then some (.frz o (.lst (ns.map V.int))) else none
theorem c1o {P : Program} {w : World} {K : W.Frag} {mg mb : Str -> Option Value} {k : Nat} {fa a : Addr} {fd : FuncData} {x : Str} {sp : Sp} {s₁ : Shared} {vs : List Value} {ns : List Int} {tabs : List Addr}
  (KX : K.In s₁.heap) (hns : s₁.heap.Ns mainGlobals mg) (hb : s₁.heap.Ns builtinsNs mb) (hbb : ∀ x : Str, x ≠ "__name__" -> mb x = bootBuiltins x) (hlim : s₁.heap.NoLimit) (hg : s₁.gens = #[]) (hbm : b1c mg s₁.heap)
  (ha : s₁.heap.get? a = some { cls := .type "list", data := .seq vs.toArray }) (hi : IntsAre vs ns) (hl : ns.length <= sizeLine) (hr : Room k callerA) (hT : ∀ q ∈ tabs, K.lookup q = none /\ ∃ c, s₁.heap.TableAt c q #[])
  (F : ∀ base : Heap, K.In base -> base.Ns mainGlobals mg -> b1c mg base -> FnOk P w K mg base CX0 k fa fd [x] sp) (hbind : ∀ (s : Shared) (u : Value), BindsTo s fd ⟨[u], []⟩ [(x, u)])
  (hsp : ∀ H : Hp, (∀ q ∈ tabs, H q = some (.tbl #[])) -> SqL K H a (ns.map V.int) -> sp [.ref a] H (fun v _ => v = .bl true) fun _ _ _ => False) :
  codeAny (model P w) callerA (.call (.ref fa) ⟨[.ref a], []⟩) (fun r s' => r = .ok (.ret (.bool true)) /\ OldK s₁.heap s'.heap /\ s'.os = s₁.os /\ AllBare s'.gens) s₁ := by
 have rv := b2r hi
 have lenV := hi.length
 have tabO : ∀ q ∈ tabs, s₁.heap.get? q = some (PySem.W.tabObj #[]) := fun q hq => let ⟨_, c, t⟩ := hT q hq; t.2
 have na : a ∉ tabs := fun hq => by
  have := tabO a hq
  rw [ha] at this
  cases this
 generalize eH : hpT K tabs a { cls := .type "list", data := .seq vs.toArray } ns = H
 have inT : ∀ q ∈ tabs, H q = some (.tbl #[]) := fun q hq => by rw [<- eH]; exact if_pos hq
 have outT : ∀ b, b ∉ tabs -> H b = if b = a /\ K.lookup a = none then some (.frz { cls := .type "list", data := .seq vs.toArray } (.lst (ns.map V.int))) else none := fun b hb => by rw [<- eH]; exact if_neg hb
 have what : ∀ b u, H b = some u -> (b ∈ tabs /\ u = .tbl #[]) ∨ (b = a /\ K.lookup a = none /\ u = .frz { cls := .type "list", data := .seq vs.toArray } (.lst (ns.map V.int))) := fun b u e => by
  by_cases hb : b ∈ tabs
  ·rw [inT b hb] at e
   cases e
   exact .inl ⟨hb, rfl⟩
  ·rw [outT b hb] at e
   by_cases h : b = a /\ K.lookup a = none
   ·rw [if_pos h] at e
    cases e
    exact .inr ⟨h.1, h.2, rfl⟩
   ·rw [if_neg h] at e
    cases e
 have hok : HOk P w H s₁.heap := fun b u e => by
  rcases what b u e with ⟨hb, rfl⟩ | ⟨rfl, _, rfl⟩
  ·exact tabO b hb
  ·exact ⟨ha, by rw [a0D]; exact hl, vs, _, rv, ha⟩
 have hS : SqL K H a (ns.map V.int) := by
  cases hk : K.lookup a with
  | some o =>
   have e := KX a o hk
   rw [ha] at e
   cases e
   exact .inr ⟨_, vs.toArray, _, hk, rfl, rfl, rfl, by rw [a0U, lenV]; exact hl, by simpa using rv⟩
  | none => exact .inl (.inr ⟨{ cls := .type "list", data := .seq vs.toArray }, by rw [outT a na, if_pos ⟨rfl, hk⟩]⟩)
 have free : ∀ {b : Addr} {o : Obj}, s₁.heap.get? b = some o -> o.cls ≠ .none -> (∀ its n, o.data ≠ .seq its n) -> H b = none := fun {b o} e hc hd => by
  cases q : H b with
  | none => rfl
  | some u =>
   rcases what b u q with ⟨hb, _⟩ | ⟨rfl, _, _⟩
   ·rw [tabO b hb] at e
    cases e
    exact absurd rfl hc
   ·rw [ha] at e
    cases e
    exact absurd rfl (hd _ _)
 have nsK : ∀ {b : Addr} {m : Str -> Option Value}, s₁.heap.Ns b m -> (c4k s₁.heap H).Ns b m := fun {b m} ⟨o, es, ep, e, d, r⟩ => by
  refine ⟨o, es, ep, b0u e ?_, d, r⟩
  cases q : H b with
  | none => rfl
  | some u =>
   rcases what b u q with ⟨hb, _⟩ | ⟨rfl, _, _⟩
   ·rw [tabO b hb] at e
    cases e
    cases d
   ·rw [ha] at e
    cases e
    cases d
 have hKb : K.In (c4k s₁.heap H) := fun b o e => b0u (KX b o e) (by
  cases q : H b with
  | none => rfl
  | some u =>
   rcases what b u q with ⟨hb, _⟩ | ⟨rfl, hk, _⟩
   ·rw [(hT b hb).1] at e
    cases e
   ·rw [hk] at e
    cases e)
 have hBb : b1c mg (c4k s₁.heap H) := by
  obtain ⟨bm, o, b1, b2, b3, b4, b5, b6⟩ := hbm
  exact ⟨bm, o, b1, b2, b0u b3 (free b3 (by rw [b4]; nofun) (fun its n z => by rw [b6] at z; cases z)), b4, b5, b6⟩
 have hM : Mod K mg (c4k s₁.heap H) := ⟨hKb, nsK hns, ⟨mb, nsK hb, hbb⟩, let ⟨mc, h1, h2⟩ := hlim; ⟨mc, nsK h1, h2⟩⟩
 have e0 : Env0 P w K mg (c4k s₁.heap H) callerA [] s₁ H := ⟨rfl, hM, fun b o e => c7z e, a7U (b9w _ _), trivial, fun b hb => absurd (show b ∈ ([] : List Addr) from hb) (by simp), hok, .of_eq hg⟩
 refine a5A ((F _ hKb (nsK hns) hBb).run callerA [] s₁ H ⟨[.ref a], []⟩ [.ref a] [.ref a] _ _ hr e0 (hbind s₁ (.ref a)) (.cons rfl .nil) (hsp H inT hS)) fun r s' h => ?_
 cases r with
 | error e => exact h.elim
 | ok fl =>
  cases fl with
  | next => exact False.elim h
  | brk => exact False.elim h
  | cont => exact False.elim h
  | ret u =>
   obtain ⟨v, H', os, bare, un, hok', r', q⟩ := h
   have q' : v = .bl true := q
   subst q'
   obtain rfl : u = Value.bool true := r'
   refine ⟨rfl, ⟨fun b o e => ?_, fun b o e => un.there b o e (by simp)⟩, os, bare⟩
   cases z : H b with
   | none => exact .inl (un.keep b o e z (by intro y; exact absurd (show b ∈ ([] : List Addr) from y) (by simp)) (by simp))
   | some u =>
    rcases what b u z with ⟨hb, rfl⟩ | ⟨rfl, _, rfl⟩
    ·obtain ⟨more, z2⟩ := un.tbls b _ z
     have e2 : s'.heap.get? b = some (PySem.W.tabObj (#[] ++ more)) := hok' b _ z2
     rw [tabO b hb] at e
     cases e
     obtain ⟨_, c, t⟩ := hT b hb
     exact .inr (.inl ⟨t.isCodeTable, rfl, #[], more, rfl, e2⟩)
    ·obtain ⟨e2, _⟩ := hok' b _ (un.frzs b _ _ z)
     rw [ha] at e
     cases e
     exact .inl e2
theorem c5n {l : PySem.W.OpenLaw} {n k : Nat} {q : Program} {loose : List Str} {XP : (Str -> Option Value) -> Heap -> Prop} {YP : World -> Heap -> Prop} {d : DefRec} {K : Params -> W.Frag} {sp : World -> Sp} {x : Str} {tabs : List (Str × Addr)}
  (hn : l.most = some n) (hn2 : n <= sizeLine) (hdf : d.params.defaults = []) (hr : Room k callerA) (hY : ∀ (w : World) (h : Heap), YP w h -> (K w.params).In h)
  (hT : ∀ w : World, ∀ t ∈ tabs, (K w.params).lookup t.2 = none /\ (∃ c, PySem.W.tabIn (K w.params) t.1 = some (c, t.2)) /\ ∃ e, (recsOf q).find? (fun r => r.name == t.1) = some e)
  (F : ∀ (w : World) (mg : Str -> Option Value) (fa : Addr) (h : Heap), (K w.params).In h -> h.Ns mainGlobals mg -> mg d.name = some (.ref fa) ->
   ∃ fd : FuncData, (∀ (s : Shared) (u : Value), BindsTo s fd ⟨[u], []⟩ [(x, u)]) /\ ∀ base : Heap, (K w.params).In base -> base.Ns mainGlobals mg -> b1c mg base -> FnOk l.prog w (K w.params) mg base CX0 k fa fd [x] (sp w))
  (hsp : ∀ (w : World) (H : Hp) (a : Addr) (ns : List Int), ns.length <= n -> (∀ t ∈ tabs, H t.2 = some (.tbl #[])) -> SqL (K w.params) H a (ns.map V.int) -> sp w [.ref a] H (fun v _ => v = .bl true) fun _ _ _ => False) :
  PySem.W.WalkO q loose XP YP l.row.toRowW d [] (fun f vs => PySem.call f vs) := by
 refine Att.attach_call hn hdf fun w s₀ s₁ mg mb fa o pm cd doc a vs ns G Y ho hd hcd hmg hobj hints hlen hg => ?_
 have KX := hY w _ Y
 obtain ⟨fd, hb, hF⟩ := F w mg fa _ KX G.T.g hmg
 refine c1o (tabs := tabs.map (·.2)) KX G.T.g G.T.b G.T.builtins G.T.nolimit hg G.T.bmain hobj hints (a1A hlen hn2) hr (fun q hq => ?_) hF hb (fun H hH hS => hsp w H a ns hlen (fun t ht => hH _ (List.mem_map_of_mem ht)) hS)
 obtain ⟨t, ht, rfl⟩ := a0M.mp hq
 obtain ⟨h1, ⟨c, h2⟩, e, h3⟩ := hT w t ht
 obtain ⟨C, eP⟩ := PySem.W.tab_of G.T KX h3 h2
 exact ⟨h1, c, C.tab eP⟩
def sl (u v : List Nat) : Prop := u.length < v.length ∨ (u.length = v.length /\ ltl u v = true)
theorem a0s {a b : Nat} {xs ys : List Nat} (h : a ≠ b) : ltl (a :: xs) (b :: ys) = decide (a < b) := by
 unfold ltl
 rw [a9w, if_neg h]
 rfl
theorem a4a {a : Nat} {xs ys : List Nat} : ltl (a :: xs) (a :: ys) = ltl xs ys := by
 unfold ltl
 rw [a9w, if_pos rfl]
 cases a9w xs ys with
 | none => simp
 | some b => rfl
theorem b3d : ∀ {xs ys zs : List Nat}, xs.length = ys.length -> ys.length = zs.length -> ltl xs ys = true -> ltl ys zs = true -> ltl xs zs = true
 | [], [], _, _, _, h, _ => by rw [a6d] at h; cases h
 | [], _ :: _, _, h, _, _, _ => by simp at h
 | _ :: _, [], _, h, _, _, _ => by simp at h
 | _ :: _, _ :: _, [], _, h, _, _ => by simp at h
 | a :: xs, b :: ys, c :: zs, h1, h2, h3, h4 => by
  by_cases ab : a = b
  ·subst ab
   rw [a4a] at h3
   by_cases bc : a = c
   ·subst bc
    rw [a4a] at h4 ⊢
    exact b3d (by simpa using h1) (by simpa using h2) h3 h4
   ·rw [a0s bc] at h4 ⊢
    exact h4
  ·rw [a0s ab] at h3
   have h3' : a < b := a1X h3
   by_cases bc : b = c
   ·subst bc
    rw [a0s ab]
    exact h3
   ·rw [a0s bc] at h4
    have h4' : b < c := a1X h4
    rw [a0s (by lia)]
    exact a0Y (by lia)
theorem b0i : ∀ {xs ys us vs : List Nat}, xs.length = ys.length -> ltl xs ys = true -> ltl (xs ++ us) (ys ++ vs) = true
 | [], [], _, _, _, h => by rw [a6d] at h; cases h
 | [], _ :: _, _, _, h, _ => by simp at h
 | _ :: _, [], _, _, h, _ => by simp at h
 | a :: xs, b :: ys, us, vs, h1, h2 => by
  by_cases ab : a = b
  ·subst ab
   rw [a5V, a5V, a4a]
   rw [a4a] at h2
   exact b0i (by simpa using h1) h2
  ·rw [a5V, a5V, a0s ab]
   rw [a0s ab] at h2
   exact h2
theorem c5o (xs : List Nat) {a b : Nat} (h : a < b) : ltl (xs ++ [a]) (xs ++ [b]) = true := by
 induction xs with
 | nil => exact (a0s (by lia)).trans (a0Y h)
 | cons x xs ih => rw [a5V, a5V, a4a]; exact ih
theorem a4n {u v x : List Nat} (h1 : sl u v) (h2 : sl v x) : sl u x := by
 rcases h1 with h1 | ⟨e1, l1⟩ <;> rcases h2 with h2 | ⟨e2, l2⟩
 ·exact .inl (by lia)
 ·exact .inl (by lia)
 ·exact .inl (by lia)
 ·exact .inr ⟨by lia, b3d e1 e2 l1 l2⟩
theorem d1t {u : List Nat} (h : sl u u) : False := by
 rcases h with h | ⟨_, h⟩
 ·lia
 ·rw [a6d] at h; cases h
theorem b4x {u v : List Nat} {a b : Nat} (h : sl u v) : sl (u ++ [a]) (v ++ [b]) := by
 rcases h with h | ⟨e, l⟩
 ·exact .inl (by simp; lia)
 ·exact .inr ⟨by simp [e], b0i e l⟩
theorem a7l (u : List Nat) {a b : Nat} (h : a < b) : sl (u ++ [a]) (u ++ [b]) := .inr ⟨by simp, c5o u h⟩
def sle (u v : List Nat) : Prop := u = v ∨ sl u v
theorem c1p {u v x : List Nat} (h1 : sle u v) (h2 : sle v x) : sle u x := by
 rcases h1 with rfl | h1
 ·exact h2
 ·rcases h2 with rfl | h2
  ·exact .inr h1
  ·exact .inr (a4n h1 h2)
theorem c5p {u v : List Nat} {a : Nat} (h : sle u v) : sle (u ++ [a]) (v ++ [a]) := by
 rcases h with rfl | h
 ·exact .inl rfl
 ·exact .inr (b4x h)
section
variable (f : List Nat -> Nat -> List Nat) (L : Nat) (x0 : List Nat)
abbrev TW := List (List Nat × List Nat)
def a0z (word : List Nat) : List Nat := word.foldl f x0
def Goes (ws : TW) (p : List Nat × List Nat) (l : Nat) : Prop := ∃ u, (f p.1 l, u) ∈ ws /\ sle u (p.2 ++ [l])
structure Told (ws : TW) : Prop where
 head : ws[0]? = some (x0, [])
 keys : (ws.map (·.1)).Nodup
 run : ∀ p ∈ ws, (∀ l ∈ p.2, l < L) /\ a0z f x0 p.2 = p.1
 up : ws.Pairwise fun p q => sl p.2 q.2
 all : ∀ p ∈ ws, ∀ l, l < L -> Goes f ws p l
 short : ∀ p ∈ ws, p.2.length < ws.length
structure Bfs (d : Nat) (ws wv fo : TW) (i j : Nat) : Prop where
 head : ws[0]? = some (x0, [])
 keys : (ws.map (·.1)).Nodup
 run : ∀ p ∈ ws, (∀ l ∈ p.2, l < L) /\ a0z f x0 p.2 = p.1
 up : ws.Pairwise fun p q => sl p.2 q.2
 len : ∀ p ∈ ws, p.2.length <= d + 1
 wave : ∀ p ∈ wv, p ∈ ws /\ p.2.length = d
 wup : wv.Pairwise fun p q => sl p.2 q.2
 foll : ∀ p ∈ fo, p ∈ ws /\ p.2.length = d + 1
 fup : fo.Pairwise fun p q => sl p.2 q.2
 front : ∀ p ∈ ws, ∀ t, wv[i]? = some t -> sl p.2 (t.2 ++ [j])
 done : ∀ p ∈ ws, p ∈ fo ∨ (∃ a, i <= a /\ wv[a]? = some p) ∨ ∀ l, l < L -> Goes f ws p l
 part : ∀ t, wv[i]? = some t -> ∀ l, l < j -> Goes f ws t l
 short : ∀ p ∈ ws, p.2.length < ws.length
variable {f L x0} {d i j : Nat} {ws wv fo : TW} {t : List Nat × List Nat}
theorem Goes.more {p q : List Nat × List Nat} {l : Nat} (h : Goes f ws p l) : Goes f (ws ++ [q]) p l := by
 obtain ⟨u, h1, h2⟩ := h
 exact ⟨u, a3A _ h1, h2⟩
theorem Bfs.start : Bfs f L x0 0 [(x0, [])] [(x0, [])] [] 0 0 where
 head := rfl
 keys := by simp
 run := fun p hp => by
  rw [a0F.mp hp]
  exact ⟨fun _ h => (nomatch h), rfl⟩
 up := a2R _ _
 len := fun p hp => by rw [a0F.mp hp]; simp
 wave := fun p hp => ⟨hp, by rw [a0F.mp hp]; rfl⟩
 wup := a2R _ _
 foll := fun _ h => nomatch h
 fup := .nil
 front := fun p hp t _ => by
  rw [a0F.mp hp]
  exact .inl (by simp)
 done := fun p hp => .inr (.inl ⟨0, a0N _, by rw [a0F.mp hp]; rfl⟩)
 part := fun _ _ _ h => absurd h (a4K _)
 short := fun p hp => by rw [a0F.mp hp]; simp
theorem Bfs.old (b : Bfs f L x0 d ws wv fo i j) (ht : wv[i]? = some t) (hm : f t.1 j ∈ ws.map (·.1)) : Bfs f L x0 d ws wv fo i (j + 1) := by
 obtain ⟨p, hp, e⟩ := a0M.mp hm
 refine { b with front := fun q hq t' ht' => ?_, part := fun t' ht' l hl => ?_ }
 ·exact a4n (b.front q hq t' ht') (a7l _ (a4B _))
 ·rcases Nat.lt_succ_iff_lt_or_eq.mp hl with hl | rfl
  ·exact b.part t' ht' l hl
  ·rw [ht] at ht'
   cases ht'
   exact ⟨p.2, by rw [<- e]; exact hp, .inr (b.front p hp t ht)⟩
theorem Bfs.new (b : Bfs f L x0 d ws wv fo i j) (ht : wv[i]? = some t) (hj : j < L) (hm : f t.1 j ∉ ws.map (·.1)) :
  Bfs f L x0 d (ws ++ [(f t.1 j, t.2 ++ [j])]) wv (fo ++ [(f t.1 j, t.2 ++ [j])]) i (j + 1) := by
 obtain ⟨tw, tl⟩ := b.wave t (a0H ht)
 obtain ⟨r1, r2⟩ := b.run t tw
 have nl : (t.2 ++ [j]).length = d + 1 := by simp [tl]
 have pos : 0 < ws.length := a7K tw
 refine ⟨?_, ?_, fun p hp => ?_, ?_, fun p hp => ?_, fun p hp => ⟨a3A _ (b.wave p hp).1, (b.wave p hp).2⟩, b.wup, fun p hp => ?_, ?_, fun p hp t' ht' => ?_, fun p hp => ?_, fun t' ht' l hl => ?_, fun p hp => ?_⟩
 ·rw [a0P pos]
  exact b.head
 ·rw [a1M, a6L]
  refine ⟨b.keys, by simp, fun x hx y hy z => ?_⟩
  simp at hy
  subst hy
  exact hm (z ▸ hx)
 ·rcases a0K.mp hp with hp | hp
  ·exact b.run p hp
  ·rw [a0F.mp hp]
   refine ⟨fun l hl => ?_, ?_⟩
   ·rcases a0K.mp hl with hl | hl
    ·exact r1 l hl
    ·rw [a0F.mp hl]; exact hj
   ·show a0z f x0 (t.2 ++ [j]) = f t.1 j
    unfold a0z at r2 ⊢
    rw [a3U, r2]
    rfl
 ·rw [a1O]
  refine ⟨b.up, a2R _ _, fun p hp q hq => ?_⟩
  rw [a0F.mp hq]
  exact b.front p hp t ht
 ·rcases a0K.mp hp with hp | hp
  ·exact b.len p hp
  ·rw [a0F.mp hp]; exact a7U nl
 ·rcases a0K.mp hp with hp | hp
  ·exact ⟨a3A _ (b.foll p hp).1, (b.foll p hp).2⟩
  ·exact ⟨a0X _ hp, by rw [a0F.mp hp]; exact nl⟩
 ·rw [a1O]
  refine ⟨b.fup, a2R _ _, fun p hp q hq => ?_⟩
  rw [a0F.mp hq]
  exact b.front p (b.foll p hp).1 t ht
 ·rw [ht] at ht'
  cases ht'
  rcases a0K.mp hp with hp | hp
  ·exact a4n (b.front p hp t ht) (a7l _ (a4B _))
  ·rw [a0F.mp hp]
   exact a7l _ (a4B _)
 ·rcases a0K.mp hp with hp | hp
  ·rcases b.done p hp with h | h | h
   ·exact .inl (a3A _ h)
   ·exact .inr (.inl h)
   ·exact .inr (.inr fun l hl => (h l hl).more)
  ·exact .inl (a0X _ hp)
 ·rw [ht] at ht'
  cases ht'
  rcases Nat.lt_succ_iff_lt_or_eq.mp hl with hl | rfl
  ·exact (b.part t ht l hl).more
  ·exact ⟨t.2 ++ [l], a0X _ (a0F.mpr rfl), .inl rfl⟩
 ·rw [a0Z, a5C]
  rcases a0K.mp hp with hp | hp
  ·exact a7P (b.short p hp)
  ·rw [a0F.mp hp]
   have z := b.short t tw
   show (t.2 ++ [j]).length < _
   rw [a0Z, a5C]
   lia
theorem Bfs.next (b : Bfs f L x0 d ws wv fo i L) (ht : wv[i]? = some t) : Bfs f L x0 d ws wv fo (i + 1) 0 := by
 refine { b with front := fun p hp t' ht' => ?_, done := fun p hp => ?_, part := fun _ _ l hl => absurd hl (a4K _) }
 ·have h1 := b.front p hp t ht
  have h2 : sl t.2 t'.2 := by
   obtain ⟨l1, e1⟩ := a0B.mp ht
   obtain ⟨l2, e2⟩ := a0B.mp ht'
   rw [<- e1, <- e2]
   exact a2H.mp b.wup i (i + 1) l1 l2 (a4B _)
  exact a4n h1 (b4x h2)
 ·rcases b.done p hp with h | ⟨a, h1, h2⟩ | h
  ·exact .inl h
  ·rcases Nat.eq_or_lt_of_le h1 with e | e
   ·subst e
    rw [ht] at h2
    cases h2
    exact .inr (.inr fun l hl => b.part t ht l hl)
   ·exact .inr (.inl ⟨a, e, h2⟩)
  ·exact .inr (.inr h)
theorem Bfs.wave' (b : Bfs f L x0 d ws wv fo wv.length 0) : Bfs f L x0 (d + 1) ws fo [] 0 0 := by
 refine ⟨b.head, b.keys, b.run, b.up, fun p hp => Nat.le_succ_of_le (b.len p hp), b.foll, b.fup, fun _ h => (nomatch h), .nil, fun p hp t ht => ?_, fun p hp => ?_, fun _ _ l hl => absurd hl (a4K _), b.short⟩
 ·have h1 := b.len p hp
  have h2 := (b.foll t (a0H ht)).2
  exact .inl (by simp; lia)
 ·rcases b.done p hp with h | ⟨a, h1, h2⟩ | h
  ·obtain ⟨a, e⟩ := a1C.mp h
   exact .inr (.inl ⟨a, a2U _, e⟩)
  ·rw [a1Q h1] at h2
   cases h2
  ·exact .inr (.inr h)
theorem Bfs.told (b : Bfs f L x0 d ws [] [] 0 0) : Told f L x0 ws := ⟨b.head, b.keys, b.run, b.up, fun p hp => by
 rcases b.done p hp with h | ⟨a, _, h⟩ | h
 ·nomatch h
 ·simp at h
 ·exact h, b.short⟩
theorem Told.least (T : Told f L x0 ws) : ∀ (n : Nat) (v : List Nat), v.length = n -> (∀ l ∈ v, l < L) -> ∃ u, (a0z f x0 v, u) ∈ ws /\ sle u v
 | 0, v, hn, _ => by
  have e : v = [] := a2V.mp hn
  subst e
  exact ⟨[], a0H T.head, .inl rfl⟩
 | n + 1, v, hn, hv => by
  obtain ⟨v', l, rfl⟩ : ∃ v' l, v = v' ++ [l] := ⟨v.dropLast, v.getLast (by intro z; rw [z] at hn; cases hn), (a8L _).symm⟩
  obtain ⟨u, h1, h2⟩ := T.least n v' (by simp at hn; lia) fun x hx => hv x (List.mem_append_left _ hx)
  obtain ⟨u', h3, h4⟩ := T.all _ h1 l (hv l (a0X _ (a0F.mpr rfl)))
  refine ⟨u', ?_, c1p h4 (c5p h2)⟩
  have e : a0z f x0 (v' ++ [l]) = f (a0z f x0 v') l := by
   unfold a0z
   rw [a3U]
   rfl
  rw [e]
  exact h3
theorem a6g {U : List (List Nat)} (h0 : x0 ∈ U) (hU : ∀ x ∈ U, ∀ l, l < L -> f x l ∈ U) : ∀ word : List Nat, (∀ l ∈ word, l < L) -> a0z f x0 word ∈ U := by
 have go : ∀ (word : List Nat) (x : List Nat), x ∈ U -> (∀ l ∈ word, l < L) -> word.foldl f x ∈ U := by
  intro word
  induction word with
  | nil => intro x hx _; exact hx
  | cons l word ih => intro x hx h; exact ih _ (hU x hx l (h l (a0S ..))) fun y hy => h y (a0V _ hy)
 exact fun word h => go word x0 h0 h
theorem a6t {U : List (List Nat)} {l : List (List Nat)} (nd : l.Nodup) (h : ∀ x ∈ l, x ∈ U) : l.length <= U.length := a2N nd h
end
section
variable {P : Program} {w : World} {A : Around} {E : Value -> Shared -> Prop} {s : Shared} {it d : Addr} {i ep : Nat} {es : Array DictEntry}
abbrev a2h (k v : Value) : Obj := { cls := .type "tuple", data := .seq #[k, v] }
abbrev a5d (own : Value) (out : Bool) (d : Addr) (i n ep : Nat) (k v : Value) : Obj := { cls := .type "dict_itemiterator", data := .fields #[own, .bool out, .ref d, .int i 0, .int n 0, .int ep 0, k, v] }
def Lies (h : Heap) (d : Addr) (es : Array DictEntry) (ep : Nat) : Prop := ∃ o, h.get? d = some o /\ o.ExactDict /\ o.data = .dict es ep
def Goer (h : Heap) (it d : Addr) (i n ep : Nat) : Prop := ∃ own out k v, h.get? it = some (a5d own out d i n ep k v) /\ (own = .none ∨ ∃ a : Nat, own = rawInt a /\ a ≠ it /\ ∃ o, h.get? a = some o)
theorem Goer.keep {h h' : Heap} {n : Nat} (g : Goer h it d i n ep) (k : ∀ o, h.get? it = some o -> h'.get? it = some o) (l : ∀ b o, h.get? b = some o -> ∃ o', h'.get? b = some o') : Goer h' it d i n ep := by
 obtain ⟨own, out, x, v, e, c⟩ := g
 refine ⟨own, out, x, v, k _ e, c.imp id ?_⟩
 rintro ⟨a, ea, na, o, eo⟩
 exact ⟨a, ea, na, l a o eo⟩
theorem c1q {own : Value} {out : Bool} {n : Nat} {k0 v0 k v : Value} {Q : Value -> Shared -> Prop} (e : s.heap.get? it = some (a5d own out d i n ep k0 v0)) (c : own = .none ∨ ∃ a : Nat, own = rawInt a /\ a ≠ it /\ ∃ o, s.heap.get? a = some o)
  (q : ∀ h', Goer h' it d i n ep -> h'.get? s.heap.objs.size = some (a2h k v) -> (∀ b o, b ≠ it -> s.heap.get? b = some o -> h'.get? b = some o) -> Q (.ref s.heap.objs.size) { s with heap := h' }) :
  wpAny (model P w) A (Builtin.Dict_items.pairFromOwner (.ref it) 6 k v) Q E s := by
 have lt : it < s.heap.objs.size := a0Q e
 unfold Builtin.Dict_items.pairFromOwner
 refine a0C (wpAny_newTuple ?_)
 have e1 := a0I (a2h k v) e
 have ep1 : (s.heap.push (a2h k v)).get? s.heap.objs.size = some (a2h k v) := a0R _ rfl
 have kp : ∀ b o, s.heap.get? b = some o -> (s.heap.push (a2h k v)).get? b = some o := fun b o z => a0I _ z
 have ne : s.heap.objs.size ≠ it := a4I lt
 rcases c with rfl | ⟨a, rfl, na, o, ea⟩
 ·have free : ∀ {R : Bool -> Shared -> Prop} {s1 : Shared}, s1.heap.get? it = some (a5d .none out d i n ep k0 v0) -> R true s1 -> wpAny (model P w) A (Builtin.Dict_items.ownedTupleIsFree (.ref it)) R E s1 := fun e r => by
   unfold Builtin.Dict_items.ownedTupleIsFree
   exact a0C (a8T e rfl (x := .none) rfl (a0G r))
  refine a0C (free e1 ?_)
  rw [if_pos rfl]
  refine a0C (a8T e1 rfl (x := k0) rfl (a0C (a8T e1 rfl (x := v0) rfl ?_)))
  refine a0C (a3C e1 (by simp) fun h2 e2 s2 => wpAny_bind (wpAny_setField_rec e2 (by simp) fun h3 e3 s3 => ?_))
  refine a0C (a3C e3 (by simp) fun h4 e4 s4 => wpAny_bind (wpAny_setField_rec e4 (by simp) fun h5 e5 s5 => wpAny_bind (wpAny_letGo (wpAny_pure ?_))))
  have sb := ((s2.trans s3).trans s4).trans s5
  have ep5 := sb.extBut _ _ ne ep1
  exact q h5 ⟨_, _, _, _, e5, .inr ⟨_, rfl, ne, _, ep5⟩⟩ ep5 fun b o nb z => sb.extBut _ _ nb (kp b o z)
 ·have a1 := kp a o ea
  refine a0C (m := Builtin.Dict_items.ownedTupleIsFree _) ?_
  unfold Builtin.Dict_items.ownedTupleIsFree
  refine a0C (a8T e1 rfl (x := rawInt a) rfl ?_)
  have alive : ∀ {R : Option Obj -> Shared -> Prop}, R (some o) { s with heap := s.heap.push (a2h k v) } -> wpAny (model P w) A (loadIfAlive ((a : Int).toNat)) R E { s with heap := s.heap.push (a2h k v) } := fun {R} r => by
   rw [a2I]
   exact fun _ _ _ => show R ((s.heap.push (a2h k v)).get? a) _ by rw [a1]; exact r
  refine show wpAny _ _ (loadIfAlive ((a : Int).toNat) >>= _) _ _ _ from a0C (alive ?_)
  refine a0C (m := field _ _) (a8T e1 rfl (x := .bool out) rfl ?_)
  cases out with
  | true => exact a0G (a0G (q _ ⟨_, _, _, _, e1, .inr ⟨a, rfl, na, o, a1⟩⟩ ep1 fun b o _ z => kp b o z))
  | false =>
   refine a0C (m := setField _ _ _) (a3C e1 (by simp) fun h2 e2 s2 => wpAny_pure (wpAny_pure ?_))
   exact q h2 ⟨_, _, _, _, e2, .inr ⟨a, rfl, na, o, s2.extBut _ _ na a1⟩⟩ (s2.extBut _ _ ne ep1) fun b o nb z => s2.extBut _ _ nb (kp b o z)
end
section
variable {P : Program} {w : World} {A : Around} {E : Value -> Shared -> Prop} {s : Shared} {it d : Addr} {i ep : Nat} {es : Array DictEntry}
theorem c1r {en : DictEntry} {Q : Option Value -> Shared -> Prop} (G : Goer s.heap it d i es.size ep) (L : Lies s.heap d es ep) (hx : es[i]? = some en)
  (q : ∀ h', Goer h' it d (i + 1) es.size ep -> h'.get? s.heap.objs.size = some (a2h en.key en.val) -> (∀ b o, b ≠ it -> s.heap.get? b = some o -> h'.get? b = some o) -> Q (some (.ref s.heap.objs.size)) { s with heap := h' }) :
  wpAny (model P w) A (pyNext (.ref it)) Q E s := by
 obtain ⟨own, out, k0, v0, e, c⟩ := G
 obtain ⟨o, ho, _, hd⟩ := L
 have ty : s.TypeIs (.ref it) "dict_itemiterator" := ⟨_, e, rfl⟩
 have lt : i < es.size := (a4C.mp hx).1
 unfold pyNext
 refine a0C (a5Q (a3O (name := Str.ofString "__next__") ty a3Q (a1Z a3Q ty a7X ?_ (a7Q _))))
 refine a0C (a0G (a0C (a0C ?_)))
 refine a0C (a4L ty (a0G (a0C (a6T e rfl ?_))))
 have own2 : Builtin.Dict_items.ownsTuple "dict_itemiterator" = true := by decide
 simp only [own2, if_true]
 refine show wpAny _ _ (if (Value.ref d == Value.none) = true then _ else _) _ _ s from (if_neg (show ¬ ((Value.ref d == Value.none) = true) from a1L)) ▸ a0C (a0G (a0C (a4E ho hd ?_)))
 rw [if_neg (by simp)]
 refine a0C (a0G (a0C (a4Y ho hd ?_)))
 rw [if_neg (by simp)]
 refine a0G ?_
 have at0 : (if ((i : Nat) : Int) < 0 then none else es[((i : Nat) : Int).toNat]?) = some en := by
  rw [if_neg (by lia), a2I]
  exact hx
 show wpAny _ _ (match (if ((i : Nat) : Int) < 0 then none else es[((i : Nat) : Int).toNat]?) with | some e => _ | none => _) _ _ s
 rw [at0]
 refine a0C (a0C (a4L ty (a0G (a0C (a7L ty ?_)))))
 refine show wpAny _ _ (setField (.ref it) 3 (rawInt ((i : Int) + 1)) >>= _) _ _ s from a0C (a3C e (by simp) fun h1 e1 s1 => wpAny_bind (wpAny_holding ?_))
 have e1' : h1.get? it = some (a5d own out d (i + 1) es.size ep k0 v0) := by
  have z : ((i + 1 : Nat) : Int) = (i : Int) + 1 := by lia
  unfold a5d
  rw [z]
  simpa [rawInt] using e1
 have ty1 : Shared.TypeIs { s with heap := h1 } (.ref it) "dict_itemiterator" := ⟨_, e1', rfl⟩
 refine a0C (a7L ty1 (a0C (a7L ty1 ?_)))
 have sz : h1.objs.size = s.heap.objs.size := s1.1
 refine show wpAny _ _ (Builtin.Dict_items.pairFromOwner (.ref it) 6 en.key en.val) _ _ { s with heap := h1 } from c1q (s := { s with heap := h1 }) e1' (c.imp id ?_) fun h2 G2 p2 k2 => ?_
 ·rintro ⟨a, ea, na, oa, z⟩
  exact ⟨a, ea, na, oa, s1.extBut _ _ na z⟩
 ·have p2' : h2.get? s.heap.objs.size = some (a2h en.key en.val) := by rw [<- sz]; exact p2
  show wpAny _ _ (ret (.ref h1.objs.size)) _ _ _
  rw [sz]
  exact a0G ⟨_, rfl, a0G (q h2 G2 p2' fun b o nb z => k2 b o nb (s1.extBut _ _ nb z))⟩
theorem c5q {Q : Option Value -> Shared -> Prop} (hh : A.handled = none) (G : Goer s.heap it d i es.size ep) (L : Lies s.heap d es ep) (hx : es[i]? = none)
  (q : ∀ h', Heap.ExtBut it s.heap h' -> Q none { s with heap := h' }) : wpAny (model P w) A (pyNext (.ref it)) Q E s := by
 obtain ⟨own, out, k0, v0, e, c⟩ := G
 obtain ⟨o, ho, _, hd⟩ := L
 have ty : s.TypeIs (.ref it) "dict_itemiterator" := ⟨_, e, rfl⟩
 unfold pyNext
 refine a0C (a5Q (a3O (name := Str.ofString "__next__") ty a3Q (a1Z a3Q ty a7X ?_ (a7Q _))))
 refine a0C (a0G (a0C (a0C ?_)))
 refine a0C (a4L ty (a0G (a0C (a6T e rfl ?_))))
 have own2 : Builtin.Dict_items.ownsTuple "dict_itemiterator" = true := by decide
 simp only [own2, if_true]
 refine show wpAny _ _ (if (Value.ref d == Value.none) = true then _ else _) _ _ s from (if_neg (show ¬ ((Value.ref d == Value.none) = true) from a1L)) ▸ a0C (a0G (a0C (a4E ho hd ?_)))
 rw [if_neg (by simp)]
 refine a0C (a0G (a0C (a4Y ho hd ?_)))
 rw [if_neg (by simp)]
 refine a0G ?_
 have at0 : (if ((i : Nat) : Int) < 0 then none else es[((i : Nat) : Int).toNat]?) = none := by
  rw [if_neg (by lia), a2I]
  exact hx
 show wpAny _ _ (match (if ((i : Nat) : Int) < 0 then none else es[((i : Nat) : Int).toNat]?) with | some e => _ | none => _) _ _ s
 rw [at0]
 refine a0C (a0C (a4L ty (a0G ?_)))
 refine show wpAny _ _ (setField (.ref it) 2 .none >>= _) _ _ s from a0C (a3C e (by simp) fun h1 e1 sb => ?_)
 refine a0C (m := newExc _ _) ?_
 simp only [newExc, newTuple]
 refine a0C (a3S ?_ (by size_fits))
 refine a0C (m := firstArgMember _ _) (b0J (a := Value.none) (by first | rfl | (unfold firstArgMember; rfl)) (wpAny_newObj_type ?_ (by size_fits)))
 refine a8R (by simpa using hh) (wpAny_bind (wpAny_isInstance (T := "StopIteration") (b := true) ⟨_, Heap.get?_push_size _ rfl, rfl⟩ isSubtype_stop (wpAny_pure ?_)))
 exact q _ fun b o nb z => a0I _ (a0I _ (sb.extBut b o nb z))
end
structure PMade (es : Array DictEntry) (lo : Addr) (h : Heap) (as : List Addr) : Prop where
 far : ∀ a ∈ as, lo < a
 up : as.Pairwise (· < ·)
 is : ∀ (j : Nat) (a : Addr), as[j]? = some a -> ∃ en : DictEntry, es[j]? = some en /\ h.get? a = some (a2h en.key en.val)
theorem PMade.nil {es : Array DictEntry} {lo : Addr} {h : Heap} : PMade es lo h [] := ⟨fun _ z => (nomatch z), .nil, fun _ _ z => by simp at z⟩
theorem PMade.here {es : Array DictEntry} {lo : Addr} {h : Heap} {as : List Addr} (m : PMade es lo h as) : ∀ a ∈ as, a < h.objs.size := fun a ha => by
 obtain ⟨j, e⟩ := a1C.mp ha
 obtain ⟨_, _, g⟩ := m.is j a e
 exact a0Q g
theorem PMade.keep {es : Array DictEntry} {lo : Addr} {h h' : Heap} {as : List Addr} (m : PMade es lo h as) (k : ∀ b o, lo < b -> h.get? b = some o -> h'.get? b = some o) : PMade es lo h' as :=
 ⟨m.far, m.up, fun j a e => by
  obtain ⟨en, x, g⟩ := m.is j a e
  exact ⟨en, x, k a _ (m.far a (a0H e)) g⟩⟩
theorem PMade.more {es : Array DictEntry} {lo a : Addr} {h : Heap} {as : List Addr} {en : DictEntry} (m : PMade es lo h as) (la : lo < a) (new : ∀ b ∈ as, b < a) (x : es[as.length]? = some en) (g : h.get? a = some (a2h en.key en.val)) : PMade es lo h (as ++ [a]) :=
  ⟨fun b hb => by
    rcases a0K.mp hb with z | z
    · exact m.far b z
    · rw [a0F.mp z]; exact la,
   a1O.mpr ⟨m.up, a2R _ _, fun b hb c hc => by rw [a0F.mp hc]; exact new b hb⟩,
   fun j b e => by
    by_cases hj : j < as.length
    · rw [a0P hj] at e
      exact m.is j b e
    · rw [a0T (a8B hj)] at e
      obtain ⟨z, e'⟩ := a0B.mp e
      have j0 : j - as.length = 0 := by simp at z; lia
      have jj : j = as.length := by lia
      subst jj
      simp at e'
      subst e'
      exact ⟨en, x, g⟩⟩
section
variable {P : Program} {w : World} {A : Around} {R : Result -> Shared -> Prop} {S I d : Addr} {ep : Nat} {es : Array DictEntry} {res : Value}
abbrev c1s (h : Heap) (S : Addr) (vs : Array Value) (c : Nat) : Prop := h.get? S = some { cls := .type "list", data := .seq vs c }
theorem fill (hh : A.handled = none) (SI : S < I) (dS : d ≠ S) (dI : d ≠ I) (fit : es.size <= sizeLine) : ∀ (r i : Nat) (s : Shared) (as : List Addr) (c : Nat), i + r = es.size -> as.length = i -> Goer s.heap I d i es.size ep -> Lies s.heap d es ep ->
      c1s s.heap S (as.map Value.ref).toArray c -> PMade es I s.heap as ->
      (∀ h' bs c', bs.length = es.size -> PMade es I h' bs -> c1s h' S (bs.map Value.ref).toArray c' -> (∀ b o, b ≠ S -> b ≠ I -> s.heap.get? b = some o -> h'.get? b = some o) -> R (.ok (.ret res)) { s with heap := h' }) ->
      codeAny (model P w) A (.builtin "list.extend.loop" ⟨[.ref S, .ref I, res], []⟩) R s := by
  have nSI : S ≠ I := a1J SI
  intro r
  induction r with
  | zero =>
    intro i s as c hi hl G L lS M q
    refine a3J F.entry_extend_loop ?_
    rw [a3P a5R _]
    refine show wpAny _ A.in1 (pyNext (.ref I) >>= _) _ _ s from a0C (c5q (by simpa using hh) G L (Array.getElem?_eq_none (by lia)) fun h' x => wpAny_pure ?_)
    exact q h' as c (by lia) (M.keep fun b o lb e => x b o (a4I lb) e) (x S _ nSI lS) fun b o _ nb e => x b o nb e
  | succ r ih =>
    intro i s as c hi hl G L lS M q
    obtain ⟨en, hx⟩ : ∃ en, es[i]? = some en := ⟨es[i]'(by lia), a1P (by lia)⟩
    have szI : I < s.heap.objs.size := by
      obtain ⟨_, _, _, _, e, _⟩ := G
      exact a0Q e
    have szS : S < s.heap.objs.size := a0Q lS
    refine a3J F.entry_extend_loop ?_
    rw [a3P a5R _]
    refine show wpAny _ A.in1 (pyNext (.ref I) >>= _) _ _ s from a0C (c1r G L hx fun h1 G1 p1 k1 => ?_)
    have lS1 := k1 S _ nSI lS
    refine show wpAny _ A.in1 (updateSeq S (·.push (Value.ref s.heap.objs.size)) >>= _) _ _ { s with heap := h1 } from a0C (a8U lS1 rfl (a0G ⟨a6J a5R _, ?_⟩) ?_ ?_)
    · have off : ∀ b o, b ≠ S -> h1.get? b = some o -> (h1.update S (Obj.mapSeq (·.push (Value.ref s.heap.objs.size)))).get? b = some o := fun b o nb e => (a1N _ _ (a3R nb)).trans e
      have lS2 := a4J (Obj.mapSeq (·.push (Value.ref s.heap.objs.size))) lS1 rfl
      obtain ⟨od, h0, x0, y0⟩ := L
      have M1 : PMade es I h1 as := M.keep fun b o lb e => k1 b o (a4I lb) e
      refine ih (i + 1) { s with heap := h1.update S (Obj.mapSeq (·.push (Value.ref s.heap.objs.size))) } (as ++ [s.heap.objs.size]) _ (by lia) (by simp [hl]) (G1.keep (fun o e => off I o (Ne.symm nSI) e) fun b o e => ?_)
        ⟨od, off d od dS (k1 d od dI h0), x0, y0⟩ (by simpa [Obj.mapSeq, List.map_append] using lS2) ?_ fun h' bs c' l' M' lS' k' => q h' bs c' l' M' lS' fun b o n1 n2 e => k' b o n1 n2 (off b o n1 (k1 b o n2 e))
      · by_cases hb : b = S
        · subst hb
          exact ⟨_, lS2⟩
        · exact ⟨o, off b o hb e⟩
      · exact (M1.keep fun b o lb e => off b o (a4I (a9W SI lb)) e).more szI M.here (hl ▸ hx) (off _ _ (a4I szS) p1)
    · simp; lia
    · simp; lia
end
section
variable {P : Program} {w : World} {A : Around} {E : Value -> Shared -> Prop} {s : Shared} {v d : Addr} {ep : Nat} {es : Array DictEntry}
abbrev a6h (d : Addr) : Obj := { cls := .type "dict_items", data := .fields #[.ref d] }
theorem Lies.typeIs {s : Shared} (L : Lies s.heap d es ep) : s.TypeIs (.ref d) "dict" := let ⟨o, h, x, _⟩ := L; ⟨o, h, x.1⟩
theorem c1t {Q : Value -> Shared -> Prop} (nd : (d == sysModules) = false) (L : Lies s.heap d es ep) (q : Q (.ref s.heap.objs.size) { s with heap := s.heap.push (a6h d) }) : wpAny (model P w) A (call (.builtin "dict.items") [.ref d]) Q E s := by
 refine call_meetsIn (S := fun _ R s => Lies s.heap d es ep /\ R (.ok (.ret (.ref s.heap.objs.size))) { s with heap := s.heap.push (a6h d) }) F.slot_dict_items L.typeIs F.entry_dict_items (F.args_dict_items_1 _) (.of_wp fun A R s ⟨L, r⟩ => ?_) ⟨L, q⟩
 unfold Builtin.«dict.items» Builtin.Dict.noArgs
 refine a0C (a0C (wpAny_notOrdered_dict L.typeIs ?_))
 refine show wpAny _ _ (pure d) _ _ s from a0G (show wpAny _ _ (Builtin.Dict.showsAll d >>= _) _ _ s from ?_)
 have all : Builtin.Dict.showsAll d = pure () := by
  unfold Builtin.Dict.showsAll
  rw [nd]
  rfl
 rw [all]
 exact a0C (a0G (a0C (a3S (a0G ⟨_, rfl, r⟩))))
theorem c1u {Q : Value -> Shared -> Prop} (ev : s.heap.get? v = some (a6h d)) (L : Lies s.heap d es ep) (q : Q (.ref s.heap.objs.size) { s with heap := s.heap.push (a5d .none false d 0 es.size ep .none .none) }) : wpAny (model P w) A (pyIter (.ref v)) Q E s := by
 have ty : s.TypeIs (.ref v) "dict_items" := ⟨_, ev, rfl⟩
 obtain ⟨o, ho, _, hd⟩ := L
 refine a5M ty F.slot_dict_items_iter (a1Z F.slot_dict_items_iter ty F.entry_dict_items_iter ?_ (F.args_dict_items_iter_1 _))
 unfold Builtin.«dict_items.__iter__» Builtin.Dict_items.dictOf Builtin.Dict_items.newIterator
 refine a0C (a0G (a0C (a0C (a8T ev rfl (x := .ref d) rfl (a0G (a0C (a0C (a4E ho hd (a0C (a4Y ho hd ?_))))))))))
 refine show wpAny _ _ (newFields "dict_itemiterator" [.none, .bool false, .ref d, rawInt 0, rawInt (es.size : Nat), rawInt (ep : Nat), .none, .none]) _ _ s from a3S (a0G ⟨_, rfl, "dict_itemiterator", _, ⟨_, a0R _ rfl, rfl⟩, a3Q.lookup, q⟩) (by size_fits)
theorem c1v {Q : Bool -> Shared -> Prop} (ty : s.TypeIs (.ref v) "dict_items") (q : Q false s) : wpAny (model P w) A (Builtin.List.listLengthHint (.ref v)) Q E s := PySem.W.kdx_hint ty q
theorem b3e {Q : Value -> Shared -> Prop} (hh : A.handled = none) (ev : s.heap.get? v = some (a6h d)) (L : Lies s.heap d es ep) (fit : es.size <= sizeLine)
  (q : ∀ h' as c tk, as.length = es.size -> PMade es s.heap.objs.size h' as -> c1s h' s.heap.objs.size (as.map Value.ref).toArray c -> (∀ b o, s.heap.get? b = some o -> h'.get? b = some o) -> Q (.ref s.heap.objs.size) { s with heap := h', toks := tk }) :
  wpAny (model P w) A (call (.type "list") [.ref v]) Q E s := by
 let S := s.heap.objs.size
 obtain ⟨o, ho, x, hd⟩ := id L
 have ld : d < S := a0Q ho
 have lv : v < S := a0Q ev
 refine callType_codes (Q₁ := fun obj s₁ => obj = .ref S /\ s₁ = { s with heap := s.heap.push { cls := .type "list", data := .seq #[] } }) F.called_list (F.typeCall_list_1 _) F.entry_list_init (code_list_new _ ⟨rfl, rfl⟩) fun obj s1 z => ?_
 obtain ⟨rfl, rfl⟩ := z
 have lS : c1s (s.heap.push { cls := .type "list", data := .seq #[] }) S #[] 0 := a0R _ rfl
 refine ⟨⟨_, lS, rfl⟩, F.args_list_init_2 _ _, ?_⟩
 unfold Builtin.«list.__init__» Builtin.List.listItems
 refine a0C (a0C (wpAny_seqItems lS rfl (a0G ?_)))
 refine a0C (m := updateSeq S _) (a8U lS rfl (a0C (wpAny_letGo ?_)))
 have lS1 := a4J (Obj.mapSeq (fun _ => (#[] : Array Value))) lS rfl
 let h1 := (s.heap.push { cls := .type "list", data := .seq #[] }).update S (Obj.mapSeq (fun _ => (#[] : Array Value)))
 have k1 : ∀ b o, s.heap.get? b = some o -> h1.get? b = some o := fun b o e => (a1N _ _ (a4I (a0Q e))).trans (a0I _ e)
 have sz1 : h1.objs.size = S + 1 := by
  show (Heap.update _ _ _).objs.size = _
  simp [Heap.update, Heap.push, S]
 have go : ∀ (h2 : Heap) (c tk : Nat), c1s h2 S #[] c -> (∀ b o, b ≠ S -> (h1.push (a5d .none false d 0 es.size ep .none .none)).get? b = some o -> h2.get? b = some o) ->
   codeAny (model P w) A.in1 (.builtin "list.extend.loop" ⟨[.ref S, .ref h1.objs.size, .none], []⟩) (wants (fun r s₂ => r = Value.none /\ Q (Value.ref S) s₂) E) { s with heap := h2, toks := tk } := fun h2 c tk l2 k2 => by
  have SI : S < h1.objs.size := by rw [sz1]; exact a4B _
  have k12 : ∀ b o, s.heap.get? b = some o -> h2.get? b = some o := fun b o e => k2 b o (a1J (a0Q e)) (a0I _ (k1 b o e))
  refine fill (by simpa using hh) SI (Nat.ne_of_lt ld) (Nat.ne_of_lt (Nat.lt_trans ld SI)) fit es.size 0 { s with heap := h2, toks := tk } [] c (by lia) rfl ⟨_, _, _, _, k2 _ _ (Nat.ne_of_gt SI) (Heap.get?_push_size _ rfl), .inl rfl⟩ ⟨o, k12 d o ho, x, hd⟩ l2 .nil fun h' as c' l' M' lS' k' => ?_
  refine ⟨rfl, q h' as c' tk l' ⟨fun a ha => a9W SI (M'.far a ha), M'.up, M'.is⟩ lS' fun b o e => ?_⟩
  have lb : b < S := a0Q e
  exact k' b o (a1J lb) (a1J (a9W lb SI)) (k12 b o e)
 refine show wpAny _ _ (Builtin.List.listExtendWith (.ref S) (.ref v) .none) _ _ _ from ?_
 unfold Builtin.List.listExtendWith
 have ev1 := k1 v _ ev
 refine a0C (a9Y (T := "dict_items") ⟨_, ev1, rfl⟩ ?_)
 have no : (Builtin.List.listSameRef (.ref S) (.ref v) || Value.type "dict_items" == Value.type "list" || Value.type "dict_items" == Value.type "tuple") = false := by
  have z : Builtin.List.listSameRef (.ref S) (.ref v) = false := by simp [Builtin.List.listSameRef, Nat.ne_of_gt lv]
  rw [z]
  decide
 rw [no, if_neg (by decide)]
 refine a0C (c1u ev1 ⟨o, k1 d o ho, x, hd⟩ (a0C (a1Y (c1v ⟨_, a0I _ ev1, rfl⟩ ?_))))
 have lS2 := a0I (a5d .none false d 0 es.size ep .none .none) lS1
 refine b0A (fun _ => ?_) fun _ => a0G ⟨a6J a5R _, go _ _ _ lS2 fun _ _ _ e => e⟩
 unfold Builtin.List.listTouch Builtin.List.listUpdate
 refine a0C (a6K (a0C (a0C (m := updateSeq S _) (a8U lS2 rfl ?_))))
 have lS3 := a4J (Obj.mapSeq (·.push Value.none)) lS2 rfl
 refine show wpAny _ _ (updateSeq S (·.pop)) _ _ _ from a8U (hz := by seq_fits) lS3 rfl (a0G ⟨a6J a5R _, go _ _ _ (a4J (Obj.mapSeq (·.pop)) lS3 rfl) fun b o nb e => ?_⟩)
 rw [a1N _ _ (a3R nb), a1N _ _ (a3R nb)]
 exact e
end
def lay (H : Hp) : List (Addr × HO) -> Hp
 | [] => H
 | p :: l => lay (upd H p.1 p.2) l
theorem b4y : ∀ {l : List (Addr × HO)} {H : Hp} {b : Addr}, (∀ p ∈ l, b ≠ p.1) -> lay H l b = H b
 | [], _, _, _ => rfl
 | p :: l, H, b, n => by
  show lay (upd H p.1 p.2) l b = _
  rw [b4y fun q hq => n q (a0V _ hq), a0d (n p (a0S ..))]
theorem c1w : ∀ {l : List (Addr × HO)} {H : Hp} {p : Addr × HO}, (l.map (·.1)).Nodup -> p ∈ l -> lay H l p.1 = some p.2
 | q :: l, H, p, nd, hp => by
  obtain ⟨h1, h2⟩ := a2X.mp nd
  rcases a1H.mp hp with rfl | hp
  ·show lay (upd H p.1 p.2) l p.1 = _
   rw [b4y fun r hr z => h1 (a0M.mpr ⟨r, hr, z.symm⟩), a0a]
  ·exact c1w (l := l) h2 hp
theorem a6u {α β : Type} {F : α -> β -> Prop} {l : List α} {m : List β} {j : Nat} {a : α} (r : Paired F l m) (e : l[j]? = some a) : ∃ b, m[j]? = some b /\ F a b := by
 induction r generalizing j with
 | nil => simp at e
 | cons h _ ih =>
  cases j with
  | zero =>
   have z := a1S e
   subst z
   exact ⟨_, rfl, h⟩
  | succ j => exact ih (by simpa using e)
section
variable {X : Cx}
theorem Inv.tracks {pins : List (Addr × Obj)} {σ : St} {H0 : Hp} {s s1 : Shared} (I : Inv X pins σ H0 s) : ∀ (l : List (Addr × HO)) (H : Hp), Inv X pins σ H s1 -> (∀ p ∈ l, s.heap.objs.size <= p.1 /\ H p.1 = none /\ ∀ H2, ObjOk X.prog X.w H2 s1.heap p.1 p.2) -> (l.map (·.1)).Nodup ->
  Inv X pins σ (lay H l) s1
 | [], _, I1, _, _ => I1
 | p :: l, H, I1, ok, nd => by
  obtain ⟨h1, h2⟩ := a2X.mp nd
  obtain ⟨le, n, o⟩ := ok p (a0S ..)
  obtain ⟨f0, f1, f2, f3, f4, f5⟩ := I.fpOk (b := p.1) (H' := H) le n
  refine Inv.tracks I l _ (I1.track n (o _) (a1A I.sz le) f1 f4 f5) (fun q hq => ?_) h2
  obtain ⟨x, y, z⟩ := ok q (a0V _ hq)
  exact ⟨x, by rw [a0d fun e => h1 (a0M.mpr ⟨q, hq, e⟩)]; exact y, z⟩
structure Listed (H H' : Hp) (kvs : List (List Key × V)) (l : Addr) (as : List Addr) : Prop where
 new : H l = none
 news : ∀ a ∈ as, H a = none
 out : l ∉ as
 nd : as.Nodup
 len : as.length = kvs.length
 lst : H' l = some (.lst (as.map .ref))
 is : ∀ (j : Nat) (a : Addr), as[j]? = some a -> ∃ k v b, kvs[j]? = some (k, v) /\ H b = some (.tup (k.map kV)) /\ H' a = some (.tup [.ref b, v])
 rest : ∀ b, b ≠ l -> b ∉ as -> H' b = H b
def c1x (v d : Addr) : HO := .ext fun h => h.get? v = some (a6h d)
def d1u : V -> List V -> Hp -> VK -> Prop := fun x xs H Q => xs = [] /\ ∃ a kvs, x = .ref a /\ H a = some (.dT kvs) /\ ∀ v, H v = none -> Q (.ref v) (upd H v (c1x v a))
theorem c5r : MtR X "dict.items" d1u := by
 intro pins s σ H x xs u us Q I r1 r2 h
 obtain ⟨rfl, a, kvs, rfl, ha, q⟩ := h
 cases r1
 cases r2
 obtain ⟨z, na, ys, rel, o, es, ep, e1, e2, e3, _⟩ := I.hok a _ ha
 refine c1t na ⟨o, e1, e2, e3⟩ ⟨.ref s.heap.objs.size, _, I.laid (a := s.heap.objs.size) (o := c1x s.heap.objs.size a) (t' := s.toks) (fun _ _ q => a0I _ q) (a0N _) ?_, rfl, q _ I.fresh⟩
 have e : (s.heap.push (a6h a)).get? s.heap.objs.size = some (a6h a) := a0R _ rfl
 exact ⟨e, ⟨_, e⟩, fun h1 h2 y k => k _ y⟩
def b8s : List V -> Hp -> VK -> Prop := fun xs H Q => ∃ v a kvs, xs = [.ref v] /\ H v = some (c1x v a) /\ H a = some (.dT kvs) /\ ∀ l as H', Listed H H' kvs l as -> Q (.ref l) H'
theorem a9e (hc : X.calm = true) : CallR X (.type "list") b8s := by
 intro pins s σ H xs us Q I r h
 obtain ⟨v, a, kvs, rfl, hv, ha, q⟩ := h
 obtain ⟨u, rfl, ru⟩ := a4f r
 cases ru
 obtain ⟨ev, _, _⟩ := I.hok v _ hv
 obtain ⟨z, na, ys, rel, o, es, ep, e1, e2, e3, e4, _⟩ := I.hok a _ ha
 have el : es.size = kvs.length := by rw [a8Q e4, <- a4T rel]
 refine b3e (I.ok.hd hc) ev ⟨o, e1, e2, e3⟩ (by lia) fun h' as c tk ln M lS k => ?_
 have I1 : Inv X pins σ H { s with heap := h', toks := tk } := I.kept k
 have big : ∀ b, s.heap.objs.size <= b -> H b = none := fun b hb => I.hok.fresh hb
 have nd : as.Nodup := M.up.imp fun z => a1J z
 have out : s.heap.objs.size ∉ as := fun m => a4G _ (M.far _ m)
 have each : ∀ (j : Nat) (b : Addr), as[j]? = some b -> ∃ k x y, kvs[j]? = some (k, x) /\ H y = some (.tup (k.map kV)) /\ ∃ u, RelV x u /\ h'.get? b = some (a2h (.ref y) u) := fun j b ej => by
  obtain ⟨en, ee, g⟩ := M.is j b ej
  obtain ⟨jl, _⟩ := a0B.mp ej
  obtain ⟨⟨k, x⟩, ek⟩ : ∃ p, kvs[j]? = some p := ⟨_, a0A (by lia)⟩
  obtain ⟨⟨k', y, u⟩, ey, p1, p2, p3⟩ := a6u rel ek
  rw [entry_at e4, ey] at ee
  cases ee
  exact ⟨k, x, y, ek, p2, u, p3, g⟩
 have some1 : ∀ b, ∃ o : HO, ∀ j : Nat, as[j]? = some b -> ∃ k x y, kvs[j]? = some (k, x) /\ H y = some (.tup (k.map kV)) /\ o = .tup [.ref y, x] /\ ∃ u, RelV x u /\ h'.get? b = some (a2h (.ref y) u) := fun b => by
  by_cases hb : b ∈ as
  ·obtain ⟨j, ej⟩ := a1C.mp hb
   obtain ⟨k, x, y, h1, h2, u, h3, h4⟩ := each j b ej
   refine ⟨.tup [.ref y, x], fun i ei => ?_⟩
   have ij : j = i := a2P (a0B.mp ej).1 nd |>.mp (ej.trans ei.symm)
   subst ij
   exact ⟨k, x, y, h1, h2, rfl, u, h3, h4⟩
  ·exact ⟨.tup [], fun j ej => absurd (a0H ej) hb⟩
 let pr : Addr -> HO := fun b => Classical.choose (some1 b)
 have prIs : ∀ (j : Nat) (b : Addr), as[j]? = some b -> ∃ k x y, kvs[j]? = some (k, x) /\ H y = some (.tup (k.map kV)) /\ pr b = .tup [.ref y, x] /\ ∃ u, RelV x u /\ h'.get? b = some (a2h (.ref y) u) := fun j b ej => a3T (some1 b) j ej
 have dom : (as.map fun b => (b, pr b)).map (·.1) = as := by simp [List.map_map, Function.comp_def]
 have okT : ∀ b ∈ as, ∀ H2, ObjOk X.prog X.w H2 h' b (pr b) := fun b hb H2 => by
  obtain ⟨j, ej⟩ := a1C.mp hb
  obtain ⟨k, x, y, h1, h2, h3, u, h4, h5⟩ := prIs j b ej
  rw [h3]
  exact ⟨by show 2 <= sizeLine; decide, [.ref y, u], .cons rfl (.cons h4 .nil), _, h5, rfl, 0, rfl, rfl⟩
 have vs : ∀ l : List Addr, Vals (l.map V.ref) (l.map Value.ref) := fun l => by
  induction l with
  | nil => exact .nil
  | cons x l ih => exact .cons rfl ih
 have I2 := Inv.tracks (s1 := { s with heap := h', toks := tk }) I ((s.heap.objs.size, .lst (as.map .ref)) :: as.map fun b => (b, pr b)) H I1 (fun p hp => by
   rcases a1H.mp hp with rfl | hp
   ·exact ⟨a0N _, big _ (a0N _), fun H2 => ⟨by rw [a0D]; lia, _, c, vs as, lS⟩⟩
   ·obtain ⟨b, hb, rfl⟩ := a0M.mp hp
    exact ⟨a3G (M.far b hb), big _ (a3G (M.far b hb)), okT b hb⟩) (by
   rw [a2M, dom]
   exact a2X.mpr ⟨out, nd⟩)
 refine ⟨.ref s.heap.objs.size, _, I2, rfl, q _ as _ ⟨big _ (a0N _), fun b hb => big _ (a3G (M.far b hb)), out, nd, by lia, ?_, fun j b ej => ?_, fun b h1 h2 => ?_⟩⟩
 ·exact c1w (p := (s.heap.objs.size, .lst (as.map .ref))) (by rw [a2M, dom]; exact a2X.mpr ⟨out, nd⟩) (a0S ..)
 ·obtain ⟨k, x, y, g1, g2, g3, _⟩ := prIs j b ej
  refine ⟨k, x, y, g1, g2, ?_⟩
  rw [<- g3]
  exact c1w (p := (b, pr b)) (by rw [a2M, dom]; exact a2X.mpr ⟨out, nd⟩) (a0V _ (a0M.mpr ⟨b, a0H ej, rfl⟩))
 ·refine b4y fun p hp => ?_
  rcases a1H.mp hp with rfl | hp
  ·exact h1
  ·obtain ⟨y, hy, rfl⟩ := a0M.mp hp
   exact fun e => h2 (e ▸ hy)
end
def a3p (ws : TW) (as : List Addr) : List (List Key × V) := List.zipWith (fun p a => (nk p.1, V.ref a)) ws as
theorem b6q {ws : TW} {as : List Addr} {p : List Nat × List Nat} {a : Addr} (h : as.length = ws.length) : a3p (ws ++ [p]) (as ++ [a]) = a3p ws as ++ [(nk p.1, .ref a)] := by
 unfold a3p
 rw [List.zipWith_append h.symm]
 rfl
theorem c1y {ws : TW} {as : List Addr} (h : as.length = ws.length) : (a3p ws as).length = ws.length := by
 unfold a3p
 rw [List.length_zipWith]
 lia
theorem d1v {ws : TW} {as : List Addr} {j : Nat} {p : List Nat × List Nat} {a : Addr} (hp : ws[j]? = some p) (ha : as[j]? = some a) : (a3p ws as)[j]? = some (nk p.1, .ref a) := by
 unfold a3p
 rw [List.getElem?_zipWith, hp, ha]
theorem b3f : ∀ {ws : TW} {as : List Addr} {x : List Nat}, x ∉ ws.map (·.1) -> a9v (a3p ws as) (nk x) = none
 | [], _, _, _ => rfl
 | _ :: _, [], _, _ => rfl
 | p :: ws, a :: as, x, h => by
  have h1 : ¬ (nk p.1 : List Key) = nk x := fun z => h (a0M.mpr ⟨p, a0S .., b0g z⟩)
  exact (a4m (p := (nk p.1, V.ref a)) (r := a3p ws as) h1).trans (b3f fun z => h (a0V _ z))
theorem c1z : ∀ {ws : TW} {as : List Addr} {j : Nat} {p : List Nat × List Nat} {a : Addr}, (ws.map (·.1)).Nodup -> ws[j]? = some p -> as[j]? = some a -> a9v (a3p ws as) (nk p.1) = some (.ref a)
 | q :: ws, b :: as, 0, p, a, _, hp, ha => by
  cases hp
  cases ha
  exact a6p (p := (nk q.1, V.ref b)) (r := a3p ws as) rfl
 | q :: ws, b :: as, j + 1, p, a, nd, hp, ha => by
  obtain ⟨h1, h2⟩ := a2X.mp nd
  have hp' : ws[j]? = some p := by simpa using hp
  have n : ¬ (nk q.1 : List Key) = nk p.1 := fun z => h1 (a0M.mpr ⟨p, a0H hp', (b0g z).symm⟩)
  exact (a4m (p := (nk q.1, V.ref b)) (r := a3p ws as) n).trans (c1z h2 hp' (by simpa using ha))
 | [], _, _, _, _, _, hp, _ => by simp at hp
 | _ :: _, [], _, _, _, _, _, ha => by simp at ha
structure WordsAt (H : Hp) (D : Addr) (ws : TW) (as : List Addr) : Prop where
 len : as.length = ws.length
 dict : H D = some (.dT (a3p ws as))
 list : ∀ (j : Nat) (a : Addr) (p : List Nat × List Nat), as[j]? = some a -> ws[j]? = some p -> H a = some (.lst (p.2.map nv))
theorem WordsAt.same {H H' : Hp} {D : Addr} {ws : TW} {as : List Addr} (W : WordsAt H D ws as) (g : Same H H') : WordsAt H' D ws as := ⟨W.len, g _ _ W.dict, fun j a p h1 h2 => g _ _ (W.list j a p h1 h2)⟩
theorem WordsAt.word {H : Hp} {D : Addr} {ws : TW} {as : List Addr} {p : List Nat × List Nat} (W : WordsAt H D ws as) (nd : (ws.map (·.1)).Nodup) (hp : p ∈ ws) : ∃ a, a9v (a3p ws as) (nk p.1) = some (.ref a) /\ H a = some (.lst (p.2.map nv)) := by
 obtain ⟨j, e⟩ := a1C.mp hp
 obtain ⟨hj, _⟩ := a0B.mp e
 obtain ⟨a, ea⟩ : ∃ a, as[j]? = some a := ⟨_, a0A (by rw [W.len]; exact hj)⟩
 exact ⟨a, c1z nd e ea, W.list j a p ea e⟩
theorem WordsAt.put {H : Hp} {D l : Addr} {ws : TW} {as : List Addr} {p : List Nat × List Nat} (W : WordsAt H D ws as) (hl : H l = some (.lst (p.2.map nv))) : WordsAt (upd H D (.dT (a3p ws as ++ [(nk p.1, .ref l)]))) D (ws ++ [p]) (as ++ [l]) := by
 have nD : ∀ {a : Addr} {xs : List V}, H a = some (.lst xs) -> a ≠ D := fun h => a1n h W.dict (fun z => nomatch z)
 refine ⟨by simp [W.len], by rw [a0a, b6q W.len], fun j a q h1 h2 => ?_⟩
 by_cases hj : j < ws.length
 ·rw [a0P (by rw [W.len]; exact hj)] at h1
  rw [a0P hj] at h2
  have z := W.list j a q h1 h2
  rw [a0d (nD z)]
  exact z
 ·rw [a0T (by rw [W.len]; lia)] at h1
  rw [a0T (by lia)] at h2
  have z : j - ws.length = 0 := by
   have := (a0B.mp h2).1
   simp at this
   lia
  rw [W.len, z] at h1
  rw [z] at h2
  cases h1
  cases h2
  rw [a0d (nD hl)]
  exact hl
def noT (H : Hp) : Hp := fun a => match H a with
 | some (.tbl _) => none
 | o => o
theorem a0y {H : Hp} {a : Addr} {o : HO} (h : H a = some o) (n : ∀ ps, o ≠ .tbl ps) : noT H a = some o := by
 unfold noT
 rw [h]
 cases o <;> first | rfl | exact absurd rfl (n _)
theorem b3g {H : Hp} {a : Addr} {o : HO} (h : noT H a = some o) : H a = some o /\ ∀ ps, o ≠ .tbl ps := by
 unfold noT at h
 split at h
 ·cases h
 ·rename_i n
  exact ⟨h, fun ps z => n ps (by rw [h, z])⟩
theorem c5s {H : Hp} {a : Addr} (h : H a = none) : noT H a = none := by
 unfold noT
 rw [h]
def Keeps (H H' : Hp) : Prop := Same (noT H) H'
theorem Same.keeps {H H' : Hp} (g : Same H H') : Keeps H H' := fun a o h => g a o (b3g h).1
theorem Keeps.refl (H : Hp) : Keeps H H := (Same.refl H).keeps
theorem Keeps.trans {H H1 H2 : Hp} (a : Keeps H H1) (b : Keeps H1 H2) : Keeps H H2 := fun c o h => b c o (a0y (a c o h) (b3g h).2)
def TabOk (qual : Str) (pos : Pos) (H : Hp) (T : Addr) : Prop := H T = some (.tbl #[]) ∨ ∃ cc, H T = some (.tbl (a3o pos cc)) /\ H cc = some (a6f cc qual)
theorem TabOk.same {qual : Str} {pos : Pos} {H H' : Hp} {T : Addr} (t : TabOk qual pos H T) (g : Same H H') : TabOk qual pos H' T := by
 rcases t with t | ⟨cc, t1, t2⟩
 ·exact .inl (g _ _ t)
 ·exact .inr ⟨cc, g _ _ t1, g _ _ t2⟩
def DefAt (K : W.Frag) (x : Str) (st : Stmt) (f : Addr) (fd : FuncData) (dv cv : Value) : Prop :=
 PySem.W.codeIn K cv x = true /\ (∃ kV doc pm an ct, fd = PySem.W.fnOf x x (a0p st) (a0n st) (a0b st) dv kV doc pm an cv ct) /\ ∃ c d sl, K.lookup f = some ⟨c, d, .func fd, sl⟩
section
variable {P : Program} {w : World} {K : W.Frag} {mg : Str -> Option Value} {base : Heap} {x : Str} {st : Stmt} {f : Addr} {fd : FuncData} {dv cv : Value} {N ps : List Str} {k : Nat} {sp : Sp}
def d1w (P : Program) (w : World) (K : W.Frag) (mg : Str -> Option Value) (base : Heap) (x : Str) (st : Stmt) (f : Addr) (cv : Value) (N : List Str) (k : Nat) (sp : Sp) : Prop :=
 ∀ A outer s H vs Q E, sp vs H Q E -> Room k (A.deeper (envOfC x (a0b st) s.heap.objs.size f cv)) -> ∃ t : TS, t ⟨fun _ H' => Q .non H', Q, fun _ _ => False, fun _ _ => False⟩ (start N vs) H /\ PSs (c8j CX0 P w K mg base N x (a0b st) f cv A outer s H E).nox (a0n st) t
theorem DefAt.fnOk (d : DefAt K x st f fd dv cv) (sc : FnScope N ps (a0b st)) (len : ∀ vs H Q E, sp vs H Q E -> vs.length = ps.length) (b : d1w P w K mg base x st f cv N k sp) : FnOk P w K mg base CX0 (k + 1) f fd ps sp := by
 obtain ⟨hcode, ⟨kV, doc, pm, an, ct, rfl⟩, _, _, _, lk⟩ := d
 refine d0x lk hcode sc len fun A outer s H vs Q E hr hsp => ?_
 obtain ⟨t, q, h⟩ := b A outer s H vs Q E hsp hr
 exact ⟨t, h.nox, q⟩
def b1d (P : Program) (w : World) (K : W.Frag) (mg : Str -> Option Value) (base : Heap) (x : Str) (k : Nat) (ps : List Str) (sp : Sp) (dvs : List V) : Prop :=
 ∃ f fd ds, FnOk P w K mg base CX0 k f fd ps sp /\ mg x = some (.ref f) /\ PySem.W.keepIn K (.ref f) = true /\ Binds K fd ps ds /\ Vals dvs ds
theorem b3h {X : Cx} {x y : Str} {k j : Nat} {ps : List Str} {sp : Sp} {c : Addr} {dvs : List V} {e : Expr} {es : List Expr} {t : TA} {p pos : Pos} (cl : b1d X.prog X.w X.K X.mg X.base x k ps sp dvs) (hr : Room k X.A) (hg : Gl X x) (hN : X.N[j]? = some y) (hc : X.env.cells.lookup y = some c)
  (hkd : X.env.scope.names.lookup y = some .cell) (hfn : X.fn y = true) (ha : PA X (e :: es) t) (hdb : (x == ("__debug__" : Str)) = false := by decide) (he : starEach (e :: es) X.env = (false, eval e X.env) :: starEach es X.env := by rfl)
  (hpl : (backTo pos (starEach es X.env)).any (·.1) = false := by rfl) : PE X (.Call (.Name x p) (e :: es) [] pos) (c7i sp dvs j c t) := by
 obtain ⟨f, fd, ds, F, hm, hk, hb, hd⟩ := cl
 exact c5m F hr hg hm hk hb hd hN hc hkd hfn ha hdb he hpl
end
section
variable {X : Cx}
def c7k (tk tv : TE) : TE := fun σ H Q => ∀ p, H p = none -> tk σ (upd H p (.dT [])) fun x H1 => tv σ H1 fun y H2 => H2 p = some (.dT []) /\ ∃ b k, x = .ref b /\ H2 b = some (.tup (k.map kV)) /\ Q (.ref p) (upd H2 p (.dT [(k, y)]))
theorem b6r {k v : Expr} {tk tv : TE} {pos : Pos} (hu : X.A.units + 1 < cLine) (hk : PE X k tk) (hv : PE X v tv) : PE X (.Dict [some k] [v] pos) (c7k tk tv) := by
 intro pins s σ H Q I q
 have hn := I.hok.fresh (a0N s.heap.objs.size)
 have I1 := I.laid (a := s.heap.objs.size) (o := .dT []) (h' := s.heap.push { cls := .type "dict", data := .dict #[] }) (t' := s.toks) (fun _ _ q => a0I _ q) (a0N _) (b6i s.heap I.big)
 have pairs := c4t (X := X) (pos := pos) hk hv c8p
 have q1 := q s.heap.objs.size hn
 rw [arm_eval_Dict]
 refine a0C (a9M ?_)
 have shape : (evalEachOpt [some k] X.env).zip ((evalEach [v] X.env).map fun v => do let x <- v; standAt pos; pure x) = (pairTrees [some k] [v] X.env pos).map fun p => (some p.1, p.2) := rfl
 rw [shape, dictDisplay_pairs _ (by intro z; cases z) (by show 1 < 17; decide)]
 refine a0C ?_
 unfold subDict
 refine a0C (wpAny_alloc (a0C (a1Y ?_)))
 rw [if_pos (by show 1 <= 15; decide)]
 let G : List (V × V) -> Hp -> Prop := fun ps H2 => match ps with | [(x, y)] => H2 s.heap.objs.size = some (.dT []) /\ ∃ b k, x = .ref b /\ H2 b = some (.tup (k.map kV)) /\ Q (.ref s.heap.objs.size) (upd H2 s.heap.objs.size (.dT [(k, y)])) | _ => False
 refine a0C (thn (pairs pins _ σ _ G I1 q1) fun ws s2 ⟨ps, H2, I2, rel, g⟩ => ?_)
 obtain ⟨x, y, rfl⟩ : ∃ x y, ps = [(x, y)] := by
  cases ps with
  | nil => exact False.elim g
  | cons p ps =>
   cases ps with
   | nil => exact ⟨p.1, p.2, rfl⟩
   | cons _ _ => exact False.elim g
 obtain ⟨e, b, key, rfl, eb, q2⟩ := g
 obtain ⟨u, r, rfl, ru, rr⟩ : ∃ u r, ws = [(u, r)] /\ RelV (.ref b) u /\ RelV y r := by
  cases rel with
  | @cons _ q _ qs h t =>
   cases t
   exact ⟨q.1, q.2, rfl, h.1, h.2⟩
 cases ru
 obtain ⟨z, hd, xs, kt, dd⟩ := c8m I2.hok e
 cases kt
 refine a1Y ?_
 simp only [List.forIn_cons, List.forIn_nil]
 refine a0C (a0C (a0C (wpAny_dictSet_heap (show X.A.units < cLine by lia) (b0d I2.hok eb) dd (fun h' dd' hs => ?_) (by show 0 <= _; exact a2U _))))
 refine a0G (a0G (a0G (a0G ?_)))
 obtain ⟨o, es, ep, hq, h2, h3, h4, _, h5⟩ := dd'
 have key' : upd H2 s.heap.objs.size (.dT [(key, y)]) b = some (.tup (key.map kV)) := by
  rw [a0d (a1n eb e (fun z => nomatch z))]
  exact eb
 have ok : ObjOk X.prog X.w (upd H2 s.heap.objs.size (.dT [(key, y)])) h' s.heap.objs.size (.dT [(key, y)]) := ⟨by show 1 <= sizeLine; decide, hd, _, .cons ⟨rfl, key', rr⟩ .nil, o, es, ep, hq, h2, h3, h4, h5⟩
 exact a0G ⟨.ref s.heap.objs.size, _, b4p I2 (by rw [e]; exact True.intro) hs ⟨o, hq⟩ ok, rfl, q2⟩
end
def a8j : Sp := fun vs H Q _ => ∃ d : Addr, vs = [.ref d, .non] /\ Q .non H
def a7v (G : Hp -> Prop) (U : List (List Nat)) (L : Nat) (g : List Nat -> Nat -> List Nat) : Sp := fun vs H Q _ => ∃ (t : Addr) (x : List Nat) (l : Nat), vs = [.ref t, nv l] /\ G H /\ H t = some (.tup (x.map nv)) /\ x ∈ U /\ l < L /\ d1i H ((g x l).map nv) Q
def ThAt (H : Hp) (l : Addr) (ps : TW) : Prop := ∃ ts : List Addr, H l = some (.lst (ts.map .ref)) /\ ts.length = ps.length /\ ∀ (j : Nat) (t : Addr) (p : List Nat × List Nat), ts[j]? = some t -> ps[j]? = some p -> H t = some (.tup (p.1.map nv))
theorem ThAt.same {H H' : Hp} {l : Addr} {ps : TW} (h : ThAt H l ps) (g : Same H H') : ThAt H' l ps := by
 obtain ⟨ts, h1, h2, h3⟩ := h
 exact ⟨ts, g _ _ h1, h2, fun j t p e1 e2 => g _ _ (h3 j t p e1 e2)⟩
theorem ThAt.more {H : Hp} {l t : Addr} {ps : TW} {ts : List Addr} {p : List Nat × List Nat} (h1 : H l = some (.lst (ts.map .ref))) (h2 : ts.length = ps.length) (h3 : ∀ (j : Nat) (t : Addr) (p : List Nat × List Nat), ts[j]? = some t -> ps[j]? = some p -> H t = some (.tup (p.1.map nv))) (ht : H t = some (.tup (p.1.map nv))) :
  ThAt (upd H l (.lst (ts.map .ref ++ [.ref t]))) l (ps ++ [p]) := by
 have nl : ∀ {a : Addr} {xs : List V}, H a = some (.tup xs) -> a ≠ l := fun h => a1n h h1 fun e => nomatch e
 refine ⟨ts ++ [t], by rw [a0a, a1M]; rfl, by simp [h2], fun j a q e1 e2 => ?_⟩
 by_cases hj : j < ps.length
 ·rw [a0P (by lia)] at e1
  rw [a0P hj] at e2
  have z := h3 j a q e1 e2
  rw [a0d (nl z)]
  exact z
 ·rw [a0T (by lia)] at e1
  rw [a0T (by lia)] at e2
  have z : j - ps.length = 0 := by
   have := (a0B.mp e2).1
   simp at this
   lia
  rw [h2, z] at e1
  rw [z] at e2
  cases e1
  cases e2
  rw [a0d (nl ht)]
  exact ht
structure Srch (H0 H : Hp) (D wa fa : Addr) (ts : List Addr) (ws wv fo : TW) (as : List Addr) : Prop where
 g : Same H0 H
 nD : H0 D = none
 nF : H0 fa = none
 W : WordsAt H D ws as
 wl : H wa = some (.lst (ts.map .ref))
 wt : ∀ (j : Nat) (t : Addr) (p : List Nat × List Nat), ts[j]? = some t -> wv[j]? = some p -> H t = some (.tup (p.1.map nv))
 foll : ThAt H fa fo
 wf : wa ≠ fa
 fas : fa ∉ as
 new : ∀ b ∈ as, H0 b = none
theorem Srch.same {H0 H H' : Hp} {D wa fa : Addr} {ts : List Addr} {ws wv fo : TW} {as : List Addr} (S : Srch H0 H D wa fa ts ws wv fo as) (k : Same H H') : Srch H0 H' D wa fa ts ws wv fo as :=
 ⟨S.g.trans k, S.nD, S.nF, S.W.same k, k _ _ S.wl, fun j t p h1 h2 => k _ _ (S.wt j t p h1 h2), S.foll.same k, S.wf, S.fas, S.new⟩
theorem Srch.more {H0 H : Hp} {D wa fa l t : Addr} {tw : List Addr} {ws wv fo : TW} {as ts : List Addr} {p : List Nat × List Nat} (S : Srch H0 H D wa fa tw ws wv fo as) (hl : H l = some (.lst (p.2.map nv))) (lf : l ≠ fa) (l0 : H0 l = none) (ht : H t = some (.tup (p.1.map nv)))
  (e1 : H fa = some (.lst (ts.map .ref))) (e2 : ts.length = fo.length) (e3 : ∀ (j : Nat) (t : Addr) (p : List Nat × List Nat), ts[j]? = some t -> fo[j]? = some p -> H t = some (.tup (p.1.map nv))) :
  Srch H0 (upd (upd H D (.dT (a3p ws as ++ [(nk p.1, .ref l)]))) fa (.lst (ts.map .ref ++ [.ref t]))) D wa fa tw (ws ++ [p]) wv (fo ++ [p]) (as ++ [l]) := by
 have fD : fa ≠ D := a1n e1 S.W.dict fun e => nomatch e
 have tD : ∀ {a : Addr} {xs : List V}, H a = some (.tup xs) -> a ≠ D := fun h => a1n h S.W.dict fun e => nomatch e
 have wD : wa ≠ D := a1n S.wl S.W.dict fun e => nomatch e
 have tF : ∀ {a : Addr} {xs : List V}, H a = some (.tup xs) -> a ≠ fa := fun h => a1n h e1 fun e => nomatch e
 have W1 := S.W.put (l := l) (p := p) hl
 have f1 : (upd H D (.dT (a3p ws as ++ [(nk p.1, .ref l)]))) fa = some (.lst (ts.map .ref)) := by rw [a0d fD]; exact e1
 refine ⟨a1t (a1t S.g S.nD) S.nF, S.nD, S.nF, ⟨W1.len, ?_, fun j a q h1 h2 => ?_⟩, ?_, fun j a q h1 h2 => ?_, ?_, S.wf, ?_, fun b hb => (a0K.mp hb).elim (S.new b) fun m => by rw [a0F.mp m]; exact l0⟩
 ·rw [a0d (a3R fD)]
  exact W1.dict
 ·have na : a ≠ fa := fun z => by
   subst z
   rcases a0K.mp (a0H h1) with m | m
   ·exact S.fas m
   ·exact lf (a0F.mp m).symm
  rw [a0d na]
  exact W1.list j a q h1 h2
 ·rw [a0d S.wf, a0d wD]
  exact S.wl
 ·have z := S.wt j a q h1 h2
  rw [a0d (tF z), a0d (tD z)]
  exact z
 ·refine ThAt.more f1 e2 (fun j a q h1 h2 => ?_) ?_
  ·have z := e3 j a q h1 h2
   rw [a0d (tD z)]
   exact z
  ·rw [a0d (tD ht)]
   exact ht
 ·intro m
  rcases a0K.mp m with m | m
  ·exact S.fas m
  ·exact lf (a0F.mp m).symm
section
variable {X : Cx} {H0 : Hp} {a st D wa fa : Addr} {sd : FuncData} {ps : List Str} {x0 : List Nat} {L : Nat} {U : List (List Nat)} {g : List Nat -> Nat -> List Nat}
abbrev d1x (X : Cx) : TS := c4h (c4n (c7g X 2 (a7e (a7s 7) (a7e (a7s 8) b9t))) (a4z 9)) (tIfS (tB (c0q (a7s 9) (a7s 4)))
 (c4h (d1e (a7s 4) (a7s 9) (tOp (d1l X.K) (d1d (a7s 4) (a7s 7)) (d0w (a7e (a7s 8) b9t)))) (c4h (c4l (c4q a8j [] E0 (a7e (a7s 4) (a7e (a7s 3) b9t)))) (c4l (tBM X.K "list" c0i (a7s 6) (a7e (a7s 9) b9t))))) d0n)
theorem c2a {d i j : Nat} {ws wv fo : TW} {as ts : List Addr} {th : Addr} {t : List Nat × List Nat} {H : Hp} {En : Ends} {o9 : Option V} (hr : Room 5 X.A) (hst : H0 st = some (b1b st sd)) (h0 : x0 ∈ U) (hU : ∀ x ∈ U, ∀ l, l < L -> g x l ∈ U) (few : U.length <= 4000)
  (hF : FnOk X.prog X.w X.K X.mg X.base CX0 5 st sd ps (a7v (Same H0) U L g)) (hB : Binds X.K sd ps []) (B : Bfs g L x0 d ws wv fo i j) (ht : wv[i]? = some t) (hj : j < L) (hd : d + 1 <= ws.length) (S : Srch H0 H D wa fa ts ws wv fo as) (hth : H th = some (.tup (t.1.map nv)))
  (next : ∀ ws' fo' as' H' v, Bfs g L x0 d ws' wv fo' i (j + 1) -> Srch H0 H' D wa fa ts ws' wv fo' as' -> ws'.length + fo.length = ws.length + fo'.length -> H' th = some (.tup (t.1.map nv)) -> En.nx [some (.ref a), some (nv L), some (.ref st), some .non, some (.ref D), some (.ref wa), some (.ref fa), some (.ref th), some (nv j), some v] H') :
  d1x X En [some (.ref a), some (nv L), some (.ref st), some .non, some (.ref D), some (.ref wa), some (.ref fa), some (.ref th), some (nv j), o9] H := by
 have tw := (B.wave t (a0H ht)).1
 have tU : t.1 ∈ U := by
  obtain ⟨r1, r2⟩ := B.run t tw
  rw [<- r2]
  exact a6g h0 hU t.2 r1
 have fewW : ws.length <= 4000 := by
  have z : (ws.map (·.1)).length <= U.length := a6t B.keys fun x hx => by
   obtain ⟨p, hp, rfl⟩ := a0M.mp hx
   obtain ⟨r1, r2⟩ := B.run p hp
   rw [<- r2]
   exact a6g h0 hU p.2 r1
  rw [a0D] at z
  lia
 refine ⟨_, rfl, st, sd, rfl, S.g _ _ hst, _, rfl, _, rfl, S.g _ _ hst, 5, ps, _, hF, hr, hB, th, t.1, j, rfl, S.g, hth, tU, hj, fun fn H1 g1 e1 => ?_⟩
 have S1 := S.same g1
 have hth1 := g1 _ _ hth
 refine ⟨_, rfl, _, rfl, D, _, rfl, DGet.t S1.W.dict (by rw [a5y]; exact e1), _, rfl, ?_⟩
 by_cases hm : g t.1 j ∈ ws.map (·.1)
 ·obtain ⟨p, hp, e⟩ := a0M.mp hm
  obtain ⟨c, v1, _⟩ := S1.W.word B.keys hp
  rw [<- e, v1]
  rw [if_neg (by simp)]
  exact next ws fo as H1 _ (B.old ht hm) S1 rfl hth1
 ·rw [b3f hm]
  refine b2e ?_
  obtain ⟨tw, tl⟩ := B.wave t (a0H ht)
  obtain ⟨c, v1, v2⟩ := S1.W.word B.keys tw
  have dg : DGet H1 D (.ref th) (some (.ref c)) := v1 ▸ DGet.t S1.W.dict (by rw [a5y]; exact hth1)
  refine ⟨_, rfl, _, rfl, D, _, rfl, dg, _, rfl, by show 1 <= sizeLine; decide, fun p hp => ?_⟩
  have k2 := a0c hp (.lst [nv j])
  refine ⟨c, p, _, _, rfl, rfl, SqL.of (k2 _ _ v2), SqL.of a0a, by rw [a0D, tl, a1B]; show d + 1 <= _; lia, fun l hl => ?_⟩
  have k3 := k2.trans (a0c hl (.lst (t.2.map nv ++ [nv j])))
  have S3 := S1.same k3
  have e3 := k3 _ _ e1
  have hl3 : upd (upd H1 p (.lst [nv j])) l (.lst (t.2.map nv ++ [nv j])) l = some (.lst ((t.2 ++ [j]).map nv)) := by rw [a0a, a1M]; rfl
  have hth3 := k3 _ _ hth1
  obtain ⟨tf, f1, f2, f3⟩ := S3.foll
  have lf : l ≠ fa := fun z => by
   obtain ⟨_, q1, _⟩ := S1.foll
   have q2 := k2 _ _ q1
   rw [<- z, hl] at q2
   cases q2
  generalize upd (upd H1 p (.lst [nv j])) l (.lst (t.2.map nv ++ [nv j])) = H3 at S3 e3 hl3 hth3 f1 f3 ⊢
  refine ⟨_, rfl, _, rfl, D, _, rfl, DPut.t S3.W.dict (by rw [a5y]; exact e3) (by rw [c1y S3.W.len, a1B]; lia), ?_⟩
  rw [b0x _ (b3f hm)]
  have fD : fa ≠ D := a1n f1 S3.W.dict fun e => nomatch e
  have thD : th ≠ D := a1n hth3 S3.W.dict fun e => nomatch e
  have thF : th ≠ fa := a1n hth3 f1 fun e => nomatch e
  have ffD : (upd H3 D (.dT (a3p ws as ++ [(nk (g t.1 j), .ref l)]))) fa = some (.lst (tf.map .ref)) := by rw [a0d fD]; exact f1
  have fl : tf.length <= 4000 := by
   have z : (fo.map (·.1)).length <= ws.length := by
    rw [<- a0D (f := (·.1)) (as := ws)]
    refine a6t ?_ fun x hx => ?_
    ·refine (a4F.mpr (B.fup.imp_of_mem fun {p q} hp hq h z => ?_))
     have r1 := (B.run p (B.foll p hp).1).2
     have r2 := (B.run q (B.foll q hq).1).2
     obtain ⟨i1, e1⟩ := a1C.mp (B.foll p hp).1
     obtain ⟨i2, e2⟩ := a1C.mp (B.foll q hq).1
     have ii : i1 = i2 := (a2P (by rw [a0D]; exact (a0B.mp e1).1) B.keys).mp (by rw [a0E, a0E, e1, e2]; exact a2C some z)
     subst ii
     rw [e1] at e2
     cases e2
     exact d1t h
    ·obtain ⟨p, hp, rfl⟩ := a0M.mp hx
     exact a0M.mpr ⟨p, (B.foll p hp).1, rfl⟩
   rw [a0D] at z
   lia
  refine ⟨_, rfl, _, rfl, D, rfl, _, rfl, .inl ⟨rfl, _, SqL.of ffD⟩, _, rfl, fa, _, _, rfl, rfl, ffD, by rw [a0D, a1B]; lia, ?_⟩
  exact next (ws ++ [(g t.1 j, t.2 ++ [j])]) (fo ++ [(g t.1 j, t.2 ++ [j])]) (as ++ [l]) _ _ (B.new ht hj hm) (S3.more (p := (g t.1 j, t.2 ++ [j])) hl3 lf ((S1.g.trans k2).free hl) e3 f1 f2 f3) (by simp; lia) (by rw [a0d thF, a0d thD]; exact hth3)
abbrev d1y (X : Cx) : TS := tFor (d0q X.K (a7s 5)) (a4z 7) (tFor (d0r (a7e (a7s 1) b9t)) (a4z 8) (d1x X))
theorem c2b {d : Nat} {ws0 wv : TW} {as0 ts : List Addr} {H : Hp} {En : Ends} {o7 o8 o9 : Option V} (hr : Room 5 X.A) (hst : H0 st = some (b1b st sd)) (h0 : x0 ∈ U) (hU : ∀ x ∈ U, ∀ l, l < L -> g x l ∈ U) (few : U.length <= 4000) (fewL : L <= 4000)
  (hF : FnOk X.prog X.w X.K X.mg X.base CX0 5 st sd ps (a7v (Same H0) U L g)) (hB : Binds X.K sd ps []) (B : Bfs g L x0 d ws0 wv [] 0 0) (hd : d + 1 <= ws0.length) (S : Srch H0 H D wa fa ts ws0 wv [] as0) (lt : ts.length = wv.length)
  (next : ∀ ws fo as H' o7 o8 o9, Bfs g L x0 d ws wv fo wv.length 0 -> Srch H0 H' D wa fa ts ws wv fo as -> ws.length = ws0.length + fo.length -> En.nx [some (.ref a), some (nv L), some (.ref st), some .non, some (.ref D), some (.ref wa), some (.ref fa), o7, o8, o9] H') :
  d1y X En [some (.ref a), some (nv L), some (.ref st), some .non, some (.ref D), some (.ref wa), some (.ref fa), o7, o8, o9] H := by
 let Pv : Nat -> L2.St -> Hp -> Prop := fun i σ H' => ∃ ws fo as o7 o8 o9, Bfs g L x0 d ws wv fo i 0 /\ Srch H0 H' D wa fa ts ws wv fo as /\ ws.length = ws0.length + fo.length /\
  σ = [some (.ref a), some (nv L), some (.ref st), some .non, some (.ref D), some (.ref wa), some (.ref fa), o7, o8, o9]
 refine ⟨_, rfl, wa, rfl, ⟨_, SqL.of S.wl⟩, a3x (xs := ts.map .ref) Pv ⟨ws0, [], as0, o7, o8, o9, B, S, by simp, rfl⟩ (fun i σ H' _ p => ?_) (fun i x σ H' hx p => ?_) (fun σ H' p => ?_)⟩
 ·obtain ⟨_, _, _, _, _, _, _, S1, _⟩ := p
  exact SqL.of S1.wl
 ·obtain ⟨ws, fo, as, p7, p8, p9, B1, S1, l1, rfl⟩ := p
  rw [a0E] at hx
  obtain ⟨th, eth, rfl⟩ := a0O.mp hx
  obtain ⟨hi, _⟩ := a0B.mp eth
  obtain ⟨t, ht⟩ : ∃ t, wv[i]? = some t := ⟨_, a0A (by lia)⟩
  let Pj : Nat -> L2.St -> Hp -> Prop := fun j σ H2 => ∃ ws fo as o8 o9, Bfs g L x0 d ws wv fo i j /\ Srch H0 H2 D wa fa ts ws wv fo as /\ ws.length = ws0.length + fo.length /\
   σ = [some (.ref a), some (nv L), some (.ref st), some .non, some (.ref D), some (.ref wa), some (.ref fa), some (.ref th), o8, o9]
  refine ⟨_, rfl, (L : Int), rfl, by lia, by lia, a6n Pj ⟨ws, fo, as, p8, p9, B1, S1, l1, rfl⟩ (fun j σ H2 hj p => ?_) (fun σ H2 p => ?_)⟩
  ·obtain ⟨ws', fo', as', q8, q9, B2, S2, l2, rfl⟩ := p
   have z : (0 : Int) + ((j : Nat) : Int) = ((j : Nat) : Int) := by lia
   rw [z]
   refine c2a (t := t) hr hst h0 hU few hF hB B2 ht (by simpa using hj) (by lia) S2 (S2.wt i th t eth ht) fun w3 f3 a3 H3 v B3 S3 l3 _ => ⟨w3, f3, a3, _, _, B3, S3, by lia, rfl⟩
  ·obtain ⟨ws', fo', as', q8, q9, B2, S2, l2, rfl⟩ := p
   exact ⟨ws', fo', as', _, _, _, Bfs.next (by simpa using B2) ht, S2, l2, rfl⟩
 ·obtain ⟨ws, fo, as, p7, p8, p9, B1, S1, l1, rfl⟩ := p
  rw [a0D, lt] at B1
  exact next ws fo as H' p7 p8 p9 B1 S1 l1
abbrev d1z (X : Cx) : TS := c4h (c4n (c7k (a7s 0) (d0w b9t)) (a4z 4)) (c4h (c4l (c4q a8j [] E0 (a7e (a7s 4) (a7e (a7s 3) b9t)))) (c4h (c4n (d0w (a7e (a7s 0) b9t)) (a4z 5))
 (c4h (c6u (fun σ H_1 Q => a7s 5 σ H_1 fun x H' => ∃ k, TruV X.K x H' k /\ Q k H') (c4h (c4n (d0w b9t) (a4z 6)) (c4h (d1y X) (c4n (a7s 6) (a4z 5))))) (tRet (a7s 4)))))
theorem d2a {d i j : Nat} {ws wv fo : TW} (h0 : x0 ∈ U) (hU : ∀ x ∈ U, ∀ l, l < L -> g x l ∈ U) (B : Bfs g L x0 d ws wv fo i j) : ws.length <= U.length := by
 rw [<- a0D (f := (·.1)) (as := ws)]
 exact a6t B.keys fun x hx => by
  obtain ⟨p, hp, rfl⟩ := a0M.mp hx
  obtain ⟨r1, r2⟩ := B.run p hp
  rw [<- r2]
  exact a6g h0 hU p.2 r1
theorem b8t {En : Ends} (hr : Room 5 X.A) (ha : H0 a = some (.tup (x0.map nv))) (hst : H0 st = some (b1b st sd)) (h0 : x0 ∈ U) (hU : ∀ x ∈ U, ∀ l, l < L -> g x l ∈ U) (few : U.length <= 4000) (fewL : L <= 4000)
  (hF : FnOk X.prog X.w X.K X.mg X.base CX0 5 st sd ps (a7v (Same H0) U L g)) (hB : Binds X.K sd ps []) (q : ∀ D ws as H', Same H0 H' -> WordsAt H' D ws as -> (∀ b ∈ D :: as, H0 b = none) -> Told g L x0 ws -> En.rt (.ref D) H') :
  d1z X En [some (.ref a), some (nv L), some (.ref st), some .non, none, none, none, none, none, none] H0 := by
 intro D hD
 have kD := a0c hD (.dT [])
 refine ⟨_, rfl, by show 0 <= sizeLine; decide, fun l hl => ?_⟩
 have kl := a0c hl (.lst [])
 refine ⟨kl _ _ a0a, a, nk x0, rfl, by rw [a5y]; exact (kD.trans kl) _ _ ha, ?_⟩
 have lD : l ≠ D := fun z => by
  subst z
  rw [a0a] at hl
  cases hl
 have W0 : WordsAt (upd (upd (upd H0 D (.dT [])) l (.lst [])) D (.dT [(nk x0, .ref l)])) D [(x0, [])] [l] := ⟨rfl, a0a, fun j b p h1 h2 => by
  cases j with
  | zero =>
   cases h1
   cases h2
   rw [a0d lD, a0a]
   rfl
  | succ j => simp at h1⟩
 have g0 : Same H0 (upd (upd (upd H0 D (.dT [])) l (.lst [])) D (.dT [(nk x0, .ref l)])) := a1t (kD.trans kl) hD
 generalize upd (upd (upd H0 D (.dT [])) l (.lst [])) D (.dT [(nk x0, .ref l)]) = H1 at W0 g0 ⊢
 refine ⟨_, rfl, _, rfl, D, rfl, _, rfl, by show 1 <= sizeLine; decide, fun wa hw => ?_⟩
 have kw := a0c hw (.lst [.ref a])
 let Wv : Nat -> L2.St -> Hp -> Prop := fun m σ H => ∃ (d : Nat) (ws wv : TW) (as : List Addr) (wa : Addr) (ts : List Addr) (o6 o7 o8 o9 : Option V), Bfs g L x0 d ws wv [] 0 0 /\ WordsAt H D ws as /\ H wa = some (.lst (ts.map .ref)) /\ (∀ (j : Nat) (t : Addr) (p : List Nat × List Nat), ts[j]? = some t -> wv[j]? = some p -> H t = some (.tup (p.1.map nv))) /\ ts.length = wv.length /\ Same H0 H /\ (∀ b ∈ as, H0 b = none) /\
   (wv ≠ [] -> d + 1 <= ws.length) /\ m = 2 * (U.length - ws.length) + (if wv = [] then 0 else 1) /\ σ = [some (.ref a), some (nv L), some (.ref st), some .non, some (.ref D), some (.ref wa), o6, o7, o8, o9]
 refine ⟨Wv, ⟨_, 0, [(x0, [])], [(x0, [])], [l], wa, [a], none, none, none, none, Bfs.start, W0.same kw, a0a, ?_, rfl, g0.trans kw, fun b hb => (by rw [a0F.mp hb]; exact kD.free hl), fun _ => a0N _, rfl, rfl⟩, fun m σ H P => ?_⟩
 ·intro j t p h1 h2
  cases j with
  | zero =>
   cases h1
   cases h2
   exact (g0.trans kw) _ _ ha
  | succ j => simp at h1
 ·obtain ⟨d, ws, wv, as, wa, ts, o6, o7, o8, o9, B, W, wl, wt, lt, gg, nw, deep, hm, rfl⟩ := P
  refine ⟨_, rfl, !(ts.map V.ref).isEmpty, .inl ⟨_, SqL.of wl, rfl⟩, ?_⟩
  by_cases hwv : wv = []
  ·subst hwv
   have e : ts = [] := a2V.mp lt
   subst e
   rw [if_neg (by simp)]
   exact ⟨_, rfl, q D ws as H gg W (fun b hb => (a1H.mp hb).elim (fun e => e ▸ hD) (nw b)) B.told⟩
  ·have ne : ts ≠ [] := fun z => hwv (a2V.mp (by rw [<- lt, z]; rfl))
   have c1 : (!(ts.map V.ref).isEmpty) = true := by
    cases ts with
    | nil => exact absurd rfl ne
    | cons => rfl
   rw [c1]
   refine b2e ?_
   refine ⟨fun σ' H' => ∃ m', m' < m /\ Wv m' σ' H', fun σ' H' h => h, by show 0 <= sizeLine; decide, fun fa hfa => ?_⟩
   have kf := a0c hfa (.lst [])
   have fas : fa ∉ as := fun m => by
    obtain ⟨j, e⟩ := a1C.mp m
    obtain ⟨hj, _⟩ := a0B.mp e
    have z := W.list j fa _ e (a0A (by rw [<- W.len]; exact hj))
    rw [hfa] at z
    cases z
   have S : Srch H0 (upd H fa (.lst [])) D wa fa ts ws wv [] as := ⟨gg.trans kf, hD, gg.free hfa, W.same kf, kf _ _ wl, fun j t p h1 h2 => kf _ _ (wt j t p h1 h2), ⟨[], a0a, rfl, fun j t p h1 _ => by simp at h1⟩, a0h wl hfa, fas, nw⟩
   refine c2b (En := { En with nx := _, ct := _, bk := _ }) hr hst h0 hU few fewL hF hB B (deep hwv) S lt fun ws' fo as' H' p7 p8 p9 B' S' l' => ?_
   obtain ⟨tf, f1, f2, f3⟩ := S'.foll
   have z1 := d2a h0 hU B'
   have z2 := deep hwv
   refine ⟨_, rfl, 2 * (U.length - ws'.length) + (if fo = [] then 0 else 1), ?_, d + 1, ws', fo, as', fa, tf, _, _, _, _, B'.wave', S'.W, f1, f3, f2, S'.g, S'.new, fun nf => ?_, rfl, rfl⟩
   ·rw [hm, if_neg hwv]
    by_cases hf : fo = []
    ·subst hf
     rw [if_pos rfl]
     simp at l'
     lia
    ·have := List.length_pos_iff.mpr hf
     rw [if_neg hf]
     lia
   ·have := List.length_pos_iff.mpr nf
    lia
end
structure Que (f : List Nat -> Nat -> List Nat) (L : Nat) (x0 : List Nat) (ws : TW) (i j : Nat) : Prop where
 head : ws[0]? = some (x0, [])
 keys : (ws.map (·.1)).Nodup
 run : ∀ p ∈ ws, (∀ l ∈ p.2, l < L) /\ a0z f x0 p.2 = p.1
 up : ws.Pairwise fun p q => sl p.2 q.2
 done : ∀ (a : Nat) p, a < i -> ws[a]? = some p -> ∀ l, l < L -> Goes f ws p l
 part : ∀ p, ws[i]? = some p -> ∀ l, l < j -> Goes f ws p l
 front : ∀ t, ws[i]? = some t -> ∀ p ∈ ws, sl p.2 (t.2 ++ [j])
 short : ∀ (a : Nat) p, ws[a]? = some p -> p.2.length <= a
section
variable {f : List Nat -> Nat -> List Nat} {L : Nat} {x0 : List Nat} {ws : TW} {i j : Nat} {t : List Nat × List Nat}
theorem Que.start : Que f L x0 [(x0, [])] 0 0 where
 head := rfl
 keys := by simp
 run := fun p hp => by
  rw [a0F.mp hp]
  exact ⟨fun l hl => (nomatch hl), rfl⟩
 up := a2R _ _
 done := fun a p h => absurd h (a4K _)
 part := fun p _ l h => absurd h (a4K _)
 front := fun t _ p hp => by
  rw [a0F.mp hp]
  exact .inl (by simp)
 short := fun a p h => by
  have z : p ∈ [(x0, ([] : List Nat))] := a0H h
  rw [a0F.mp z]
  exact a2U _
theorem Que.old (q : Que f L x0 ws i j) (ht : ws[i]? = some t) (h : f t.1 j ∈ ws.map (·.1)) : Que f L x0 ws i (j + 1) := by
 refine ⟨q.head, q.keys, q.run, q.up, q.done, fun p hp l hl => ?_, fun t' ht' p hp => ?_, q.short⟩
 ·by_cases e : l < j
  ·exact q.part p hp l e
  ·have e' : l = j := by lia
   subst e'
   rw [ht] at hp
   cases hp
   obtain ⟨r, hr, er⟩ := a0M.mp h
   exact ⟨r.2, by rw [<- er]; exact hr, .inr (q.front t ht r hr)⟩
 ·rw [ht] at ht'
  cases ht'
  exact a4n (q.front t ht p hp) (a7l _ (a4B _))
theorem Que.new (q : Que f L x0 ws i j) (ht : ws[i]? = some t) (hj : j < L) (h : f t.1 j ∉ ws.map (·.1)) : Que f L x0 (ws ++ [(f t.1 j, t.2 ++ [j])]) i (j + 1) := by
 obtain ⟨li, _⟩ := a0B.mp ht
 have at1 : ∀ {a : Nat} {p : List Nat × List Nat}, a <= i -> (ws ++ [(f t.1 j, t.2 ++ [j])])[a]? = some p -> ws[a]? = some p := fun {a p} ha e => by
  rwa [a0P (by lia)] at e
 refine ⟨?_, ?_, fun p hp => ?_, ?_, fun a p ha hp l hl => ?_, fun p hp l hl => ?_, fun t' ht' p hp => ?_, fun a p hp => ?_⟩
 ·rw [a0P (by lia)]
  exact q.head
 ·rw [a1M, a6L]
  refine ⟨q.keys, by simp, fun x hx y hy => ?_⟩
  have e : y = f t.1 j := by simpa using hy
  subst e
  exact fun z => h (z ▸ hx)
 ·rcases a0K.mp hp with z | z
  ·exact q.run p z
  ·rw [a0F.mp z]
   obtain ⟨r1, r2⟩ := q.run t (a0H ht)
   refine ⟨fun l hl => ?_, ?_⟩
   ·rcases a0K.mp hl with y | y
    ·exact r1 l y
    ·rw [a0F.mp y]
     exact hj
   ·show (t.2 ++ [j]).foldl f x0 = f t.1 j
    rw [a3U, <- r2]
    rfl
 ·refine a1O.mpr ⟨q.up, a2R _ _, fun p hp r hr => ?_⟩
  rw [a0F.mp hr]
  exact q.front t ht p hp
 ·exact (q.done a p ha (at1 (by lia) hp) l hl).more
 ·have hp' := at1 (a0N _) hp
  by_cases e : l < j
  ·exact (q.part p hp' l e).more
  ·have e' : l = j := by lia
   subst e'
   rw [ht] at hp'
   cases hp'
   exact ⟨_, a0X _ (a0F.mpr rfl), .inl rfl⟩
 ·have e := at1 (a0N _) ht'
  rw [ht] at e
  cases e
  rcases a0K.mp hp with z | z
  ·exact a4n (q.front t ht p z) (a7l _ (a4B _))
  ·rw [a0F.mp z]
   exact a7l _ (a4B _)
 ·by_cases e : a < ws.length
  ·rw [a0P e] at hp
   exact q.short a p hp
  ·have la := (a0B.mp hp).1
   rw [a0Z] at la
   have ea : a = ws.length := by
    have : a < ws.length + 1 := la
    lia
   rw [ea, a0T (a0N _), a9C] at hp
   cases hp
   have := q.short i t ht
   simp
   lia
theorem Que.next (q : Que f L x0 ws i L) (ht : ws[i]? = some t) : Que f L x0 ws (i + 1) 0 := by
 refine ⟨q.head, q.keys, q.run, q.up, fun a p ha hp => ?_, fun p _ l hl => absurd hl (a4K _), fun t' ht' p hp => ?_, q.short⟩
 ·by_cases e : a < i
  ·exact q.done a p e hp
  ·have e' : a = i := by lia
   subst e'
   exact q.part p hp
 ·obtain ⟨l1, e1⟩ := a0B.mp ht
  obtain ⟨l2, e2⟩ := a0B.mp ht'
  have up := a2H.mp q.up i (i + 1) l1 l2 (a4B _)
  rw [e1, e2] at up
  exact a4n (q.front t ht p hp) (b4x up)
theorem Que.told (q : Que f L x0 ws i j) (h : ws.length <= i) : Told f L x0 ws := by
 refine ⟨q.head, q.keys, q.run, q.up, fun p hp => ?_, fun p hp => ?_⟩
 ·obtain ⟨a, e⟩ := a1C.mp hp
  exact q.done a p (by have := (a0B.mp e).1; lia) e
 ·obtain ⟨a, e⟩ := a1C.mp hp
  have := (a0B.mp e).1
  have := q.short a p e
  lia
end
theorem c9a {ws : TW} {as : List Addr} {k : List Key} {a : Addr} (h : a9v (a3p ws as) k = some (.ref a)) : a ∈ as := by
 unfold a9v at h
 obtain ⟨kv, h1, h2⟩ := a0O.mp h
 obtain ⟨i, hi⟩ := a1C.mp (List.mem_of_find?_eq_some h1)
 unfold a3p at hi
 rw [List.getElem?_zipWith] at hi
 cases e1 : ws[i]? with
 | none => rw [e1] at hi; cases hi
 | some p =>
  cases e2 : as[i]? with
  | none => rw [e1, e2] at hi; cases hi
  | some b =>
   rw [e1, e2] at hi
   cases hi
   cases h2
   exact a0H e2
section
variable {X : Cx}
def rInD (K : W.Frag) (neg : Bool) : R2 := fun x y H Q => ∃ (l : Addr) (n : Nat) (d : Dt) (ds : List Dt) (xs : List V), y = .ref l /\ SqL K H l xs /\ xs.length = ds.length /\ Rep K H n d x /\ (∀ (i : Nat) d' v, ds[i]? = some d' -> xs[i]? = some v -> Rep K H n d' v) /\ n <= 30 /\ ∀ b, (b = true ↔ d ∈ ds) -> Q (.bl (if neg then !b else b)) H
theorem b6s {K : W.Frag} {H : Hp} {n : Nat} {d d' : Dt} {y z : V} {u : Value} (hy : Rep K H n d y) (hz : Rep K H n d' z) (r1 : RelV y u) (r2 : RelV z u) : y = z := by
 have ry : ∀ {y : V} {d : Dt}, Rep K H n d y -> RelV y u -> (y = .non /\ u = .none) ∨ (∃ i t, y = .int i /\ u = .int i t) ∨ (∃ x t, y = .str x /\ u = .str x t) ∨ ∃ a, y = .ref a /\ u = .ref a := fun h r => by
  cases h with
  | non => exact .inl ⟨rfl, r⟩
  | int _ i =>
   obtain ⟨t, e⟩ := r
   exact .inr (.inl ⟨i, t, rfl, e⟩)
  | str _ x =>
   obtain ⟨t, e⟩ := r
   exact .inr (.inr (.inl ⟨x, t, rfl, e⟩))
  | lst => exact .inr (.inr (.inr ⟨_, rfl, r⟩))
  | tup => exact .inr (.inr (.inr ⟨_, rfl, r⟩))
 rcases ry hy r1 with ⟨rfl, e⟩ | ⟨i, t, rfl, e⟩ | ⟨x, t, rfl, e⟩ | ⟨a, rfl, e⟩ <;> rcases ry hz r2 with ⟨rfl, e'⟩ | ⟨i', t', rfl, e'⟩ | ⟨x', t', rfl, e'⟩ | ⟨a', rfl, e'⟩ <;> rw [e] at e' <;> cases e' <;> rfl
theorem d2b {pins : List (Addr × Obj)} {σ : St} {H : Hp} {s : Shared} {x : V} {v : Value} {n : Nat} {d : Dt} {ds : List Dt} {xs : List V} {its : List Value} (hu : X.A.units + 64 < cLine) (I : Inv X pins σ H s) (rx : RelV x v) (r : Vals xs its) (hl : xs.length = ds.length) (hd : Rep X.K H n d x)
  (hi : ∀ (i : Nat) d' v, ds[i]? = some d' -> xs[i]? = some v -> Rep X.K H n d' v) (hn : n <= 30) : ∃ e : Value -> Bool, (∀ u ∈ its, SeqAt.EqAt X.A.in1 s u v (e u)) /\ (its.any e = true ↔ d ∈ ds) := by
 have one : ∀ (i : Nat) u, its[i]? = some u -> ∃ b d', ds[i]? = some d' /\ SeqAt.EqAt X.A.in1 s u v b /\ (b = true ↔ d' = d) := fun i u hu' => by
  obtain ⟨h1, _⟩ := a0B.mp hu'
  have h2 := r.length
  obtain ⟨y, ey⟩ : ∃ y, xs[i]? = some y := ⟨_, a0A (by lia)⟩
  obtain ⟨d', ed⟩ : ∃ d', ds[i]? = some d' := ⟨_, a0A (by lia)⟩
  obtain ⟨u', eu, ru⟩ := Vals.get r ey
  rw [hu'] at eu
  cases eu
  obtain ⟨b, h3, h4⟩ := b2v I n (A := X.A.in1) (by show X.A.units + 1 + n < cLine; lia) (hi i d' y ed ey) hd ru rx
  exact ⟨b, d', ed, h3, h4⟩
 have each : ∀ u, ∃ b, (∃ i : Nat, its[i]? = some u) -> SeqAt.EqAt X.A.in1 s u v b /\ ∃ (i : Nat) (d' : Dt), its[i]? = some u /\ ds[i]? = some d' /\ (b = true ↔ d' = d) := fun u => by
  by_cases h : ∃ i : Nat, its[i]? = some u
  ·obtain ⟨i, hi'⟩ := h
   obtain ⟨b, d', h1, h2, h3⟩ := one i u hi'
   exact ⟨b, fun _ => ⟨h2, i, d', hi', h1, h3⟩⟩
  ·exact ⟨true, fun z => absurd z h⟩
 refine ⟨fun u => Classical.choose (each u), fun u hu' => (a3T (each u) (a1C.mp hu')).1, ?_⟩
 rw [a8C]
 constructor
 ·rintro ⟨u, hu', hb⟩
  obtain ⟨_, i, d', h1, h2, h3⟩ := a3T (each u) (a1C.mp hu')
  rw [<- h3.mp hb]
  exact a0H h2
 ·intro hm
  obtain ⟨i, ed⟩ := a1C.mp hm
  obtain ⟨h1, _⟩ := a0B.mp ed
  have h2 := r.length
  obtain ⟨u, eu⟩ : ∃ u, its[i]? = some u := ⟨_, a0A (by lia)⟩
  refine ⟨u, a0H eu, ?_⟩
  obtain ⟨_, j, d', g1, g2, g3⟩ := a3T (each u) ⟨i, eu⟩
  refine g3.mpr ?_
  obtain ⟨y, ey⟩ : ∃ y, xs[i]? = some y := ⟨_, a0A (by lia)⟩
  obtain ⟨h4, _⟩ := a0B.mp g2
  obtain ⟨z, ez⟩ : ∃ z, xs[j]? = some z := ⟨_, a0A (by lia)⟩
  obtain ⟨u1, e1, r1⟩ := Vals.get r ey
  obtain ⟨u2, e2, r2⟩ := Vals.get r ez
  rw [eu] at e1
  rw [g1] at e2
  cases e1
  cases e2
  have yz : y = z := b6s (hi i d y ed ey) (hi j d' z g2 ez) r1 r2
  subst yz
  exact b4u I n (hi j d' y g2 ez) (hi i d y ed ey)
theorem b3i (hu : X.A.units + 64 < cLine) : OpR X (compareOp .NotIn) (rInD X.K true) := by
 intro pins s σ H x y v u Q I rx ry h
 obtain ⟨l, n, d, ds, xs, rfl, hq, hl, hd, hi, hn, q⟩ := h
 cases ry
 obtain ⟨its, r, pl, hz⟩ := I.list hq
 obtain ⟨e, h1, h2⟩ := d2b hu I rx r hl hd hi hn
 refine SeqAt.notIn_listAt e pl.isList (fun w hw => h1 w (by simpa using hw)) ⟨.bl _, H, I, rfl, ?_⟩
 rw [show its.toArray.any e = its.any e by simp]
 exact q _ h2
theorem c9b {x y : Str} {p q tp : Pos} {k : Nat} {sc : Scope} (S : CompScope X [x, y] sc) (hc : X.calm = true) (hx : sc.names.lookup x = some .local) (hy : sc.names.lookup y = some .local) :
  ∀ C s H fp, PG (cxC X [x, y] sc C s H fp) (.Tuple [.Name x p, .Name y q] k tp) (gTup X.K 2 (c8b (a4z 0) (c8b (a4z 1) gNil))) := fun C s H fp =>
 d0p hc (b6b (a1y S.nd rfl (.inl (a4R hx)) (.inr (a4R hx))) (b6b (a1y S.nd rfl (.inl (a4R hy)) (.inr (a4R hy))) c8c))
end
section
variable {X : Cx}
def c2c (K : W.Frag) : V -> List V -> Hp -> VK -> Prop := fun x vs H Q => ∃ (l : Addr) (y : V) (n : Nat) (d : Dt) (ds : List Dt) (xs : List V) (j : Nat), x = .ref l /\ vs = [y] /\ SqL K H l xs /\ xs.length = ds.length /\ Rep K H n d y /\ (∀ (i : Nat) d' v, ds[i]? = some d' -> xs[i]? = some v -> Rep K H n d' v) /\ n <= 30 /\ ds[j]? = some d /\ (∀ i : Nat, i < j -> ds[i]? ≠ some d) /\ Q (.int (j : Nat)) H
theorem d2c {pins : List (Addr × Obj)} {σ : St} {H : Hp} {s : Shared} {x : V} {v : Value} {n : Nat} {d : Dt} {ds : List Dt} {xs : List V} {its : List Value} (hu : X.A.units + 64 < cLine) (I : Inv X pins σ H s) (rx : RelV x v) (r : Vals xs its) (hl : xs.length = ds.length) (hd : Rep X.K H n d x)
  (hi : ∀ (i : Nat) d' v, ds[i]? = some d' -> xs[i]? = some v -> Rep X.K H n d' v) (hn : n <= 30) : ∃ e : Value -> Bool, (∀ u ∈ its, SeqAt.EqAt X.A.in1 s u v (e u)) /\ ∀ (i : Nat) u d', its[i]? = some u -> ds[i]? = some d' -> (e u = true ↔ d' = d) := by
 have h2 := r.length
 have one : ∀ (i : Nat) u, its[i]? = some u -> ∃ b d', ds[i]? = some d' /\ SeqAt.EqAt X.A.in1 s u v b /\ (b = true ↔ d' = d) := fun i u hu' => by
  obtain ⟨h1, _⟩ := a0B.mp hu'
  obtain ⟨y, ey⟩ : ∃ y, xs[i]? = some y := ⟨_, a0A (by lia)⟩
  obtain ⟨d', ed⟩ : ∃ d', ds[i]? = some d' := ⟨_, a0A (by lia)⟩
  obtain ⟨u', eu, ru⟩ := Vals.get r ey
  rw [hu'] at eu
  cases eu
  obtain ⟨b, h3, h4⟩ := b2v I n (A := X.A.in1) (by show X.A.units + 1 + n < cLine; lia) (hi i d' y ed ey) hd ru rx
  exact ⟨b, d', ed, h3, h4⟩
 have each : ∀ u, ∃ b, (∃ i : Nat, its[i]? = some u) -> SeqAt.EqAt X.A.in1 s u v b /\ ∃ (i : Nat) (d' : Dt), its[i]? = some u /\ ds[i]? = some d' /\ (b = true ↔ d' = d) := fun u => by
  by_cases h : ∃ i : Nat, its[i]? = some u
  ·obtain ⟨i, hi'⟩ := h
   obtain ⟨b, d', h1, h2, h3⟩ := one i u hi'
   exact ⟨b, fun _ => ⟨h2, i, d', hi', h1, h3⟩⟩
  ·exact ⟨true, fun z => absurd z h⟩
 refine ⟨fun u => Classical.choose (each u), fun u hu' => (a3T (each u) (a1C.mp hu')).1, fun i u d0 eu ed => ?_⟩
 obtain ⟨_, j, d', g1, g2, g3⟩ := a3T (each u) ⟨i, eu⟩
 rw [g3]
 obtain ⟨h1, _⟩ := a0B.mp ed
 obtain ⟨y, ey⟩ : ∃ y, xs[i]? = some y := ⟨_, a0A (by lia)⟩
 obtain ⟨h4, _⟩ := a0B.mp g2
 obtain ⟨z, ez⟩ : ∃ z, xs[j]? = some z := ⟨_, a0A (by lia)⟩
 obtain ⟨u1, e1, r1⟩ := Vals.get r ey
 obtain ⟨u2, e2, r2⟩ := Vals.get r ez
 rw [eu] at e1
 rw [g1] at e2
 cases e1
 cases e2
 have yz : y = z := b6s (hi i d0 y ed ey) (hi j d' z g2 ez) r1 r2
 subst yz
 have dd : d' = d0 := b4u I n (hi j d' y g2 ez) (hi i d0 y ed ey)
 rw [dd]
theorem a9f (hu : X.A.units + 64 < cLine) : MtR X "list.index" (c2c X.K) := by
 intro pins s σ H x vs v us Q I rx rv h
 obtain ⟨l, y, m, d, ds, xs, j, rfl, rfl, hl, ll, hd, hi, hn, ej, no, q⟩ := h
 cases rx
 obtain ⟨u, rfl, ru⟩ := rv.one
 obtain ⟨its, r, ⟨⟨c1, d1, k1, s1⟩, n, e, ec, ed, ek⟩, hz⟩ := I.list hl
 simp only at ec ed ek
 subst ec ed ek
 obtain ⟨eq, h1, h2⟩ := d2c hu I ru r ll hd hi hn
 have lr := r.length
 have lj := (a0B.mp ej).1
 rw [a1B] at hz
 refine b0G F.slot_list_index ⟨_, e, rfl⟩ F.entry_list_index (F.args_list_index_2 _ _) (SeqAt.list_indexAt l its.toArray n none s1 u eq j (by simp only [List.size_toArray]; lia) (by lia) ?_ ?_)
  ⟨e, fun y hy => h1 y (by simpa using hy), ⟨.int (j : Nat), H, I.tok _, ⟨_, rfl⟩, q⟩⟩
 ·show eq its[j] = true
  exact (h2 j _ d (a0A (by lia)) ej).mpr rfl
 ·intro k hk1 hk2
  show eq its[k] = false
  have hk : k < ds.length := by lia
  cases z : eq its[k] with
  | false => rfl
  | true =>
   have z2 := (h2 k _ _ (a0A (by lia)) (a0A hk)).mp z
   exact absurd (by rw [a0A hk, z2]) (no k hk2)
theorem c9c {X : Cx} {K : W.Frag} {e : Expr} {T : String} {to : TE} {t : TA} (r : W.Frag -> V -> List V -> Hp -> VK -> Prop) (hK : X.K = K) (h : PE X e (tBM X.K T (r X.K) to t)) : PE X e (tBM K T (r K) to t) := hK ▸ h
end
section
variable {P : Program} {w : World} {A : Around} {E : Value -> Shared -> Prop} {s : Shared} {it d : Addr} {i ep : Nat} {es : Array DictEntry}
abbrev a5e (d : Addr) (i n ep : Nat) : Obj := { cls := .type "dict_keyiterator", data := .fields #[.ref d, .int i 0, .int n 0, .int ep 0] }
theorem b3j {en : DictEntry} {Q : Option Value -> Shared -> Prop} (G : s.heap.get? it = some (a5e d i es.size ep)) (L : Lies s.heap d es ep) (hx : es[i]? = some en)
  (q : ∀ h', h'.get? it = some (a5e d (i + 1) es.size ep) -> Heap.SameBut it s.heap h' -> Q (some en.key) { s with heap := h' }) : wpAny (model P w) A (pyNext (.ref it)) Q E s := by
 obtain ⟨o, ho, _, hd⟩ := L
 have ty : s.TypeIs (.ref it) "dict_keyiterator" := ⟨_, G, rfl⟩
 unfold pyNext
 refine a0C (a5Q (a3O (name := Str.ofString "__next__") ty a2S (a1Z a2S ty a8D ?_ (a7Y _))))
 refine a0C (a0G (a0C (a0C ?_)))
 refine a0C (a4P ty (a0G (a0C (a6T G rfl ?_))))
 have own2 : Builtin.Dict_items.ownsTuple "dict_keyiterator" = false := by decide
 simp only [own2, Bool.false_eq_true, if_false]
 refine show wpAny _ _ (if (Value.ref d == Value.none) = true then _ else _) _ _ s from (if_neg (show ¬ ((Value.ref d == Value.none) = true) from a1L)) ▸ a0C (a0G (a0C (a4E ho hd ?_)))
 rw [if_neg (by simp)]
 refine a0C (a0G (a0C (a4Y ho hd ?_)))
 rw [if_neg (by simp)]
 refine a0G ?_
 have at0 : (if ((i : Nat) : Int) < 0 then none else es[((i : Nat) : Int).toNat]?) = some en := by
  rw [if_neg (by lia), a2I]
  exact hx
 show wpAny _ _ (match (if ((i : Nat) : Int) < 0 then none else es[((i : Nat) : Int).toNat]?) with | some e => _ | none => _) _ _ s
 rw [at0]
 refine a0C (a0C (a4P ty (a0G (a0C (wpAny_isOneOf_keyiter ty ?_)))))
 refine show wpAny _ _ (setField (.ref it) 1 (rawInt ((i : Int) + 1)) >>= _) _ _ s from a0C (a3C G (by simp) fun h1 e1 s1 => wpAny_bind (wpAny_holding ?_))
 have e1' : h1.get? it = some (a5e d (i + 1) es.size ep) := by
  have z : ((i + 1 : Nat) : Int) = (i : Int) + 1 := by lia
  unfold a5e
  rw [z]
  simpa [rawInt] using e1
 have ty1 : Shared.TypeIs { s with heap := h1 } (.ref it) "dict_keyiterator" := ⟨_, e1', rfl⟩
 refine a0C (wpAny_isOneOf_keyiter ty1 ?_)
 exact show wpAny _ _ (pure en.key) _ _ { s with heap := h1 } from a0G (a0G ⟨_, rfl, a0G (q h1 e1' s1)⟩)
theorem b6t {Q : Option Value -> Shared -> Prop} (hh : A.handled = none) (G : s.heap.get? it = some (a5e d i es.size ep)) (L : Lies s.heap d es ep) (hx : es[i]? = none)
  (q : ∀ h', Heap.ExtBut it s.heap h' -> Q none { s with heap := h' }) : wpAny (model P w) A (pyNext (.ref it)) Q E s := by
 obtain ⟨o, ho, _, hd⟩ := L
 have ty : s.TypeIs (.ref it) "dict_keyiterator" := ⟨_, G, rfl⟩
 unfold pyNext
 refine a0C (a5Q (a3O (name := Str.ofString "__next__") ty a2S (a1Z a2S ty a8D ?_ (a7Y _))))
 refine a0C (a0G (a0C (a0C ?_)))
 refine a0C (a4P ty (a0G (a0C (a6T G rfl ?_))))
 have own2 : Builtin.Dict_items.ownsTuple "dict_keyiterator" = false := by decide
 simp only [own2, Bool.false_eq_true, if_false]
 refine show wpAny _ _ (if (Value.ref d == Value.none) = true then _ else _) _ _ s from (if_neg (show ¬ ((Value.ref d == Value.none) = true) from a1L)) ▸ a0C (a0G (a0C (a4E ho hd ?_)))
 rw [if_neg (by simp)]
 refine a0C (a0G (a0C (a4Y ho hd ?_)))
 rw [if_neg (by simp)]
 refine a0G ?_
 have at0 : (if ((i : Nat) : Int) < 0 then none else es[((i : Nat) : Int).toNat]?) = none := by
  rw [if_neg (by lia), a2I]
  exact hx
 show wpAny _ _ (match (if ((i : Nat) : Int) < 0 then none else es[((i : Nat) : Int).toNat]?) with | some e => _ | none => _) _ _ s
 rw [at0]
 refine a0C (a0C (a4P ty (a0G ?_)))
 refine show wpAny _ _ (setField (.ref it) 0 .none >>= _) _ _ s from a0C (a3C G (by simp) fun h1 e1 sb => ?_)
 refine a0C (m := newExc _ _) ?_
 simp only [newExc, newTuple]
 refine a0C (a3S ?_ (by size_fits))
 refine a0C (m := firstArgMember _ _) (b0J (a := Value.none) (by first | rfl | (unfold firstArgMember; rfl)) (wpAny_newObj_type ?_ (by size_fits)))
 refine a8R (by simpa using hh) (wpAny_bind (wpAny_isInstance (T := "StopIteration") (b := true) ⟨_, Heap.get?_push_size _ rfl, rfl⟩ isSubtype_stop (wpAny_pure ?_)))
 exact q _ fun b o nb z => a0I _ (a0I _ (sb.extBut b o nb z))
theorem b3k {Q : Value -> Shared -> Prop} (nd : (d == sysModules) = false) (L : Lies s.heap d es ep) (q : Q (.ref s.heap.objs.size) { s with heap := s.heap.push (a5e d 0 es.size ep) }) : wpAny (model P w) A (pyIter (.ref d)) Q E s := by
 obtain ⟨o, ho, x, hd⟩ := L
 have ty : s.TypeIs (.ref d) "dict" := ⟨o, ho, x.1⟩
 refine a5M ty F.slot_dict_iter (a1Z F.slot_dict_iter ty F.entry_dict_iter ?_ (F.args_dict_iter_1 _))
 unfold Builtin.«dict.__iter__» Builtin.Dict.dictSlotNone
 refine a0C (a0C (wpAny_notOrdered_dict ty ?_))
 refine show wpAny _ _ (pure (Value.ref d)) _ _ s from a0G (show wpAny _ _ (Builtin.Dict.showsAll d >>= _) _ _ s from ?_)
 have all : Builtin.Dict.showsAll d = pure () := by
  unfold Builtin.Dict.showsAll
  rw [nd]
  rfl
 rw [all]
 refine a0C (a0G (a0C (a4E ho hd (a0C (a4Y ho hd ?_)))))
 exact a0C (a3S (a0G ⟨_, rfl, "dict_keyiterator", _, ⟨_, a0R _ rfl, rfl⟩, a2S.lookup, q⟩))
theorem d2d (hh : A.handled = none) (hne : d ≠ it) : Walks P w A it [it, d] [it] es.size (fun i v => ∃ en, es[i]? = some en /\ v = en.key) (fun i h => h.get? it = some (a5e d i es.size ep) /\ Lies h d es ep) where
 sub := fun b hb => a1H.mpr (.inl (a0F.mp hb))
 frame := fun i h h' st k => ⟨k it (a0S ..) _ st.1, let ⟨o, e, x⟩ := st.2; ⟨o, k d (a0V _ (a0F.mpr rfl)) _ e, x⟩⟩
 item := fun i s Q E hi st q => by
  obtain ⟨en, he⟩ : ∃ en, es[i]? = some en := ⟨_, a1P hi⟩
  refine b3j st.1 st.2 he fun h' e1 sb => q en.key h' s.toks ⟨en, he, rfl⟩ ⟨e1, let ⟨o, e, x⟩ := st.2; ⟨o, sb.extBut _ _ hne e, x⟩⟩ fun b o nb e => sb.extBut _ _ (fun z => nb (a0F.mpr z)) e
 done := fun s Q E st q => b6t hh st.1 st.2 (a7M (a0N _)) fun h' x => q h' s.toks fun b o nb e => x b o (fun z => nb (a0F.mpr z)) e
 self := fun i s Q E st q => by
  have ty : s.TypeIs (.ref it) "dict_keyiterator" := ⟨_, st.1, rfl⟩
  refine a5M ty a4U (a1Z a4U ty a8E ?_ (a7Z _))
  exact show wpAny _ _ (ret (.ref it)) _ _ s from a0G ⟨_, rfl, "dict_keyiterator", _, ty, a2S.lookup, q⟩
theorem srcK (nd : (d == sysModules) = false) : PySem.W.KdlSrc P w "dict" d d es.size (fun i v => ∃ en, es[i]? = some en /\ v = en.key) (fun h => Lies h d es ep) where
 type := fun _ e => e.typeIs
 there := fun _ ⟨_, e, _⟩ => ⟨a0Q e, a0Q e⟩
 keep := fun _ _ ⟨o, e, x⟩ k => ⟨o, k d (.inl rfl) _ e, x⟩
 notList := by decide
 notTuple := by decide
 hint := fun _ _ _ _ e q => PySem.W.kdl_hint_dict e.typeIs q
 iter := fun _ _ hh e => ⟨_, _, fun _ _ q => b3k nd e q, d2d hh (a1J (let ⟨_, z, _⟩ := e; a0Q z)), a0R _ rfl, let ⟨o, z, x⟩ := e; ⟨o, a0I _ z, x⟩⟩
end
open PySem PySem.W PyProof.Rows
section
variable (n : Nat) (k : Nat -> Int)
def KOk {α : Type} : KasT α -> (α -> Prop) -> Prop
 | .ret a, R => R a
 | .ask i j f, R => i < n /\ j < n /\ KOk (f (decide (k i < k j))) R
def Arr (p : Array Nat) : Prop := p.Perm (List.range n).toArray
def SUp (p : Array Nat) (m : Nat) : Prop := ∀ a b, a < b -> b < m -> k (p.getD a 0) < k (p.getD b 0)
def SDn (p : Array Nat) (m : Nat) : Prop := ∀ a b, a < b -> b < m -> k (p.getD b 0) < k (p.getD a 0)
variable {n k}
theorem KOk.bind {α β : Type} {f : α -> KasT β} {R : α -> Prop} {R' : β -> Prop} (h : ∀ a, R a -> KOk n k (f a) R') : ∀ t : KasT α, KOk n k t R -> KOk n k (t.bind f) R'
 | .ret a, q => h a q
 | .ask i j g, q => ⟨q.1, q.2.1, KOk.bind h (g _) q.2.2⟩
theorem Arr.size {p : Array Nat} (h : Arr n p) : p.size = n := by
 have z := (a1V.mp h).length_eq
 simpa using z
theorem Arr.at {p : Array Nat} (h : Arr n p) {i : Nat} (hi : i < n) : p.getD i 0 < n /\ p[i]? = some (p.getD i 0) := by
 have hs := h.size
 have e : p[i]? = some (p.getD i 0) := by
  rw [a2K, a1P (by lia)]
  rfl
 refine ⟨?_, e⟩
 have m : p.getD i 0 ∈ p := a5F e
 have m2 := (a9D h).mp m
 simpa using m2
theorem Arr.inj {p : Array Nat} (h : Arr n p) {i j : Nat} (hi : i < n) (hj : j < n) (e : p.getD i 0 = p.getD j 0) : i = j := by
 have nd : p.toList.Nodup := (a1V.mp h).nodup_iff.mpr (by simpa using List.nodup_range)
 have e1 := (h.at hi).2
 have e2 := (h.at hj).2
 rw [<- e] at e2
 rw [<- a1W] at e1 e2
 exact (a2P (by rw [a0L, h.size]; exact hi) nd).mp (e1.trans e2.symm)
variable (inj : ∀ i j, i < n -> j < n -> k i = k j -> i = j)
include inj
end
end L2
namespace L2
open PySem PySem.Spec PySem.W PyProof.Rows
section
variable {P : Program} {w : World} {A : Around} {E : Value -> Shared -> Prop} {s : Shared} {a : Addr} {vs ks : List Value} {k : Nat -> Int}
def c5t (P : Program) (w : World) (A : Around) (ks : List Value) (lt : Nat -> Nat -> Bool) (s : Shared) : Prop :=
 wpAny (model P w) A (keyKind' ks.toArray) (fun κ s' => s' = s /\ ∀ i j (C : Bool -> Shared -> Prop), i < ks.length -> j < ks.length -> C (lt i j) s -> kas_ask P w A κ ks i j C s) (fun _ _ => False) s
abbrev a1u (vs : List Value) (p : Array Nat) : List Value := p.toList.map fun i => vs.getD i Value.none
theorem a7w (vs : List Value) : a1u vs (List.range vs.length).toArray = vs := by
 unfold a1u
 refine a3V fun i => ?_
 rw [a7A, a0E]
 by_cases h : i < vs.length
 ·rw [a3I h, a0A h]
  show some (vs.getD i Value.none) = _
  rw [a0J, a0A h]
  rfl
 ·rw [a1Q (by simp; lia), List.getElem?_eq_none (by lia)]
  rfl
theorem c2d (hl : ks.length = vs.length) : (ks.toArray.zip vs.toArray).map (·.2) = vs.toArray := by
 apply Array.toList_inj.mp
 rw [a8F, ksk_zip]
 exact List.map_snd_zip (by simp [hl])
theorem b6u {hs : Heap} {b : Addr} {x : Obj} (e : hs.get? b = some x) (o1 o2 : Obj) : ((hs.push o1).push o2).get? b = some x := a0I _ (a0I _ e)
end
theorem a7m {α : Type} {p q : α -> Bool} : ∀ {xs : List α}, (∀ z ∈ xs, p z = true -> q z = true) -> (∃ z ∈ xs, p z = false /\ q z = true) -> xs.countP p < xs.countP q
 | [], _, h => by obtain ⟨z, hz, _⟩ := h; cases hz
 | x :: xs, mono, h => by
  have le : xs.countP p <= xs.countP q := List.countP_mono_left fun z hz => mono z (a0V _ hz)
  rw [a8G, a8G]
  obtain ⟨z, hz, h1, h2⟩ := h
  rcases a1H.mp hz with e | hz
  ·subst e
   rw [h1, h2]
   simp
   lia
  ·have ih := a7m (xs := xs) (fun y hy => mono y (a0V _ hy)) ⟨z, hz, h1, h2⟩
   have m := mono x (a0S ..)
   cases e1 : p x with
   | false => cases q x <;> simp <;> lia
   | true => rw [m e1]; simp; lia
structure Total {α : Type} (lt : α -> α -> Bool) (xs : List α) : Prop where
 irr : ∀ x, lt x x = false
 trans : ∀ x y z, lt x y = true -> lt y z = true -> lt x z = true
 tot : ∀ x ∈ xs, ∀ y ∈ xs, x ≠ y -> lt x y = true ∨ lt y x = true
def a3g {α : Type} (lt : α -> α -> Bool) (xs : List α) (x : α) : Int := ((xs.countP fun y => lt y x) : Nat)
section
variable {α : Type} {lt : α -> α -> Bool} {xs : List α} (T : Total lt xs)
include T
theorem Total.up {x y : α} (hx : x ∈ xs) (h : lt x y = true) : a3g lt xs x < a3g lt xs y := by
 unfold a3g
 have z := a7m (xs := xs) (p := fun z => lt z x) (q := fun z => lt z y) (fun z _ hz => T.trans _ _ _ hz h) ⟨x, hx, T.irr x, h⟩
 lia
theorem Total.asks {x y : α} (hx : x ∈ xs) (hy : y ∈ xs) : decide (a3g lt xs x < a3g lt xs y) = lt x y := by
 by_cases e : x = y
 ·subst e
  rw [T.irr]
  exact a1I (Int.lt_irrefl _)
 ·rcases T.tot x hx y hy e with h | h
  ·rw [h]
   exact a0Y (T.up hx h)
  ·have := T.up hy h
   rw [a1I (by lia)]
   cases z : lt x y with
   | false => rfl
   | true =>
    have := T.up hx z
    lia
theorem Total.same {x y : α} (hx : x ∈ xs) (hy : y ∈ xs) (h : a3g lt xs x = a3g lt xs y) : x = y := by
 refine a6V fun e => ?_
 rcases T.tot x hx y hy e with z | z
 ·have := T.up hx z
  lia
 ·have := T.up hy z
  lia
end
theorem a9g : ∀ (xs ys : List Nat), xs ≠ ys -> ltl xs ys = true ∨ ltl ys xs = true
 | [], [], h => absurd rfl h
 | [], y :: ys, _ => .inl (by unfold ltl; rw [show a9w [] (y :: ys) = none from rfl]; simp)
 | x :: xs, [], _ => .inr (by unfold ltl; rw [show a9w [] (x :: xs) = none from rfl]; simp)
 | x :: xs, y :: ys, h => by
  by_cases e : x = y
  ·subst e
   rcases a9g xs ys (fun z => h (by rw [z])) with q | q
   ·exact .inl (by rw [a4a]; exact q)
   ·exact .inr (by rw [a4a]; exact q)
  ·rw [a0s e, a0s (a3R e)]
   rcases Nat.lt_or_gt_of_ne e with q | q
   ·exact .inl (a0Y q)
   ·exact .inr (a0Y q)
theorem b6v : ∀ (xs ys zs : List Nat), ltl xs ys = true -> ltl ys zs = true -> ltl xs zs = true
 | xs, ys, [], _, h2 => by
  have : ltl ys [] = false := by
   unfold ltl
   rw [show a9w ys [] = none by cases ys <;> rfl]
   simp
  rw [this] at h2
  cases h2
 | [], ys, z :: zs, _, _ => by unfold ltl; rw [show a9w [] (z :: zs) = none from rfl]; simp
 | x :: xs, [], z :: zs, h1, _ => by
  have : ltl (x :: xs) [] = false := by
   unfold ltl
   rw [show a9w (x :: xs) [] = none from rfl]
   simp
  rw [this] at h1
  cases h1
 | x :: xs, y :: ys, z :: zs, h1, h2 => by
  by_cases e1 : x = y
  ·subst e1
   by_cases e2 : x = z
   ·subst e2
    rw [a4a] at h1 h2 ⊢
    exact b6v xs ys zs h1 h2
   ·rw [a0s e2] at h2 ⊢
    exact h2
  ·rw [a0s e1] at h1
   have l1 := a1X h1
   by_cases e2 : y = z
   ·subst e2
    rw [a0s e1]
    exact h1
   ·rw [a0s e2] at h2
    have l2 := a1X h2
    rw [a0s (by lia)]
    exact a0Y (by lia)
theorem b3l (xs : List (List Nat)) : Total ltl xs := ⟨a6d, b6v, fun x _ y _ e => a9g x y e⟩
section
variable {P : Program} {w : World} {A : Around} {E : Value -> Shared -> Prop} {s : Shared}
theorem c7l {i j : Int} {t u : Tok} (f : Bool) {Q : Bool -> Shared -> Prop} (h : Q (decide (i < j)) s) : wpAny (model P w) A (oneLt' f (.int i t) (.int j u)) Q E s := by
 cases f with
 | true => exact oneLt_int h
 | false => exact kat_one _ _ (PyProof.Rows.lt_int h)
theorem b6w {fin : Bool} {Q : Bool -> Shared -> Prop} : ∀ {ns ms : List Nat} {xs ys : List Value} (i : Nat), Vals (ns.map nv) xs -> Vals (ms.map nv) ys -> Q ((a9w ns ms).getD fin) s -> KatLex P w A true fin Q (xs.zip ys) i s
 | [], ms, _, _, i, .nil, _, q => by
  rw [show a9w [] ms = none by cases ms <;> rfl] at q
  rw [List.zip_nil_left]
  exact kat_nil q
 | n :: ns, [], _, _, i, .cons _ _, .nil, q => by
  rw [List.zip_nil_right]
  exact kat_nil q
 | n :: ns, m :: ms, _, _, i, .cons ⟨t, e1⟩ r1, .cons ⟨u, e2⟩ r2, q => by
  subst e1 e2
  refine kat_cons ?_
  have z := eqAt_int (A := A) (s := s) (i := (n : Int)) (j := (m : Int)) (t := t) (u := u)
  by_cases e : n = m
  ·rw [a0Y (by lia)] at z
   rw [a9w, if_pos e] at q
   exact z P w _ _ (kat_yes (b6w (i + 1) r1 r2 q))
  ·rw [a1I (by lia)] at z
   rw [a9w, if_neg e] at q
   refine z P w _ _ (kat_no (c7l _ ?_))
   have e3 : decide ((n : Int) < (m : Int)) = decide (n < m) := by simp
   rw [e3]
   exact q
def TupN (h : Heap) (v : Value) (ns : List Nat) : Prop := ∃ a o its c, v = .ref a /\ h.get? a = some o /\ o.cls = .type "tuple" /\ o.data = .seq its c /\ Vals (ns.map nv) its.toList
theorem b0j {h : Heap} : ∀ {vs : List Value} {ts : List (List Nat)}, vs.length = ts.length -> (∀ (i : Nat) v t, vs[i]? = some v -> ts[i]? = some t -> TupN h v t /\ t ≠ []) -> ∃ fs : List Value, KatTups h vs fs /\ fs.length = vs.length /\ ∀ f ∈ fs, ∃ i t, f = .int i t
 | [], [], _, _ => ⟨[], .nil, rfl, fun _ z => nomatch z⟩
 | [], _ :: _, l, _ => by simp at l
 | _ :: _, [], l, _ => by simp at l
 | v :: vs, t :: ts, l, hv => by
  obtain ⟨fs, k1, k2, k3⟩ := b0j (h := h) (vs := vs) (ts := ts) (by simpa using l) fun i v t e1 e2 => hv (i + 1) v t (by simpa using e1) (by simpa using e2)
  obtain ⟨⟨a, o, its, c, rfl, h1, h2, h3, h4⟩, ne⟩ := hv 0 v t rfl rfl
  obtain ⟨n, ns, rfl⟩ : ∃ n ns, t = n :: ns := by
   cases t with
   | nil => exact absurd rfl ne
   | cons n ns => exact ⟨n, ns, rfl⟩
  obtain ⟨its'⟩ := its
  cases h4 with
  | cons r _ =>
   obtain ⟨t0, rfl⟩ := r
   exact ⟨_ :: fs, .cons h1 h2 h3 rfl k1, by simp [k2], fun f hf => by
    rcases a1H.mp hf with e | hf
    ·exact ⟨_, _, e⟩
    ·exact k3 f hf⟩
theorem b6x {vs : List Value} {ts : List (List Nat)} (l : vs.length = ts.length) (n1 : 1 <= vs.length) (hv : ∀ (i : Nat) v t, vs[i]? = some v -> ts[i]? = some t -> TupN s.heap v t /\ t ≠ []) : c5t P w A vs (fun i j => ltl (ts.getD i []) (ts.getD j [])) s := by
 obtain ⟨fs, k1, k2, k3⟩ := b0j l hv
 refine kat_kind (T := .type "int") k1 (by lia) (fun f hf => ?_) (by decide) ⟨rfl, fun i j C li lj hC => ?_⟩
 ·obtain ⟨i, t, rfl⟩ := k3 f hf
  exact .now
 ·have at0 : ∀ {i : Nat}, i < vs.length -> TupN s.heap (vs.getD i Value.none) (ts.getD i []) := fun {i} li => by
   have e1 : vs[i]? = some (vs.getD i Value.none) := by rw [a0J, a0A li]; rfl
   have e2 : ts[i]? = some (ts.getD i []) := by rw [a0J, a0A (by lia)]; rfl
   exact (hv i _ _ e1 e2).1
  obtain ⟨x, ox, xs, nx, ex, x1, x2, x3, x4⟩ := at0 li
  obtain ⟨y, oy, ys, ny, ey, y1, y2, y3, y4⟩ := at0 lj
  show wpAny (model P w) A (keyLt' _ (vs.getD i Value.none) (vs.getD j Value.none)) C _ s
  rw [ex, ey]
  refine kat_lt x1 x3 y1 y3 (b6w 0 x4 y4 ?_)
  have l1 : (ts.getD i []).length = xs.size := by have := x4.length; simpa using this
  have l2 : (ts.getD j []).length = ys.size := by have := y4.length; simpa using this
  rw [<- l1, <- l2]
  exact hC
end
theorem b1e {α : Type} {xs : List α} {p : Array Nat} {d : α} (ar : Arr xs.length p) : (p.toList.map fun i => xs.getD i d).Perm xs := by
 have z := (a1V.mp ar).map fun i => xs.getD i d
 refine z.trans (.of_eq ?_)
 refine a3V fun i => ?_
 rw [a7A, a0E]
 by_cases h : i < xs.length
 ·rw [a3I h, a0A h]
  show some (xs.getD i d) = _
  rw [a0J, a0A h]
  rfl
 ·rw [a1Q (by simp; lia), List.getElem?_eq_none (by lia)]
  rfl
theorem c7m {p : Array Nat} {n i : Nat} (ar : Arr n p) (hi : i < n) : p.toList[i]? = some (p.getD i 0) := by
 rw [a1W]
 exact (ar.at hi).2
theorem a5f {α : Type} {lt : α -> α -> Bool} {ts : List α} {d : α} {p : Array Nat} (T : Total lt ts) (ar : Arr ts.length p) (up : SUp (fun i => a3g lt ts (ts.getD i d)) p ts.length) : (p.toList.map fun i => ts.getD i d).Pairwise fun x y => lt x y = true := by
 rw [a2H]
 intro i j hi hj ij
 have li : i < ts.length := by rw [a0D, a0L, ar.size] at hi; exact hi
 have lj : j < ts.length := by rw [a0D, a0L, ar.size] at hj; exact hj
 have e1 : (p.toList.map fun i => ts.getD i d)[i]? = some (ts.getD (p.getD i 0) d) := by rw [a0E, c7m ar li]; rfl
 have e2 : (p.toList.map fun i => ts.getD i d)[j]? = some (ts.getD (p.getD j 0) d) := by rw [a0E, c7m ar lj]; rfl
 rw [a0A hi] at e1
 rw [a0A hj] at e2
 rw [a1S e1, a1S e2]
 have u := up i j ij lj
 have m : ∀ {i : Nat}, i < ts.length -> ts.getD (p.getD i 0) d ∈ ts := fun {i} h => by
  have := (ar.at h).1
  rw [a0J, a0A this]
  exact a2Y _
 rw [<- T.asks (m li) (m lj)]
 exact a0Y u
structure TupsAt (H : Hp) (bs : List Addr) (us : List (List Nat)) : Prop where
 len : bs.length = us.length
 is : ∀ (i : Nat) (b : Addr) (u : List Nat), bs[i]? = some b -> us[i]? = some u -> H b = some (.tup (u.map nv))
theorem TupsAt.same {H H' : Hp} {bs : List Addr} {us : List (List Nat)} (h : TupsAt H bs us) (g : Same H H') : TupsAt H' bs us := ⟨h.len, fun i b u e1 e2 => g _ _ (h.is i b u e1 e2)⟩
theorem TupsAt.pick {H : Hp} {bs : List Addr} {us : List (List Nat)} (h : TupsAt H bs us) {p : Array Nat} (ar : Arr us.length p) : TupsAt H (p.toList.map fun i => bs.getD i 0) (p.toList.map fun i => us.getD i []) := by
 refine ⟨by simp, fun i b u e1 e2 => ?_⟩
 rw [a0E] at e1 e2
 obtain ⟨j, ej, rfl⟩ := a0O.mp e1
 rw [ej] at e2
 cases e2
 have lj : j < us.length := by
  have m := (a1V.mp ar).mem_iff.mp (a0H ej)
  simpa using m
 have lb := h.len
 refine h.is j _ _ ?_ ?_
 ·rw [a0J, a0A (by lia)]
  rfl
 ·show us[j]? = some (us.getD j [])
  rw [a0J, a0A lj]
  rfl
section
variable {X : Cx}
theorem d2e {P : Program} {w : World} {H : Hp} {h : Heap} {a : Addr} {t : List Nat} (ok : HOk P w H h) (e : H a = some (.tup (t.map nv))) : TupN h (.ref a) t := by
 obtain ⟨_, its, r, o, h1, h2, c, h3, _⟩ := (show ObjOk P w H h a (.tup (t.map nv)) from ok a _ e)
 exact ⟨a, o, its.toArray, c, rfl, h1, h2, h3, by simpa using r⟩
theorem b3m : ∀ {as : List Addr} {us : List Value}, Vals (as.map V.ref) us -> us = as.map Value.ref
 | [], _, .nil => rfl
 | a :: as, _, .cons r t => by
  have r' : _ = Value.ref a := r
  rw [r', b3m t]
  rfl
theorem a3q {α : Type} {xs : List α} {d : α} {i : Nat} (h : i < xs.length) : xs[i]? = some (xs.getD i d) /\ xs.getD i d ∈ xs := by
 have e : xs[i]? = some (xs.getD i d) := by
  rw [a0J, a0A h]
  rfl
 exact ⟨e, a0H e⟩
theorem b1f {α : Type} {lt : α -> α -> Bool} {ts : List α} {d : α} (T : Total lt ts) (nd : ts.Nodup) : ∀ i j, i < ts.length -> j < ts.length -> a3g lt ts (ts.getD i d) = a3g lt ts (ts.getD j d) -> i = j := fun i j hi hj e => by
 have z := T.same (a3q hi).2 (a3q hj).2 e
 refine (a2P hi nd).mp ?_
 rw [(a3q (d := d) hi).1, (a3q (d := d) hj).1, z]
end
abbrev d0 : Keyed := (Value.none, Value.none)
structure Asks (M : Model) (A : Around) (s : Shared) (κ : SortKind) (r : Keyed -> Int) (a₀ : Array Keyed) : Prop where
 lt : ∀ (x y : Keyed) (C : Bool -> Shared -> Prop), x ∈ a₀ -> y ∈ a₀ -> C (decide (r x < r y)) s -> wpAny M A (keyLt' κ x.1 y.1) C (fun _ _ => False) s
 ne : ∀ i j, i < a₀.size -> j < a₀.size -> i ≠ j -> r (a₀.getD i d0) ≠ r (a₀.getD j d0)
structure StOk (κ : SortKind) (a₀ : Array Keyed) (st : SortSt) : Prop where
 kind : kindOf st = κ
 perm : (arrOf st).Perm a₀
 ok : failedOf st = none
section
variable {M : Model} {A : Around} {E : Value -> Shared -> Prop} {s : Shared} {κ : SortKind} {r : Keyed -> Int} {a₀ xs ys : Array Keyed}
abbrev kx (r : Keyed -> Int) (xs : Array Keyed) (i : Nat) : Int := r (xs.getD i d0)
theorem a5g {i : Nat} (h : i < xs.size) : xs[i]? = some (xs.getD i d0) := by
 rw [a2K, a1P h]
 rfl
theorem a7n {i : Nat} {x : Keyed} (h : xs[i]? = some x) : xs.getD i d0 = x := by
 rw [a2K, h]
 rfl
theorem a2s {i j : Nat} (h : xs[i]? = ys[j]?) : xs.getD i d0 = ys.getD j d0 := by
 rw [a2K, a2K, h]
theorem a2z (p : xs.Perm a₀) : xs.size = a₀.size := by
 have z := (a1V.mp p).length_eq
 simpa using z
theorem a8k (p : xs.Perm a₀) {i : Nat} (h : i < a₀.size) : xs.getD i d0 ∈ a₀ := (a9D p).mp (a5F (a5g (by rw [a2z p]; exact h)))
theorem Asks.pairs (K : Asks M A s κ r a₀) : (a₀.toList.map r).Nodup := by
 refine a2H.mpr fun i j hi hj ij => ?_
 rw [a5W, a5W]
 rw [a0D, a0L] at hi hj
 have z := K.ne i j hi hj (by lia)
 rw [a2K, a2K, a1P hi, a1P hj] at z
 exact z
theorem Asks.apart (K : Asks M A s κ r a₀) (p : xs.Perm a₀) {i j : Nat} (hi : i < a₀.size) (hj : j < a₀.size) (ij : i ≠ j) : kx r xs i ≠ kx r xs j := by
 have nd : (xs.toList.map r).Nodup := ((a1V.mp p).map r).nodup_iff.mpr K.pairs
 have sz := a2z p
 intro z
 have e : ∀ k, k < a₀.size -> (xs.toList.map r)[k]? = some (kx r xs k) := fun k hk => by
  rw [a0E, a1W, a5g (by lia)]
  rfl
 exact ij ((a2P (by rw [a0D, a0L]; lia) nd).mp (by rw [e i hi, e j hj, z]))
theorem b3n {st : SortSt} {x y : Keyed} {Q : Option Bool -> SortSt -> Prop} (K : Asks M A s κ r a₀) (hk : kindOf st = κ) (hx : x ∈ a₀) (hy : y ∈ a₀) (h : Q (some (decide (r x < r y))) st) : wpS M A E s (lt' x y) Q st := by
 rw [lt'_eq]
 refine a0W (a8V ?_)
 rw [hk]
 refine a0W (b0I (a5Q (a3D (K.lt x y (fun b s' => s' = s /\ b = decide (r x < r y)) hx hy ⟨rfl, rfl⟩) (fun b s' hb => ?_) fun _ _ z => z.elim)))
 obtain ⟨rfl, rfl⟩ := hb
 exact ⟨rfl, a1D h⟩
theorem a0w {σ0 : SortSt} {i : Nat} {Q : Keyed -> SortSt -> Prop} (hi : i < xs.size) (h : Q (xs.getD i d0) σ0) : wpS M A E s (elem' xs i) Q σ0 := by
 rw [elem'_eq, a5g hi]
 exact a1D h
theorem a9h {st : SortSt} {i j : Nat} {Q : Option Bool -> SortSt -> Prop} (K : Asks M A s κ r a₀) (B : StOk κ a₀ st) (hi : i < a₀.size) (hj : j < a₀.size) (h : Q (some (decide (kx r (arrOf st) i < kx r (arrOf st) j))) st) : wpS M A E s (ltAt' i j) Q st := by
 have sz := a2z B.perm
 rw [ltAt'_eq]
 refine a0W (a8V ?_)
 exact a0W (a0w (by lia) (a0W (a0w (by lia) (b3n K B.kind (a8k B.perm hi) (a8k B.perm hj) h))))
def Ris (r : Keyed -> Int) (xs : Array Keyed) (lo hi : Nat) : Prop := ∀ a b, lo <= a -> a < b -> b < hi -> kx r xs a < kx r xs b
def Fal (r : Keyed -> Int) (xs : Array Keyed) (lo hi : Nat) : Prop := ∀ a b, lo <= a -> a < b -> b < hi -> kx r xs b < kx r xs a
def Out (xs ys : Array Keyed) (lo hi : Nat) : Prop := ∀ k, k < lo ∨ hi <= k -> ys[k]? = xs[k]?
theorem Out.refl (xs : Array Keyed) (lo hi : Nat) : Out xs xs lo hi := fun _ _ => rfl
theorem Out.trans {zs : Array Keyed} {lo hi : Nat} (h : Out xs ys lo hi) (h' : Out ys zs lo hi) : Out xs zs lo hi := fun k z => (h' k z).trans (h k z)
theorem Out.wide {lo hi lo' hi' : Nat} (h : Out xs ys lo hi) (h1 : lo' <= lo) (h2 : hi <= hi') : Out xs ys lo' hi' := fun k z => h k (by lia)
theorem Out.ris {lo hi a b : Nat} (h : Out xs ys lo hi) (h' : Ris r xs a b) (d : b <= lo ∨ hi <= a) : Ris r ys a b := fun i j h1 h2 h3 => by
 show r (ys.getD i d0) < r (ys.getD j d0)
 rw [a2s (h i (by lia)), a2s (h j (by lia))]
 exact h' i j h1 h2 h3
theorem Ris.one {lo : Nat} : Ris r xs lo (lo + 1) := fun a b h1 h2 h3 => by lia
theorem Ris.snoc {lo hi : Nat} (h : Ris r xs lo hi) (hl : lo < hi) (l : kx r xs (hi - 1) < kx r xs hi) : Ris r xs lo (hi + 1) := fun a b h1 h2 h3 => by
 by_cases e : b = hi
 ·subst e
  by_cases e2 : a = b - 1
  ·subst e2
   exact l
  ·have := h a (b - 1) h1 (by lia) (by lia)
   lia
 ·exact h a b h1 h2 (by lia)
theorem Fal.snoc {lo hi : Nat} (h : Fal r xs lo hi) (hl : lo < hi) (l : kx r xs hi < kx r xs (hi - 1)) : Fal r xs lo (hi + 1) := fun a b h1 h2 h3 => by
 by_cases e : b = hi
 ·subst e
  by_cases e2 : a = b - 1
  ·subst e2
   exact l
  ·have := h a (b - 1) h1 (by lia) (by lia)
   lia
 ·exact h a b h1 h2 (by lia)
theorem StOk.set {st : SortSt} (B : StOk κ a₀ st) (p : ys.Perm (arrOf st)) : StOk κ a₀ (setArr st ys) := ⟨B.kind, p.trans B.perm, B.ok⟩
theorem b3o {i j : Nat} (hj : j <= xs.size) (k : Nat) : kx r (mirror xs i j ((j - i) / 2)) k = if i <= k /\ k < j then kx r xs (i + j - 1 - k) else kx r xs k := by
 have e := getElem?_mirror_all (i := i) hj k
 by_cases h1 : i <= k /\ k < j
 ·rw [if_pos h1] at e ⊢
  exact a2C r (a2s e)
 ·rw [if_neg h1] at e ⊢
  exact a2C r (a2s e)
theorem c2e {st : SortSt} {lo nrem : Nat} {Q : Option Nat -> SortSt -> Prop} (K : Asks M A s κ r a₀) (B : StOk κ a₀ st) (hn : lo + nrem <= a₀.size) (h1 : 1 <= nrem)
  (h : ∀ n st', StOk κ a₀ st' -> pendingOf st' = pendingOf st -> gallopOf st' = gallopOf st -> Out (arrOf st) (arrOf st') lo (lo + nrem) -> 1 <= n -> n <= nrem -> Ris r (arrOf st') lo (lo + n) -> Q (some n) st') : wpS M A E s (countRun' lo nrem) Q st := by
 rw [countRun'_eq]
 have asc : ∀ (m : Nat) (st' : SortSt) (Q' : Option (Option Nat) × Nat -> SortSt -> Prop), StOk κ a₀ st' -> 1 <= m -> m <= nrem -> Ris r (arrOf st') lo (lo + m) -> (∀ n, m <= n -> n <= nrem -> Ris r (arrOf st') lo (lo + n) -> (n < nrem -> kx r (arrOf st') (lo + n) < kx r (arrOf st') (lo + n - 1)) -> Q' (none, n) st') ->
   wpS M A E s (forIn [m:nrem] ((none, m) : Option (Option Nat) × Nat) fun _ __s => do
    let __x <- ltAt' (lo + __s.snd) (lo + __s.snd - 1)
    match __x with
    | some smaller => if smaller = true then pure (ForInStep.done (none, __s.snd)) else pure (ForInStep.yield (none, __s.snd + 1))
    | _ => pure (ForInStep.done (some none, __s.snd))) Q' st' := fun m st' Q' B' m1 mn up q => by
  refine a3B (I := fun i c st'' => st'' = st' /\ c = (none, i) /\ Ris r (arrOf st') lo (lo + i)) (fun i c st'' hi1 hi2 hI => ?_) (fun c st'' hI => ?_) ⟨rfl, rfl, up⟩
  ·obtain ⟨rfl, rfl, up'⟩ := hI
   refine a0W (a9h K B' (by show lo + i < _; lia) (by show lo + i - 1 < _; lia) ?_)
   by_cases c : kx r (arrOf st'') (lo + i) < kx r (arrOf st'') (lo + i - 1)
   ·rw [a0Y c]
    exact a1D (q i hi1 (by lia) up' fun _ => c)
   ·rw [a1I c]
    have ne := K.apart B'.perm (i := lo + i) (j := lo + i - 1) (by lia) (by lia) (by lia)
    exact a1D ⟨rfl, rfl, up'.snoc (by lia) (by lia)⟩
  ·obtain ⟨rfl, rfl, up'⟩ := hI
   rw [show max m nrem = nrem by lia] at up' ⊢
   exact q nrem mn (a0N _) up' fun z => absurd z (a4G _)
 refine a0W (asc 1 st _ B (a0N _) h1 Ris.one fun n n1 n2 up stop => ?_)
 dsimp only
 by_cases e : n = nrem
 ·rw [if_pos (by simpa using e)]
  exact a1D (h n st B rfl rfl (Out.refl _ _ _) n1 n2 up)
 rw [if_neg (by simpa using e)]
 have st1 := stop (by lia)
 by_cases e2 : n > 1
 ·rw [if_pos e2]
  refine a0W (a9h K B (by lia) (by lia) ?_)
  rw [a0Y (up lo (lo + n - 1) (a0N _) (by lia) (by lia))]
  exact a1D (h n st B rfl rfl (Out.refl _ _ _) n1 n2 up)
 rw [if_neg e2]
 have en : n = 1 := by lia
 subst en
 refine a0W (b0I (a6K ⟨rfl, ?_⟩))
 have fal0 : Fal r (arrOf st) lo (lo + 2) := fun a b h1 h2 h3 => by
  have ea : a = lo := by lia
  have eb : b = lo + 1 := by lia
  subst ea eb
  exact st1
 refine a0W (a5S (a3B (I := fun i c st'' => st'' = st /\ c = (none, i, 0) /\ Fal r (arrOf st) lo (lo + i)) (Q := fun c st'' => st'' = st /\ ∃ m, c = (none, m, 0) /\ 2 <= m /\ m <= nrem /\ Fal r (arrOf st) lo (lo + m)) (fun i c st'' hi1 hi2 hI => ?_) (fun c st'' hI => ?_) ⟨rfl, rfl, fal0⟩) ?_)
 ·obtain ⟨rfl, rfl, fa⟩ := hI
  refine a0W (a9h K B (by show lo + i < _; lia) (by show lo + i - 1 < _; lia) ?_)
  by_cases c : kx r (arrOf st'') (lo + i) < kx r (arrOf st'') (lo + i - 1)
  ·rw [a0Y c]
   exact a1D ⟨rfl, rfl, fa.snoc (by lia) c⟩
  ·rw [a1I c]
   have ne := K.apart B.perm (i := lo + i) (j := lo + i - 1) (by lia) (by lia) (by lia)
   refine a0W (a9h K B (by show lo + i - 1 < _; lia) (by show lo + i < _; lia) ?_)
   rw [a0Y (by show kx r (arrOf st'') (lo + i - 1) < kx r (arrOf st'') (lo + i); lia)]
   exact a1D ⟨rfl, i, rfl, by lia, by lia, fa⟩
 ·obtain ⟨rfl, rfl, fa⟩ := hI
  refine ⟨rfl, _, rfl, by lia, by lia, fa⟩
 ·rintro c st'' ⟨rfl, m, rfl, m2, mn, fa⟩
  dsimp only
  obtain ⟨m, rfl⟩ : ∃ k, m = k + 1 := a2A fun z => by rw [z] at m2; exact absurd m2 (by decide)
  rw [if_neg (a4G 0)]
  rw [reverseSlice'_eq]
  have sz := a2z B.perm
  have hle : lo + (m + 1) <= (arrOf st'').size := by lia
  have B2 : StOk κ a₀ (setArr st'' (mirror (arrOf st'') lo (lo + (m + 1)) ((lo + (m + 1) - lo) / 2))) := B.set (mirror_perm _ _ _ _)
  have up2 : Ris r (mirror (arrOf st'') lo (lo + (m + 1)) ((lo + (m + 1) - lo) / 2)) lo (lo + (m + 1)) := fun a b h1 h2 h3 => by
   rw [b3o hle, b3o hle, if_pos (by lia), if_pos (by lia)]
   exact fa _ _ (show lo <= lo + (lo + m) - b from a8H (by lia)) (show lo + (lo + m) - b < lo + (lo + m) - a from Nat.sub_lt_sub_left (by lia) h2) (show lo + (lo + m) - a < lo + (m + 1) from a4H (by lia) (by lia))
  have out2 : Out (arrOf st'') (mirror (arrOf st'') lo (lo + (m + 1)) ((lo + (m + 1) - lo) / 2)) lo (lo + nrem) := fun k hk => by
   rw [getElem?_mirror_all hle, if_neg (by lia)]
  refine a0W (a6M (a0W (asc (m + 1) _ _ B2 (by lia) mn up2 fun n n1 n2 up stop => ?_)))
  exact a1D (h n _ B2 rfl rfl out2 (by lia) n2 up)
end
section
variable {M : Model} {A : Around} {E : Value -> Shared -> Prop} {s : Shared} {κ : SortKind} {r : Keyed -> Int} {a₀ xs ys : Array Keyed}
theorem b3p {src d : Nat} (hs : src < xs.size) (hd : d <= src) (k : Nat) : kx r (bubble xs src d) k = if k = src - d then kx r xs src else if src - d < k /\ k <= src then kx r xs (k - 1) else kx r xs k := by
 have e := getElem?_bubble hs d hd k
 by_cases h1 : k = src - d
 ·rw [if_pos h1] at e ⊢
  exact a2C r (a2s e)
 ·rw [if_neg h1] at e ⊢
  by_cases h2 : src - d < k /\ k <= src
  ·rw [if_pos h2] at e ⊢
   exact a2C r (a2s e)
  ·rw [if_neg h2] at e ⊢
   exact a2C r (a2s e)
theorem b8u {st : SortSt} {lo n ok : Nat} {Q : Bool -> SortSt -> Prop} (K : Asks M A s κ r a₀) (B : StOk κ a₀ st) (hn : lo + n <= a₀.size) (hok : ok <= n) (hs : Ris r (arrOf st) lo (lo + ok))
  (h : ∀ st', StOk κ a₀ st' -> pendingOf st' = pendingOf st -> gallopOf st' = gallopOf st -> Out (arrOf st) (arrOf st') lo (lo + n) -> Ris r (arrOf st') lo (lo + n) -> Q true st') : wpS M A E s (binarySort' lo n ok) Q st := by
 rw [binarySort'_eq]
 refine a0W (a5S (a3B (I := fun k c st' => c = (none, ()) /\ StOk κ a₀ st' /\ pendingOf st' = pendingOf st /\ gallopOf st' = gallopOf st /\ Out (arrOf st) (arrOf st') lo (lo + n) /\ Ris r (arrOf st') lo (lo + min k n))
  (Q := fun c st' => c = (none, ()) /\ StOk κ a₀ st' /\ pendingOf st' = pendingOf st /\ gallopOf st' = gallopOf st /\ Out (arrOf st) (arrOf st') lo (lo + n) /\ Ris r (arrOf st') lo (lo + n)) ?step ?fin ?init) ?post)
 case post =>
  rintro c st' ⟨rfl, B', pe, ga, o, u⟩
  exact a1D (h st' B' pe ga o u)
 case init =>
  refine ⟨rfl, B, rfl, rfl, Out.refl _ _ _, fun i j h1 h2 h3 => ?_⟩
  exact hs i j h1 h2 (by lia)
 case fin =>
  rintro c st' ⟨hc, B', pe, ga, o, u⟩
  refine ⟨hc, B', pe, ga, o, ?_⟩
  rwa [show min (max (max ok 1) n) n = n by lia] at u
 case step =>
  rintro k c st' hak hkn ⟨rfl, B', pe, ga, o, hs'⟩
  rw [show min k n = k by lia] at hs'
  have sz := a2z B'.perm
  refine a0W (a5S (a3B (I := fun x c st'' => st'' = st' /\ ∃ l q, c = (none, l, q) /\ l <= q /\ q <= k /\ q + x <= k + l /\
    (∀ i, i < l -> kx r (arrOf st') (lo + i) < kx r (arrOf st') (lo + k)) /\ (∀ i, q <= i -> i < k -> kx r (arrOf st') (lo + k) < kx r (arrOf st') (lo + i)))
   (Q := fun c st'' => st'' = st' /\ ∃ l q, c = (none, l, q) /\ l <= k /\
    (∀ i, i < l -> kx r (arrOf st') (lo + i) < kx r (arrOf st') (lo + k)) /\ (∀ i, l <= i -> i < k -> kx r (arrOf st') (lo + k) < kx r (arrOf st') (lo + i))) ?istep ?ifin ?iinit) ?ipost)
  case iinit => exact ⟨rfl, 0, k, rfl, by lia, by lia, by lia, fun i hi => by lia, fun i h1 h2 => by lia⟩
  case ifin =>
   rintro c st'' ⟨rfl, l, q, rfl, hlr, hrk, hm, hlo, hhi⟩
   have : l = q := by lia
   subst this
   exact ⟨rfl, l, l, rfl, hrk, hlo, hhi⟩
  case istep =>
   rintro x c st'' _ hxk ⟨rfl, l, q, rfl, hlr, hrk, hm, hlo, hhi⟩
   dsimp only
   by_cases hge : l ≥ q
   ·rw [if_pos hge]
    have : l = q := by lia
    subst this
    exact a1D ⟨rfl, l, l, rfl, hrk, hlo, hhi⟩
   ·rw [if_neg hge]
    have d1 : l <= (l + q) / 2 := by lia
    have d2 : (l + q) / 2 < q := by lia
    clear hge
    generalize (l + q) / 2 = d at d1 d2 ⊢
    have dk : d < k := a1E d2 hrk
    refine a0W (a9h K B' (by lia) (by lia) ?_)
    by_cases hless : kx r (arrOf st'') (lo + k) < kx r (arrOf st'') (lo + d)
    ·simp only [hless, decide_true, if_true]
     refine a1D ⟨rfl, l, d, rfl, d1, a3G dk, by lia, hlo, fun i h1 h2 => ?_⟩
     by_cases z : i = d
     ·subst z
      exact hless
     ·exact a9E hless (hs' (lo + d) (lo + i) (a4Q ..) (a7C (a6A h1 (a3R z)) _) (a7C h2 _))
    ·simp only [hless, decide_false, Bool.false_eq_true, if_false]
     have ne := K.apart B'.perm (i := lo + k) (j := lo + d) (by lia) (by lia) (by lia)
     refine a1D ⟨rfl, d + 1, q, rfl, d2, hrk, by lia, fun i h1 => ?_, hhi⟩
     by_cases z : i = d
     ·subst z
      exact Int.lt_iff_le_and_ne.mpr ⟨Int.not_lt.mp hless, ne.symm⟩
     ·exact Int.lt_of_lt_of_le (hs' (lo + i) (lo + d) (a4Q ..) (a7C (a6A (a7R h1) z) _) (a7C dk _)) (Int.not_lt.mp hless)
  case ipost =>
   rintro c st'' ⟨rfl, l, q, rfl, hlk, hlo, hhi⟩
   show wpS _ _ _ _ (do moveDown' (lo + k) (lo + l); pure (ForInStep.yield (none, ()))) _ _
   rw [moveDown'_eq]
   have hks : lo + k < (arrOf st'').size := by lia
   refine a0W (a6M (a1D ⟨rfl, B'.set (bubble_perm _ _ _), pe, ga, o.trans fun j hj => ?_, ?_⟩))
   ·show (bubble (arrOf st'') (lo + k) (lo + k - (lo + l)))[j]? = _
    rw [getElem?_bubble hks _ (by lia), Nat.sub_sub_self (a5O hlk lo), if_neg (by lia), if_neg (by lia)]
   ·rw [show min (k + 1) n = k + 1 by lia]
    intro i j h1 h2 h3
    show kx r (bubble (arrOf st'') (lo + k) (lo + k - (lo + l))) i < kx r (bubble (arrOf st'') (lo + k) (lo + k - (lo + l))) j
    rw [b3p hks (by lia), b3p hks (by lia), Nat.sub_sub_self (a5O hlk lo)]
    have lo' : ∀ i, lo <= i -> i < lo + l -> kx r (arrOf st'') i < kx r (arrOf st'') (lo + k) := fun i h1 h2 => by
     have := hlo (i - lo) (by lia)
     rwa [show lo + (i - lo) = i by lia] at this
    have hi' : ∀ i, lo + l <= i -> i < lo + k -> kx r (arrOf st'') (lo + k) < kx r (arrOf st'') i := fun i h1 h2 => by
     have := hhi (i - lo) (by lia) (by lia)
     rwa [show lo + (i - lo) = i by lia] at this
    repeat' split
    all_goals first
     | (exfalso; lia)
     | exact lo' _ (by lia) (by lia)
     | exact hi' _ (by lia) (by lia)
     | exact hs' _ _ (by lia) (by lia) (by lia)
def a5h : Bool -> Keyed -> Array Keyed -> Nat -> Nat -> Nat -> StateT SortSt Sem (Option Nat) := sortPriv% PySem.Builtin.gallop
theorem b8v (left : Bool) (key : Keyed) (arr : Array Keyed) (base n hint : Nat) : a5h left key arr base n hint = (do
 let beyond (i : Nat) : StateT SortSt Sem (Option Bool) := do
  let x <- elem' arr (base + i)
  if left then lt' x key else return (<- lt' key x).map (!·)
 let mut lastofs := 0
 let mut ofs := 1
 let mut lo := 0
 let mut hi := 0
 let some right <- beyond hint | return none
 if right then
  let maxofs := n - hint
  for _ in [0:n] do
   if ofs ≥ maxofs then break
   let some more <- beyond (hint + ofs) | return none
   if !more then break
   lastofs := ofs
   ofs := 2 * ofs + 1
  lo := hint + lastofs + 1
  hi := hint + min ofs maxofs
 else
  let maxofs := hint + 1
  for _ in [0:n] do
   if ofs ≥ maxofs then break
   let some found <- beyond (hint - ofs) | return none
   if found then break
   lastofs := ofs
   ofs := 2 * ofs + 1
  lo := hint + 1 - min ofs maxofs
  hi := hint - lastofs
 for _ in [0:n] do
  if lo ≥ hi then break
  let m := lo + (hi - lo) / 2
  let some more <- beyond m | return none
  if more then lo := m + 1 else hi := m
 return some hi) := rfl
end
section
variable {M : Model} {A : Around} {E : Value -> Shared -> Prop} {s : Shared} {κ : SortKind} {r : Keyed -> Int} {a₀ xs ys : Array Keyed}
theorem a3i {st : SortSt} {left : Bool} {key : Keyed} {arr : Array Keyed} {base n hint : Nat} {Q : Option Nat -> SortSt -> Prop} (K : Asks M A s κ r a₀) (hk : kindOf st = κ) (hz : base + n <= arr.size) (mem : ∀ i, i < n -> arr.getD (base + i) d0 ∈ a₀) (mk : key ∈ a₀) (ne : ∀ i, i < n -> kx r arr (base + i) ≠ r key)
  (up : Ris r arr base (base + n)) (hh : hint < n) (q : ∀ k, k <= n -> (∀ i, i < k -> kx r arr (base + i) < r key) -> (∀ i, k <= i -> i < n -> r key < kx r arr (base + i)) -> Q (some k) st) : wpS M A E s (a5h left key arr base n hint) Q st := by
 rw [b8v]
 have bey : ∀ (i : Nat) (Q : Option Bool -> SortSt -> Prop), i < n -> Q (some (decide (kx r arr (base + i) < r key))) st -> wpS M A E s (do
   let x <- elem' arr (base + i)
   if left then lt' x key else return (<- lt' key x).map (!·)) Q st := fun i Q hi hQ => by
  refine a0W (a0w (by lia) ?_)
  cases left with
  | true => exact b3n K hk (mem i hi) mk hQ
  | false =>
   refine a0W (b3n K hk mk (mem i hi) (a1D ?_))
   have e : (!decide (r key < r (arr.getD (base + i) d0))) = decide (kx r arr (base + i) < r key) := by
    have := ne i hi
    by_cases z : kx r arr (base + i) < r key
    ·rw [a0Y z, a1I (show ¬ r key < r (arr.getD (base + i) d0) from fun y => by have : r key < kx r arr (base + i) := y; lia)]
     rfl
    ·rw [a1I z, a0Y (show r key < r (arr.getD (base + i) d0) from by show r key < kx r arr (base + i); lia)]
     rfl
   show Q (some (!decide (r key < r (arr.getD (base + i) d0)))) st
   rw [e]
   exact hQ
 have dn : ∀ i j, i <= j -> j < n -> kx r arr (base + j) < r key -> kx r arr (base + i) < r key := fun i j ij jn l => by
  by_cases z : i = j
  ·subst z
   exact l
  ·have := up (base + i) (base + j) (by lia) (by lia) (by lia)
   lia
 have upw : ∀ i j, i <= j -> j < n -> ¬ kx r arr (base + i) < r key -> r key < kx r arr (base + j) := fun i j ij jn l => by
  have n1 := ne i (by lia)
  by_cases z : i = j
  ·subst z
   lia
  ·have := up (base + i) (base + j) (by lia) (by lia) (by lia)
   lia
 have fin : ∀ (lo hi : Nat) (st' : SortSt) (f : Nat -> Option (Option Nat) × Nat × Nat -> StateT SortSt Sem (ForInStep (Option (Option Nat) × Nat × Nat))) (g : Option (Option Nat) × Nat × Nat -> StateT SortSt Sem (Option Nat)), st' = st -> lo <= hi -> hi <= n -> (∀ i, i < lo -> kx r arr (base + i) < r key) -> (∀ i, hi <= i -> i < n -> r key < kx r arr (base + i)) ->
   (∀ x l h (R : ForInStep (Option (Option Nat) × Nat × Nat) -> SortSt -> Prop), l ≥ h -> R (.done (none, l, h)) st -> wpS M A E s (f x (none, l, h)) R st) ->
   (∀ x l h (R : ForInStep (Option (Option Nat) × Nat × Nat) -> SortSt -> Prop), l < h -> h <= n -> R (.yield (if kx r arr (base + (l + (h - l) / 2)) < r key then (none, l + (h - l) / 2 + 1, h) else (none, l, l + (h - l) / 2))) st -> wpS M A E s (f x (none, l, h)) R st) ->
   (∀ h, Q (some h) st -> wpS M A E s (g (none, h, h)) Q st) -> wpS M A E s (forIn [0:n] (none, lo, hi) f >>= g) Q st' := fun lo hi st' f g e lh hn dl du f1 f2 f3 => by
  subst e
  refine a0W (a5S (a3B (I := fun x c st'' => st'' = st' /\ ∃ l h, c = (none, l, h) /\ l <= h /\ h <= n /\ h + x <= n + l /\ (∀ i, i < l -> kx r arr (base + i) < r key) /\ ∀ i, h <= i -> i < n -> r key < kx r arr (base + i))
   (Q := fun c st'' => st'' = st' /\ ∃ h, c = (none, h, h) /\ h <= n /\ (∀ i, i < h -> kx r arr (base + i) < r key) /\ ∀ i, h <= i -> i < n -> r key < kx r arr (base + i)) ?step ?stop ⟨rfl, lo, hi, rfl, lh, hn, by lia, dl, du⟩) ?post)
  case step =>
   rintro x c st'' _ hx ⟨rfl, l, h, rfl, l1, l2, l3, d1, d2⟩
   by_cases z : l ≥ h
   ·have : l = h := by lia
    subst this
    exact f1 x l l _ z ⟨rfl, l, rfl, l2, d1, d2⟩
   ·refine f2 x l h _ (by lia) l2 ?_
    by_cases c : kx r arr (base + (l + (h - l) / 2)) < r key
    ·rw [if_pos c]
     exact ⟨rfl, _, _, rfl, by lia, by lia, by lia, fun i hi => dn i _ (by lia) (by lia) c, d2⟩
    ·rw [if_neg c]
     exact ⟨rfl, _, _, rfl, by lia, by lia, by lia, d1, fun i h1 h2 => upw _ i h1 h2 c⟩
  case stop =>
   rintro c st'' ⟨rfl, l, h, rfl, l1, l2, l3, d1, d2⟩
   have : l = h := by lia
   subst this
   exact ⟨rfl, l, rfl, l2, d1, d2⟩
  case post =>
   rintro c st'' ⟨rfl, h, rfl, h2, d1, d2⟩
   exact f3 h (q h h2 d1 d2)
 refine a0W (bey hint _ hh ?_)
 by_cases c0 : kx r arr (base + hint) < r key
 ·rw [a0Y c0]
  dsimp only
  rw [if_pos rfl]
  refine a0W (a5S (a3B (I := fun x c st' => st' = st /\ ∃ l o, c = (none, l, o) /\ l < o /\ x + 1 <= o /\ l < n - hint /\ kx r arr (base + (hint + l)) < r key)
   (Q := fun c st' => st' = st /\ ∃ l o, c = (none, l, o) /\ l < o /\ l < n - hint /\ kx r arr (base + (hint + l)) < r key /\ (o < n - hint -> ¬ kx r arr (base + (hint + o)) < r key)) ?step ?stop ⟨rfl, 0, 1, rfl, by lia, by lia, by lia, c0⟩) ?post)
  case step =>
   rintro x c st' _ hx ⟨rfl, l, o, rfl, l1, l2, l3, l4⟩
   dsimp only
   by_cases z : o ≥ n - hint
   ·rw [if_pos z]
    exact a1D ⟨rfl, l, o, rfl, l1, l3, l4, fun y => by lia⟩
   ·rw [if_neg z]
    refine a0W (bey _ _ (by lia) ?_)
    by_cases c : kx r arr (base + (hint + o)) < r key
    ·rw [a0Y c]
     exact a1D ⟨rfl, o, _, rfl, by lia, by lia, by lia, c⟩
    ·rw [a1I c]
     exact a1D ⟨rfl, l, o, rfl, l1, l3, l4, fun _ => c⟩
  case stop =>
   rintro c st' ⟨rfl, l, o, rfl, l1, l2, l3, l4⟩
   exact ⟨rfl, l, o, rfl, l1, l3, l4, fun y => by lia⟩
  case post =>
   rintro c st' ⟨rfl, l, o, rfl, l1, l3, l4, l5⟩
   dsimp only
   refine fin (hint + l + 1) (hint + min o (n - hint)) _ _ _ rfl (a5O (Nat.le_min.mpr ⟨l1, l3⟩) hint) (a1A (a5O (Nat.min_le_right ..) hint) (a7U (a3L (a3G hh)))) (fun i hi => dn i (hint + l) (a7R hi) (Nat.add_lt_of_lt_sub' l3) l4) (fun i h1 h2 => by
    by_cases z : o < n - hint
    ·exact upw (hint + o) i (by rw [a6F (a3G z)] at h1; exact h1) h2 (l5 z)
    ·rw [Nat.min_eq_right (a8B z), a3L (a3G hh)] at h1
     exact absurd h2 (Nat.not_lt.mpr h1)) (fun x l h R z hR => ?_) (fun x l h R z hn hR => ?_) (fun h hq => a1D hq)
   ·dsimp only
    rw [if_pos z]
    exact a1D hR
   ·dsimp only
    rw [if_neg (by lia)]
    refine a0W (bey _ _ (by lia) ?_)
    by_cases c : kx r arr (base + (l + (h - l) / 2)) < r key
    ·rw [if_pos c] at hR
     rw [a0Y c]
     exact a1D hR
    ·rw [if_neg c] at hR
     rw [a1I c]
     exact a1D hR
 ·rw [a1I c0]
  dsimp only
  rw [if_neg (by decide)]
  refine a0W (a5S (a3B (I := fun x c st' => st' = st /\ ∃ l o, c = (none, l, o) /\ l < o /\ x + 1 <= o /\ l < hint + 1 /\ ¬ kx r arr (base + (hint - l)) < r key)
   (Q := fun c st' => st' = st /\ ∃ l o, c = (none, l, o) /\ l < o /\ l < hint + 1 /\ ¬ kx r arr (base + (hint - l)) < r key /\ (o < hint + 1 -> kx r arr (base + (hint - o)) < r key)) ?step ?stop ⟨rfl, 0, 1, rfl, by lia, by lia, by lia, c0⟩) ?post)
  case step =>
   rintro x c st' _ hx ⟨rfl, l, o, rfl, l1, l2, l3, l4⟩
   dsimp only
   by_cases z : o ≥ hint + 1
   ·rw [if_pos z]
    exact a1D ⟨rfl, l, o, rfl, l1, l3, l4, fun y => by lia⟩
   ·rw [if_neg z]
    refine a0W (bey _ _ (by lia) ?_)
    by_cases c : kx r arr (base + (hint - o)) < r key
    ·rw [a0Y c]
     exact a1D ⟨rfl, l, o, rfl, l1, l3, l4, fun _ => c⟩
    ·rw [a1I c]
     exact a1D ⟨rfl, o, _, rfl, by lia, by lia, by lia, c⟩
  case stop =>
   rintro c st' ⟨rfl, l, o, rfl, l1, l2, l3, l4⟩
   exact ⟨rfl, l, o, rfl, l1, l3, l4, fun y => by lia⟩
  case post =>
   rintro c st' ⟨rfl, l, o, rfl, l1, l3, l4, l5⟩
   dsimp only
   refine fin (hint + 1 - min o (hint + 1)) (hint - l) _ _ _ rfl (a1A (Nat.sub_le_sub_left (Nat.le_min.mpr ⟨l1, l3⟩) _) (a7U (Nat.add_sub_add_right ..))) (a1A (Nat.sub_le ..) (a3G hh)) (fun i hi => by
    by_cases z : o < hint + 1
    ·rw [a6F (a3G z), Nat.succ_sub (a7R z)] at hi
     exact dn i (hint - o) (a7R hi) (a5Z (Nat.sub_le ..) hh) (l5 z)
    ·rw [Nat.min_eq_right (a8B z), a9C] at hi
     exact absurd hi (a4K _)) (fun i h1 h2 => upw (hint - l) i h1 h2 l4) (fun x l h R z hR => ?_) (fun x l h R z hn hR => ?_) (fun h hq => a1D hq)
   ·dsimp only
    rw [if_pos z]
    exact a1D hR
   ·dsimp only
    rw [if_neg (by lia)]
    refine a0W (bey _ _ (by lia) ?_)
    by_cases c : kx r arr (base + (l + (h - l) / 2)) < r key
    ·rw [if_pos c] at hR
     rw [a0Y c]
     exact a1D hR
    ·rw [if_neg c] at hR
     rw [a1I c]
     exact a1D hR
end
abbrev T5 : Type := Option (Array Keyed) × Array Keyed × Nat × Nat × Nat
abbrev T6 : Type := Option (Array Keyed) × Array Keyed × Nat × Nat × Nat × Nat
abbrev T7 : Type := Option (Array Keyed) × Array Keyed × Nat × Nat × Nat × Nat × Nat
def b1g : Array Keyed -> Array Keyed -> StateT SortSt Sem (Array Keyed) := sortPriv% PySem.Builtin.mergeLo
def b1h : Array Keyed -> Array Keyed -> StateT SortSt Sem (Array Keyed) := sortPriv% PySem.Builtin.mergeHi
def a2b : Nat -> StateT SortSt Sem Unit := sortPriv% PySem.Builtin.setMinGallop
theorem a8c (g : Nat) : a2b g = modify fun st => SortSt.mk' (kindOf st) (arrOf st) (pendingOf st) g (failedOf st) := rfl
section
variable (a b : Array Keyed)
abbrev a4b (out : Array Keyed) (ia ib : Nat) : Array Keyed := out ++ a.extract ia a.size ++ b.extract ib b.size
abbrev a6v (out : Array Keyed) (ia ib : Nat) : Array Keyed := out ++ b.extract ib b.size ++ a.extract ia a.size
def lo1 (mg : Nat) (c : T6) : StateT SortSt Sem (ForInStep T6) := do
 let some bWins <- lt' (<- elem' b c.2.2.2.1) (<- elem' a c.2.2.1) | pure (.done (some (a4b a b c.2.1 c.2.2.1 c.2.2.2.1), c.2.1, c.2.2.1, c.2.2.2.1, c.2.2.2.2.1, c.2.2.2.2.2))
 if bWins then
  let x <- elem' b c.2.2.2.1
  if c.2.2.2.1 + 1 == b.size then pure (.done (some (a4b a b (c.2.1.push x) c.2.2.1 (c.2.2.2.1 + 1)), c.2.1.push x, c.2.2.1, c.2.2.2.1 + 1, 0, c.2.2.2.2.2 + 1))
  else if c.2.2.2.2.2 + 1 ≥ mg then pure (.done (none, c.2.1.push x, c.2.2.1, c.2.2.2.1 + 1, 0, c.2.2.2.2.2 + 1))
  else pure (.yield (none, c.2.1.push x, c.2.2.1, c.2.2.2.1 + 1, 0, c.2.2.2.2.2 + 1))
 else
  let x <- elem' a c.2.2.1
  if c.2.2.1 + 1 + 1 == a.size then pure (.done (some (a6v a b (c.2.1.push x) (c.2.2.1 + 1) c.2.2.2.1), c.2.1.push x, c.2.2.1 + 1, c.2.2.2.1, c.2.2.2.2.1 + 1, 0))
  else if c.2.2.2.2.1 + 1 ≥ mg then pure (.done (none, c.2.1.push x, c.2.2.1 + 1, c.2.2.2.1, c.2.2.2.2.1 + 1, 0))
  else pure (.yield (none, c.2.1.push x, c.2.2.1 + 1, c.2.2.2.1, c.2.2.2.2.1 + 1, 0))
def lo25 (out : Array Keyed) (ia ib mg k k1 : Nat) : StateT SortSt Sem (ForInStep T7) := do
 let x <- elem' a ia
 if ia + 1 + 1 == a.size then pure (.done (some (a6v a b (out.push x) (ia + 1) ib), out.push x, ia + 1, ib, mg, k, k1))
 else if k < 7 && k1 < 7 then pure (.done (none, out.push x, ia + 1, ib, mg, k, k1))
 else pure (.yield (none, out.push x, ia + 1, ib, mg, k, k1))
def lo24 (out : Array Keyed) (ia ib mg k bc : Nat) : StateT SortSt Sem (ForInStep T7) := do
 let y <- elem' b ib
 if ib + 1 == b.size then pure (.done (some (a4b a b (out.push y) ia (ib + 1)), out.push y, ia, ib + 1, mg, k, bc))
 else do
  let some k1 <- a5h true (<- elem' a ia) b (ib + 1) (b.size - (ib + 1)) 0 | pure (.done (some (a4b a b (out.push y) ia (ib + 1)), out.push y, ia, ib + 1, mg, k, bc))
  if k1 > 0 then
   if ib + 1 + k1 == b.size then pure (.done (some (a4b a b (out.push y ++ b.extract (ib + 1) (ib + 1 + k1)) ia (ib + 1 + k1)), out.push y ++ b.extract (ib + 1) (ib + 1 + k1), ia, ib + 1 + k1, mg, k, k1))
   else lo25 a b (out.push y ++ b.extract (ib + 1) (ib + 1 + k1)) ia (ib + 1 + k1) mg k k1
  else lo25 a b (out.push y) ia (ib + 1) mg k k1
def lo22 (c : T7) (mg : Nat) : StateT SortSt Sem (ForInStep T7) := do
 a2b mg
 let some k <- a5h false (<- elem' b c.2.2.2.1) a c.2.2.1 (a.size - c.2.2.1) 0 | pure (.done (some (a4b a b c.2.1 c.2.2.1 c.2.2.2.1), c.2.1, c.2.2.1, c.2.2.2.1, mg, c.2.2.2.2.2.1, c.2.2.2.2.2.2))
 if k > 0 then
  if c.2.2.1 + k + 1 == a.size then pure (.done (some (a6v a b (c.2.1 ++ a.extract c.2.2.1 (c.2.2.1 + k)) (c.2.2.1 + k) c.2.2.2.1), c.2.1 ++ a.extract c.2.2.1 (c.2.2.1 + k), c.2.2.1 + k, c.2.2.2.1, mg, k, c.2.2.2.2.2.2))
  else if c.2.2.1 + k == a.size then pure (.done (some (a4b a b (c.2.1 ++ a.extract c.2.2.1 (c.2.2.1 + k)) (c.2.2.1 + k) c.2.2.2.1), c.2.1 ++ a.extract c.2.2.1 (c.2.2.1 + k), c.2.2.1 + k, c.2.2.2.1, mg, k, c.2.2.2.2.2.2))
  else lo24 a b (c.2.1 ++ a.extract c.2.2.1 (c.2.2.1 + k)) (c.2.2.1 + k) c.2.2.2.1 mg k c.2.2.2.2.2.2
 else lo24 a b c.2.1 c.2.2.1 c.2.2.2.1 mg k c.2.2.2.2.2.2
def lo2 (c : T7) : StateT SortSt Sem (ForInStep T7) := if c.2.2.2.2.1 > 1 then lo22 a b c (c.2.2.2.2.1 - 1) else lo22 a b c c.2.2.2.2.1
def c9d (c : T5) : StateT SortSt Sem (ForInStep T5) := do
 let c1 <- forIn [0:a.size + b.size] ((none, c.2.1, c.2.2.1, c.2.2.2.1, 0, 0) : T6) fun _ c1 => lo1 a b c.2.2.2.2 c1
 match c1.1 with
 | some r => pure (.done (some r, c1.2.1, c1.2.2.1, c1.2.2.2.1, c.2.2.2.2))
 | none => do
  rule "list.sort.gallop"
  let c2 <- forIn [0:a.size + b.size] ((none, c1.2.1, c1.2.2.1, c1.2.2.2.1, c.2.2.2.2 + 1, c1.2.2.2.2.1, c1.2.2.2.2.2) : T7) fun _ c2 => lo2 a b c2
  match c2.1 with
  | some r => pure (.done (some r, c2.2.1, c2.2.2.1, c2.2.2.2.1, c2.2.2.2.2.1))
  | none => do
   a2b (c2.2.2.2.2.1 + 1)
   pure (.yield (none, c2.2.1, c2.2.2.1, c2.2.2.2.1, c2.2.2.2.2.1 + 1))
def lo0 : StateT SortSt Sem (Array Keyed) := do
 rule "list.sort.merge-lo"
 let x <- elem' b 0
 if 1 == b.size then pure (a4b a b #[x] 0 1)
 else if 0 + 1 == a.size then pure (a6v a b #[x] 0 1)
 else do
  let st <- get
  let c <- forIn [0:a.size + b.size] ((none, #[x], 0, 1, gallopOf st) : T5) fun _ c => c9d a b c
  match c.1 with
  | some r => pure r
  | none => unsupported "internal:list.sort.merge-bound"
theorem b4z : b1g a b = lo0 a b := by
 refine a2C (bind _) (funext fun _ => ?_)
 refine a2C (bind (elem' b 0)) (funext fun x => ?_)
 refine b0C rfl (fun _ => rfl) (fun _ => ?_)
 refine b0C rfl (fun _ => rfl) (fun _ => ?_)
 refine a2C (bind get) (funext fun st => ?_)
 refine congr (a2C bind (a2C (forIn [0:a.size + b.size] _) (funext fun u => funext fun c => ?_))) (funext fun c => ?_)
 ·refine congr (a2C bind (a2C (forIn [0:a.size + b.size] _) (funext fun u => funext fun c1 => rfl))) (funext fun c1 => ?_)
  obtain ⟨r1, out1, ia1, ib1, ac1, bc1⟩ := c1
  cases r1 with
  | some r1 => rfl
  | none =>
   refine a2C (bind _) (funext fun _ => ?_)
   refine congr (a2C bind (a2C (forIn [0:a.size + b.size] _) (funext fun u => funext fun c2 => ?_))) (funext fun c2 => ?_)
   ·refine b0C rfl (fun _ => ?_) (fun _ => ?_)
    ·rfl
    ·rfl
   ·obtain ⟨r2, _⟩ := c2
    cases r2 <;> rfl
 ·obtain ⟨r, _⟩ := c
  cases r <;> rfl
end
abbrev Up (r : Keyed -> Int) (l : List Keyed) : Prop := l.Pairwise fun x y => r x < r y
structure Mg (r : Keyed -> Int) (la lb out : List Keyed) (ia ib : Nat) : Prop where
 perm : (out ++ la.drop ia ++ lb.drop ib).Perm (la ++ lb)
 so : Up r out
 oa : ∀ x ∈ out, ∀ y ∈ la.drop ia, r x < r y
 ob : ∀ x ∈ out, ∀ y ∈ lb.drop ib, r x < r y
section
variable {r : Keyed -> Int} {la lb out : List Keyed} {ia ib : Nat}
theorem b1i {l : List Keyed} (h : Up r l) (i : Nat) : Up r (l.drop i) := a3W (List.drop_sublist i l) h
theorem c2f {l : List Keyed} (h : Up r l) (i k : Nat) : Up r ((l.drop i).take k) /\ ∀ x ∈ (l.drop i).take k, ∀ y ∈ l.drop (i + k), r x < r y := by
 have z := b1i h i
 rw [<- a2Q k (l.drop i)] at z
 obtain ⟨h1, _, h3⟩ := a1O.mp z
 rw [List.drop_drop] at h3
 exact ⟨h1, h3⟩
theorem Mg.len (m : Mg r la lb out ia ib) (h1 : ia <= la.length) (h2 : ib <= lb.length) : out.length + (la.length - ia) + (lb.length - ib) = la.length + lb.length := by
 have z := m.perm.length_eq
 rw [a0Z, a0Z, a0Z, a6Y, a6Y] at z
 exact z
theorem Mg.moveA (m : Mg r la lb out ia ib) (sa : Up r la) (k : Nat) (h : ∀ x ∈ (la.drop ia).take k, ∀ y ∈ lb.drop ib, r x < r y) : Mg r la lb (out ++ (la.drop ia).take k) (ia + k) ib := by
 obtain ⟨t1, t2⟩ := c2f sa ia k
 have e : (la.drop ia).take k ++ la.drop (ia + k) = la.drop ia := by rw [<- List.drop_drop]; exact a2Q k _
 have sub : ∀ y ∈ la.drop (ia + k), y ∈ la.drop ia := fun y hy => by rw [<- e]; exact a0K.mpr (.inr hy)
 refine ⟨?_, a1O.mpr ⟨m.so, t1, fun x hx y hy => m.oa x hx y (a4S hy)⟩, fun x hx y hy => ?_, fun x hx y hy => ?_⟩
 ·have z := m.perm
  rw [<- e, <- a1K] at z
  exact z
 ·rcases a0K.mp hx with z | z
  ·exact m.oa x z y (sub y hy)
  ·exact t2 x z y hy
 ·rcases a0K.mp hx with z | z
  ·exact m.ob x z y hy
  ·exact h x z y hy
theorem Mg.moveB (m : Mg r la lb out ia ib) (sb : Up r lb) (k : Nat) (h : ∀ x ∈ (lb.drop ib).take k, ∀ y ∈ la.drop ia, r x < r y) : Mg r la lb (out ++ (lb.drop ib).take k) ia (ib + k) := by
 obtain ⟨t1, t2⟩ := c2f sb ib k
 have e : (lb.drop ib).take k ++ lb.drop (ib + k) = lb.drop ib := by rw [<- List.drop_drop]; exact a2Q k _
 have sub : ∀ y ∈ lb.drop (ib + k), y ∈ lb.drop ib := fun y hy => by rw [<- e]; exact a0K.mpr (.inr hy)
 refine ⟨?_, a1O.mpr ⟨m.so, t1, fun x hx y hy => m.ob x hx y (a4S hy)⟩, fun x hx y hy => ?_, fun x hx y hy => ?_⟩
 ·have z := m.perm
  rw [<- e] at z
  refine List.Perm.trans ?_ z
  rw [a1K, a1K, a1K]
  refine a5D _ ?_
  rw [<- a1K, <- a1K]
  exact a5Y _ a6G
 ·rcases a0K.mp hx with z | z
  ·exact m.oa x z y hy
  ·exact h x z y hy
 ·rcases a0K.mp hx with z | z
  ·exact m.ob x z y (sub y hy)
  ·exact t2 x z y hy
def a8d (r : Keyed -> Int) (la lb out : List Keyed) : Prop := out.Perm (la ++ lb) /\ Up r out
theorem Mg.endB (m : Mg r la lb out ia ib) (sa : Up r la) (h : lb.length <= ib) : a8d r la lb (out ++ la.drop ia ++ lb.drop ib) := by
 refine ⟨m.perm, ?_⟩
 rw [List.drop_of_length_le h, a2J]
 exact a1O.mpr ⟨m.so, b1i sa ia, m.oa⟩
theorem Mg.endA (m : Mg r la lb out ia ib) (sb : Up r lb) (h : la.length <= ia) : a8d r la lb (out ++ la.drop ia ++ lb.drop ib) := by
 refine ⟨m.perm, ?_⟩
 rw [List.drop_of_length_le h, a2J]
 exact a1O.mpr ⟨m.so, b1i sb ib, m.ob⟩
theorem Mg.last (m : Mg r la lb out ia ib) (sb : Up r lb) (h : ia + 1 = la.length) (top : ∀ y ∈ lb, ∀ x ∈ la.drop ia, r y < r x) : a8d r la lb (out ++ lb.drop ib ++ la.drop ia) := by
 refine ⟨List.Perm.trans ?_ m.perm, ?_⟩
 ·rw [a1K, a1K]
  exact a5D _ a6G
 ·obtain ⟨x, ex⟩ : ∃ x, la.drop ia = [x] := List.length_eq_one_iff.mp (by rw [a6Y]; lia)
  refine a1O.mpr ⟨a1O.mpr ⟨m.so, b1i sb ib, m.ob⟩, by rw [ex]; exact a2R _ _, fun y hy x hx => ?_⟩
  rcases a0K.mp hy with z | z
  ·exact m.oa y z x hx
  ·exact top y (a8I z) x hx
end
structure Eqv (st st' : SortSt) : Prop where
 kind : kindOf st' = kindOf st
 arr : arrOf st' = arrOf st
 pend : pendingOf st' = pendingOf st
 ok : failedOf st' = failedOf st
theorem Eqv.refl (st : SortSt) : Eqv st st := ⟨rfl, rfl, rfl, rfl⟩
theorem Eqv.trans {a b c : SortSt} (h : Eqv a b) (h' : Eqv b c) : Eqv a c := ⟨h'.kind.trans h.kind, h'.arr.trans h.arr, h'.pend.trans h.pend, h'.ok.trans h.ok⟩
section
variable {M : Model} {A : Around} {E : Value -> Shared -> Prop} {s : Shared} {κ : SortKind} {r : Keyed -> Int} {a₀ a b out : Array Keyed} {ia ib : Nat}
theorem a5r {g : Nat} {st : SortSt} {Q : Unit -> SortSt -> Prop} (h : ∀ st', Eqv st st' -> Q () st') : wpS M A E s (a2b g) Q st := by
 rw [a8c]
 exact a6M (h _ ⟨rfl, rfl, rfl, rfl⟩)
theorem b6y (a : Array Keyed) (i : Nat) : (a.extract i a.size).toList = a.toList.drop i := by
 rw [a6Q, a5H, a5X (by rw [a6Y, a0L]; exact a0N _)]
theorem d2f (a : Array Keyed) (i k : Nat) : (a.extract i (i + k)).toList = (a.toList.drop i).take k := by
 rw [a6Q, a5H, a5T]
theorem a5i : (a4b a b out ia ib).toList = out.toList ++ a.toList.drop ia ++ b.toList.drop ib := by
 rw [a2L, a2L, b6y, b6y]
theorem a6w : (a6v a b out ia ib).toList = out.toList ++ b.toList.drop ib ++ a.toList.drop ia := by
 rw [a2L, a2L, b6y, b6y]
theorem b5a {i : Nat} (h : i < a.size) : a.toList.drop i = a.getD i d0 :: a.toList.drop (i + 1) := by
 have z := a5g h
 rw [<- a1W] at z
 obtain ⟨h1, h2⟩ := a0B.mp z
 rw [a5G h1, h2]
theorem a8l {i : Nat} {x : Keyed} (h : x ∈ a.toList.drop i) : ∃ j, i <= j /\ j < a.size /\ a.getD j d0 = x := by
 obtain ⟨j, hj⟩ := a3Z h
 rw [a7G, a1W] at hj
 exact ⟨i + j, by lia, (a4C.mp hj).1, a7n hj⟩
theorem b1j {i k : Nat} {x : Keyed} (h : x ∈ (a.toList.drop i).take k) : ∃ j, j < k /\ i + j < a.size /\ a.getD (i + j) d0 = x := by
 obtain ⟨j, hj⟩ := a3Z h
 rw [a9F] at hj
 split at hj
 ·next l =>
  rw [a7G, a1W] at hj
  exact ⟨j, l, (a4C.mp hj).1, a7n hj⟩
 ·cases hj
theorem b0k {lo hi : Nat} (h : Up r a.toList) (hh : hi <= a.size) : Ris r a lo hi := fun i j _ h2 h3 => by
 have e : ∀ k, k < a.size -> a.toList[k]? = some (a.getD k d0) := fun k hk => by rw [a1W]; exact a5g hk
 obtain ⟨l1, e1⟩ := a0B.mp (e i (by lia))
 obtain ⟨l2, e2⟩ := a0B.mp (e j (by lia))
 have z := a2H.mp h i j l1 l2 h2
 rw [e1, e2] at z
 exact z
theorem a2l {i : Nat} (h : i < a.size) : a.getD i d0 ∈ a.toList := by
 rw [a8J]
 exact a5F (a5g h)
structure Two (κ : SortKind) (r : Keyed -> Int) (a₀ a b : Array Keyed) : Prop where
 ma : ∀ x ∈ a.toList, x ∈ a₀
 mb : ∀ x ∈ b.toList, x ∈ a₀
 sa : Up r a.toList
 sb : Up r b.toList
 ap : ∀ x ∈ a.toList, ∀ y ∈ b.toList, r x ≠ r y
 a1 : 0 < a.size
 b1 : 0 < b.size
 lo : ∀ x ∈ a.toList, r (b.getD 0 d0) < r x
 top : ∀ y ∈ b.toList, r y < r (a.getD (a.size - 1) d0)
abbrev Gd (r : Keyed -> Int) (a b m : Array Keyed) : Prop := a8d r a.toList b.toList m.toList
theorem Two.tops (t : Two κ r a₀ a b) {i : Nat} (h : i + 1 = a.size) : ∀ y ∈ b.toList, ∀ x ∈ a.toList.drop i, r y < r x := fun y hy x hx => by
 obtain ⟨j, h1, h2, rfl⟩ := a8l hx
 have e : j = a.size - 1 := by lia
 subst e
 exact t.top y hy
theorem a6x {x : Keyed} : (out.push x).toList = out.toList ++ [x] := a5L
theorem d2g (t : Two κ r a₀ a b) (m : Mg r a.toList b.toList out.toList ia ib) (ha : ia < a.size) (h : ∀ y ∈ b.toList.drop ib, r (a.getD ia d0) < r y) : Mg r a.toList b.toList (out.push (a.getD ia d0)).toList (ia + 1) ib := by
 have e : (a.toList.drop ia).take 1 = [a.getD ia d0] := by rw [b5a ha]; rfl
 have z := m.moveA t.sa 1 (by rw [e]; intro x hx; rw [a0F.mp hx]; exact h)
 rw [e] at z
 rw [a6x]
 exact z
theorem c9e (t : Two κ r a₀ a b) (m : Mg r a.toList b.toList out.toList ia ib) (hb : ib < b.size) (h : ∀ y ∈ a.toList.drop ia, r (b.getD ib d0) < r y) : Mg r a.toList b.toList (out.push (b.getD ib d0)).toList ia (ib + 1) := by
 have e : (b.toList.drop ib).take 1 = [b.getD ib d0] := by rw [b5a hb]; rfl
 have z := m.moveB t.sb 1 (by rw [e]; intro x hx; rw [a0F.mp hx]; exact h)
 rw [e] at z
 rw [a6x]
 exact z
theorem below {x : Int} {i : Nat} (sa : Up r a.toList) (ha : i < a.size) (h : x < r (a.getD i d0)) : ∀ y ∈ a.toList.drop i, x < r y := fun y hy => by
 obtain ⟨j, h1, h2, rfl⟩ := a8l hy
 by_cases e : j = i
 ·subst e
  exact h
 ·have := b0k (lo := 0) sa (a0N _) i j (a2U _) (by lia) h2
  show x < kx r a j
  have : x < kx r a i := h
  lia
theorem c9f {st0 : SortSt} {mg old t : Nat} {c : T6} {st : SortSt} {Q : ForInStep T6 -> SortSt -> Prop} (K : Asks M A s κ r a₀) (T : Two κ r a₀ a b) (e0 : Eqv st0 st) (hk : kindOf st0 = κ) (ec : c = (none, out, ia, ib, c.2.2.2.2.1, c.2.2.2.2.2)) (m : Mg r a.toList b.toList out.toList ia ib) (ha : ia + 1 < a.size) (hb : ib < b.size) (hz : old + t <= out.size)
  (q1 : ∀ w rest, Gd r a b w -> Q (.done (some w, rest)) st) (q2 : ∀ out ia ib x y, Mg r a.toList b.toList out.toList ia ib -> ia + 1 < a.size -> ib < b.size -> old + t + 1 <= out.size -> Q (.done (none, out, ia, ib, x, y)) st /\ Q (.yield (none, out, ia, ib, x, y)) st) : wpS M A E s (lo1 a b mg c) Q st := by
 have hk' := e0.kind.trans hk
 unfold lo1
 rw [ec]
 dsimp only
 have la := T.ma _ (a2l (show ia < a.size by lia))
 have lb := T.mb _ (a2l hb)
 refine a0W (a0w hb (a0W (a0w (by lia) (a0W (b3n K hk' lb la ?_)))))
 by_cases w : r (b.getD ib d0) < r (a.getD ia d0)
 ·rw [a0Y w]
  refine a0W (a0w hb ?_)
  have m2 := c9e T m hb (below T.sa (by lia) w)
  by_cases z : ib + 1 = b.size
  ·rw [if_pos (by simpa using z)]
   refine a1D (q1 _ _ ?_)
   show a8d r _ _ (a4b a b _ _ _).toList
   rw [a5i]
   exact m2.endB T.sa (by rw [a0L]; lia)
  ·rw [if_neg (by simpa using z)]
   obtain ⟨h1, h2⟩ := q2 _ _ _ 0 (c.2.2.2.2.2 + 1) m2 ha (by lia) (by rw [a4M]; lia)
   by_cases g : c.2.2.2.2.2 + 1 ≥ mg
   ·rw [if_pos g]
    exact a1D h1
   ·rw [if_neg g]
    exact a1D h2
 ·rw [a1I w]
  refine a0W (a0w (by lia) ?_)
  have ne := T.ap _ (a2l (show ia < a.size by lia)) _ (a2l hb)
  have m2 := d2g T m (by lia) (below T.sb hb (by lia))
  by_cases z : ia + 1 + 1 = a.size
  ·rw [if_pos (by simpa using z)]
   refine a1D (q1 _ _ ?_)
   show a8d r _ _ (a6v a b _ _ _).toList
   rw [a6w]
   exact m2.last T.sb (by rw [a0L]; lia) (T.tops (by lia))
  ·rw [if_neg (by simpa using z)]
   obtain ⟨h1, h2⟩ := q2 _ _ _ (c.2.2.2.2.1 + 1) 0 m2 (by lia) hb (by rw [a4M]; lia)
   by_cases g : c.2.2.2.2.1 + 1 ≥ mg
   ·rw [if_pos g]
    exact a1D h1
   ·rw [if_neg g]
    exact a1D h2
end
section
variable {M : Model} {A : Around} {E : Value -> Shared -> Prop} {s : Shared} {κ : SortKind} {r : Keyed -> Int} {a₀ a b out : Array Keyed} {ia ib : Nat}
structure Rnd (r : Keyed -> Int) (a b : Array Keyed) (st0 : SortSt) (old : Nat) (Q : ForInStep T7 -> SortSt -> Prop) : Prop where
 q1 : ∀ st w rest, Eqv st0 st -> Gd r a b w -> Q (.done (some w, rest)) st
 q2 : ∀ st (out : Array Keyed) ia ib x y z, Eqv st0 st -> Mg r a.toList b.toList out.toList ia ib -> ia + 1 < a.size -> ib < b.size -> old <= out.size -> Q (.done (none, out, ia, ib, x, y, z)) st /\ Q (.yield (none, out, ia, ib, x, y, z)) st
theorem b6z {st0 st : SortSt} {mg k k1 old : Nat} {Q : ForInStep T7 -> SortSt -> Prop} (T : Two κ r a₀ a b) (e0 : Eqv st0 st) (m : Mg r a.toList b.toList out.toList ia ib) (ha : ia + 1 < a.size) (hb : ib < b.size) (hz : old <= out.size) (lt : ∀ y ∈ b.toList.drop ib, r (a.getD ia d0) < r y) (q : Rnd r a b st0 old Q) : wpS M A E s (lo25 a b out ia ib mg k k1) Q st := by
 unfold lo25
 refine a0W (a0w (by lia) ?_)
 have m2 := d2g T m (by lia) lt
 by_cases z : ia + 1 + 1 = a.size
 ·rw [if_pos (by simpa using z)]
  refine a1D (q.q1 _ _ _ e0 ?_)
  show a8d r _ _ (a6v a b _ _ _).toList
  rw [a6w]
  exact m2.last T.sb (by rw [a0L]; lia) (T.tops (by lia))
 ·rw [if_neg (by simpa using z)]
  obtain ⟨h1, h2⟩ := q.q2 st _ _ _ mg k k1 e0 m2 (by lia) hb (by rw [a4M]; lia)
  by_cases g : (decide (k < 7) && decide (k1 < 7)) = true
  ·rw [if_pos g]
   exact a1D h1
  ·rw [if_neg g]
   exact a1D h2
theorem b7a {st0 st : SortSt} {mg k bc old : Nat} {Q : ForInStep T7 -> SortSt -> Prop} (K : Asks M A s κ r a₀) (hk : kindOf st0 = κ) (T : Two κ r a₀ a b) (e0 : Eqv st0 st) (m : Mg r a.toList b.toList out.toList ia ib) (ha : ia + 1 < a.size) (hb : ib < b.size) (hz : old <= out.size) (lt : ∀ y ∈ a.toList.drop ia, r (b.getD ib d0) < r y) (q : Rnd r a b st0 old Q) : wpS M A E s (lo24 a b out ia ib mg k bc) Q st := by
 have hk' := e0.kind.trans hk
 unfold lo24
 refine a0W (a0w hb ?_)
 have m1 := c9e T m hb lt
 have hz1 : old <= (out.push (b.getD ib d0)).size := by rw [a4M]; lia
 generalize out.push (b.getD ib d0) = out1 at m1 hz1
 by_cases z : ib + 1 = b.size
 ·rw [if_pos (by simpa using z)]
  refine a1D (q.q1 _ _ _ e0 ?_)
  show a8d r _ _ (a4b a b _ _ _).toList
  rw [a5i]
  exact m1.endB T.sa (by rw [a0L]; lia)
 rw [if_neg (by simpa using z)]
 have la := a2l (show ia < a.size by lia)
 refine a0W (a0w (by lia) (a0W (a3i K hk' (by lia) (fun i hi => T.mb _ (a2l (by lia))) (T.ma _ la) (fun i hi => (T.ap _ la _ (a2l (show ib + 1 + i < b.size by lia))).symm) (b0k T.sb (by lia)) (by lia) fun k1 kn k2 k3 => ?_)))
 dsimp only
 have ab : ∀ y ∈ b.toList.drop (ib + 1 + k1), r (a.getD ia d0) < r y := fun y hy => by
  obtain ⟨j, h1, h2, rfl⟩ := a8l hy
  have := k3 (j - (ib + 1)) (a8H (a9T .. ▸ h1)) (Nat.sub_lt_sub_right (a1A (a4Q ..) h1) h2)
  rw [a3L (a1A (a4Q ..) h1)] at this
  exact this
 by_cases g : k1 > 0
 ·rw [if_pos g]
  have m2 := m1.moveB T.sb k1 (fun x hx y hy => by
   obtain ⟨j, h1, h2, rfl⟩ := b1j hx
   exact below T.sa (by lia) (k2 j h1) y hy)
  rw [<- d2f, <- a2L] at m2
  have hz2 : old <= (out1 ++ b.extract (ib + 1) (ib + 1 + k1)).size := by rw [a7S]; lia
  by_cases z2 : ib + 1 + k1 = b.size
  ·rw [if_pos (by simpa using z2)]
   refine a1D (q.q1 _ _ _ e0 ?_)
   show a8d r _ _ (a4b a b _ _ _).toList
   rw [a5i]
   exact m2.endB T.sa (by rw [a0L]; lia)
  ·rw [if_neg (by simpa using z2)]
   exact b6z T e0 m2 ha (by lia) hz2 ab q
 ·rw [if_neg g]
  have e : k1 = 0 := Nat.eq_zero_of_not_pos g
  subst e
  exact b6z T e0 m1 ha (by lia) hz1 ab q
theorem b7b {st0 st : SortSt} {c : T7} {mg old : Nat} {Q : ForInStep T7 -> SortSt -> Prop} (K : Asks M A s κ r a₀) (hk : kindOf st0 = κ) (T : Two κ r a₀ a b) (e0 : Eqv st0 st) (ec : c.2.1 = out /\ c.2.2.1 = ia /\ c.2.2.2.1 = ib) (m : Mg r a.toList b.toList out.toList ia ib) (ha : ia + 1 < a.size) (hb : ib < b.size) (hz : old <= out.size) (q : Rnd r a b st0 old Q) : wpS M A E s (lo22 a b c mg) Q st := by
 obtain ⟨e1, e2, e3⟩ := ec
 unfold lo22
 rw [e1, e2, e3]
 refine a0W (a5r fun st1 x1 => ?_)
 have e4 := e0.trans x1
 have hk' := e4.kind.trans hk
 have lb := a2l hb
 refine a0W (a0w hb (a0W (a3i K hk' (by lia) (fun i hi => T.ma _ (a2l (by lia))) (T.mb _ lb) (fun i hi => T.ap _ (a2l (show ia + i < a.size by lia)) _ lb) (b0k T.sa (by lia)) (by lia) fun k kn k2 k3 => ?_)))
 dsimp only
 have ab : ∀ y ∈ a.toList.drop (ia + k), r (b.getD ib d0) < r y := fun y hy => by
  obtain ⟨j, h1, h2, rfl⟩ := a8l hy
  have := k3 (j - ia) (a8H (a9T .. ▸ h1)) (Nat.sub_lt_sub_right (a1A (a4Q ..) h1) h2)
  rw [a3L (a1A (a4Q ..) h1)] at this
  exact this
 by_cases g : k > 0
 ·rw [if_pos g]
  have m2 := m.moveA T.sa k (fun x hx y hy => by
   obtain ⟨j, h1, h2, rfl⟩ := b1j hx
   exact below T.sb hb (k2 j h1) y hy)
  rw [<- d2f, <- a2L] at m2
  have hz2 : old <= (out ++ a.extract ia (ia + k)).size := by rw [a7S]; lia
  by_cases z1 : ia + k + 1 = a.size
  ·rw [if_pos (by simpa using z1)]
   refine a1D (q.q1 _ _ _ e4 ?_)
   show a8d r _ _ (a6v a b _ _ _).toList
   rw [a6w]
   exact m2.last T.sb (by rw [a0L]; lia) (T.tops (by lia))
  rw [if_neg (by simpa using z1)]
  by_cases z2 : ia + k = a.size
  ·rw [if_pos (by simpa using z2)]
   refine a1D (q.q1 _ _ _ e4 ?_)
   show a8d r _ _ (a4b a b _ _ _).toList
   rw [a5i]
   exact m2.endA T.sb (by rw [a0L]; lia)
  rw [if_neg (by simpa using z2)]
  exact b7a K hk T e4 m2 (by lia) hb hz2 ab q
 ·rw [if_neg g]
  have e : k = 0 := Nat.eq_zero_of_not_pos g
  subst e
  exact b7a K hk T e4 m ha hb hz ab q
theorem c9g {st0 st : SortSt} {c : T7} {old : Nat} {Q : ForInStep T7 -> SortSt -> Prop} (K : Asks M A s κ r a₀) (hk : kindOf st0 = κ) (T : Two κ r a₀ a b) (e0 : Eqv st0 st) (ec : c.2.1 = out /\ c.2.2.1 = ia /\ c.2.2.2.1 = ib) (m : Mg r a.toList b.toList out.toList ia ib) (ha : ia + 1 < a.size) (hb : ib < b.size) (hz : old <= out.size) (q : Rnd r a b st0 old Q) : wpS M A E s (lo2 a b c) Q st := by
 unfold lo2
 split
 ·exact b7b K hk T e0 ec m ha hb hz q
 ·exact b7b K hk T e0 ec m ha hb hz q
theorem c2g {st0 st : SortSt} {c : T5} {Q : ForInStep T5 -> SortSt -> Prop} {mg : Nat} (K : Asks M A s κ r a₀) (hk : kindOf st0 = κ) (T : Two κ r a₀ a b) (e0 : Eqv st0 st) (ec : c = (none, out, ia, ib, mg)) (m : Mg r a.toList b.toList out.toList ia ib) (ha : ia + 1 < a.size) (hb : ib < b.size)
  (q1 : ∀ st w rest, Eqv st0 st -> Gd r a b w -> Q (.done (some w, rest)) st) (q2 : ∀ st (out' : Array Keyed) ia ib g, Eqv st0 st -> Mg r a.toList b.toList out'.toList ia ib -> ia + 1 < a.size -> ib < b.size -> out.size + 1 <= out'.size -> Q (.yield (none, out', ia, ib, g)) st) : wpS M A E s (c9d a b c) Q st := by
 subst ec
 unfold c9d
 dsimp only
 have tot : 0 < a.size + b.size := by lia
 refine a0W (a5S (a3B (I := fun x (c1 : T6) st' => Eqv st0 st' /\ ∃ (o : Array Keyed) (i j u v : Nat), c1 = (none, o, i, j, u, v) /\ Mg r a.toList b.toList o.toList i j /\ i + 1 < a.size /\ j < b.size /\ out.size + x <= o.size)
  (Q := fun c1 st' => Eqv st0 st' /\ ((∃ w rest, c1 = (some w, rest) /\ Gd r a b w) ∨ ∃ (o : Array Keyed) (i j u v : Nat), c1 = (none, o, i, j, u, v) /\ Mg r a.toList b.toList o.toList i j /\ i + 1 < a.size /\ j < b.size /\ out.size + 1 <= o.size)) ?step ?stop ⟨e0, out, ia, ib, 0, 0, rfl, m, ha, hb, a0N _⟩) ?post)
 case step =>
  rintro x c1 st' _ hx ⟨e1, o, i, j, u, v, rfl, m1, h1, h2, h3⟩
  refine c9f (old := out.size) (t := x) K T e1 hk rfl m1 h1 h2 h3 (fun w rest g => ⟨e1, .inl ⟨w, rest, rfl, g⟩⟩) fun o' i' j' u' v' m' h1' h2' h3' => ⟨⟨e1, .inr ⟨o', i', j', u', v', rfl, m', h1', h2', by lia⟩⟩, ⟨e1, o', i', j', u', v', rfl, m', h1', h2', by lia⟩⟩
 case stop =>
  rintro c1 st' ⟨e1, o, i, j, u, v, rfl, m1, h1, h2, h3⟩
  exact ⟨e1, .inr ⟨o, i, j, u, v, rfl, m1, h1, h2, by lia⟩⟩
 case post =>
  rintro c1 st' ⟨e1, h⟩
  rcases h with ⟨w, rest, rfl, g⟩ | ⟨o, i, j, u, v, rfl, m1, h1, h2, h3⟩
  ·exact a1D (q1 _ _ _ e1 g)
  dsimp only
  refine a0W (b0I (a6K ⟨rfl, ?_⟩))
  refine a0W (a5S (a3B (I := fun x (c2 : T7) st' => Eqv st0 st' /\ ∃ (o : Array Keyed) (i j u v w : Nat), c2 = (none, o, i, j, u, v, w) /\ Mg r a.toList b.toList o.toList i j /\ i + 1 < a.size /\ j < b.size /\ out.size + 1 <= o.size)
   (Q := fun c2 st' => Eqv st0 st' /\ ((∃ w rest, c2 = (some w, rest) /\ Gd r a b w) ∨ ∃ (o : Array Keyed) (i j u v w : Nat), c2 = (none, o, i, j, u, v, w) /\ Mg r a.toList b.toList o.toList i j /\ i + 1 < a.size /\ j < b.size /\ out.size + 1 <= o.size)) ?step2 ?stop2 ⟨e1, o, i, j, mg + 1, u, v, rfl, m1, h1, h2, h3⟩) ?post2)
  case step2 =>
   rintro x c2 st2 _ hx ⟨e2, o, i, j, u, v, w, rfl, m2, g1, g2, g3⟩
   exact c9g K hk T e2 ⟨rfl, rfl, rfl⟩ m2 g1 g2 g3 ⟨fun st w rest e g => ⟨e, .inl ⟨w, rest, rfl, g⟩⟩, fun st o' i' j' x' y' z' e m' h1' h2' h3' => ⟨⟨e, .inr ⟨o', i', j', x', y', z', rfl, m', h1', h2', h3'⟩⟩, ⟨e, o', i', j', x', y', z', rfl, m', h1', h2', h3'⟩⟩⟩
  case stop2 =>
   rintro c2 st2 ⟨e2, o, i, j, u, v, w, rfl, m2, g1, g2, g3⟩
   exact ⟨e2, .inr ⟨o, i, j, u, v, w, rfl, m2, g1, g2, g3⟩⟩
  case post2 =>
   rintro c2 st2 ⟨e2, h⟩
   rcases h with ⟨w, rest, rfl, g⟩ | ⟨o, i, j, u, v, w, rfl, m2, g1, g2, g3⟩
   ·exact a1D (q1 _ _ _ e2 g)
   ·dsimp only
    exact a0W (a5r fun st3 x3 => a1D (q2 _ _ _ _ _ (e2.trans x3) m2 g1 g2 g3))
theorem b5b {st : SortSt} {Q : Array Keyed -> SortSt -> Prop} (K : Asks M A s κ r a₀) (hk : kindOf st = κ) (T : Two κ r a₀ a b) (q : ∀ m st', Eqv st st' -> Gd r a b m -> Q m st') : wpS M A E s (b1g a b) Q st := by
 rw [b4z]
 unfold lo0
 refine a0W (b0I (a6K ⟨rfl, a0W (a0w T.b1 ?_)⟩))
 have m0 : Mg r a.toList b.toList (#[] : Array Keyed).toList 0 0 := ⟨by simp, List.Pairwise.nil, fun x hx => (nomatch hx), fun x hx => (nomatch hx)⟩
 have m1 : Mg r a.toList b.toList (#[b.getD 0 d0] : Array Keyed).toList 0 1 := c9e (out := #[]) T m0 T.b1 (fun y hy => T.lo y hy)
 have a1 := T.a1
 have b1 := T.b1
 by_cases z1 : 1 = b.size
 ·rw [if_pos (by simpa using z1)]
  refine a1D (q _ _ (Eqv.refl _) ?_)
  show a8d r _ _ (a4b a b _ _ _).toList
  rw [a5i]
  exact m1.endB T.sa (by rw [a0L]; lia)
 rw [if_neg (by simpa using z1)]
 by_cases z2 : 0 + 1 = a.size
 ·rw [if_pos (by simpa using z2)]
  refine a1D (q _ _ (Eqv.refl _) ?_)
  show a8d r _ _ (a6v a b _ _ _).toList
  rw [a6w]
  exact m1.last T.sb (by rw [a0L]; lia) (T.tops (by lia))
 rw [if_neg (by simpa using z2)]
 refine a0W (a8V (a0W (a5S (a3B (I := fun x (c : T5) st' => Eqv st st' /\ ∃ (o : Array Keyed) (i j g : Nat), c = (none, o, i, j, g) /\ Mg r a.toList b.toList o.toList i j /\ i + 1 < a.size /\ j < b.size /\ x + 1 <= o.size)
  (Q := fun c st' => Eqv st st' /\ ∃ w rest, c = (some w, rest) /\ Gd r a b w) ?step ?stop ⟨Eqv.refl _, _, 0, 1, _, rfl, m1, by lia, by lia, a0N _⟩) ?post)))
 case step =>
  rintro x c st' _ hx ⟨e1, o, i, j, g, rfl, m2, h1, h2, h3⟩
  exact c2g K hk T e1 rfl m2 h1 h2 (fun st w rest e g => ⟨e, w, rest, rfl, g⟩) fun st' o' i' j' g' e m' h1' h2' h3' => ⟨e, o', i', j', g', rfl, m', h1', h2', by lia⟩
 case stop =>
  rintro c st' ⟨e1, o, i, j, g, rfl, m2, h1, h2, h3⟩
  have z := m2.len (by rw [a0L]; lia) (by rw [a0L]; lia)
  rw [a0L, a0L, a0L] at z
  exfalso
  lia
 case post =>
  rintro c st' ⟨e1, w, rest, rfl, g⟩
  exact a1D (q _ _ e1 g)
end
abbrev U5 : Type := Option (Array Keyed) × Nat × Nat × Array Keyed × Nat
abbrev U6 : Type := Option (Array Keyed) × Nat × Nat × Array Keyed × Nat × Nat
abbrev U7 : Type := Option (Array Keyed) × Nat × Nat × Array Keyed × Nat × Nat × Nat
section
variable (a b : Array Keyed)
abbrev a4c (out : Array Keyed) (na nb : Nat) : Array Keyed := a.extract 0 na ++ b.extract 0 nb ++ out.reverse
abbrev a4o (out : Array Keyed) (na nb : Nat) : Array Keyed := b.extract 0 nb ++ a.extract 0 na ++ out.reverse
def hi1 (mg : Nat) (c : U6) : StateT SortSt Sem (ForInStep U6) := do
 let some aWins <- lt' (<- elem' b (c.2.2.1 - 1)) (<- elem' a (c.2.1 - 1)) | pure (.done (some (a4c a b c.2.2.2.1 c.2.1 c.2.2.1), c.2.1, c.2.2.1, c.2.2.2.1, c.2.2.2.2.1, c.2.2.2.2.2))
 if aWins then
  let x <- elem' a (c.2.1 - 1)
  if c.2.1 - 1 == 0 then pure (.done (some (a4c a b (c.2.2.2.1.push x) (c.2.1 - 1) c.2.2.1), c.2.1 - 1, c.2.2.1, c.2.2.2.1.push x, c.2.2.2.2.1 + 1, 0))
  else if c.2.2.2.2.1 + 1 ≥ mg then pure (.done (none, c.2.1 - 1, c.2.2.1, c.2.2.2.1.push x, c.2.2.2.2.1 + 1, 0))
  else pure (.yield (none, c.2.1 - 1, c.2.2.1, c.2.2.2.1.push x, c.2.2.2.2.1 + 1, 0))
 else
  let x <- elem' b (c.2.2.1 - 1)
  if c.2.2.1 - 1 == 1 then pure (.done (some (a4o a b (c.2.2.2.1.push x) c.2.1 (c.2.2.1 - 1)), c.2.1, c.2.2.1 - 1, c.2.2.2.1.push x, 0, c.2.2.2.2.2 + 1))
  else if c.2.2.2.2.2 + 1 ≥ mg then pure (.done (none, c.2.1, c.2.2.1 - 1, c.2.2.2.1.push x, 0, c.2.2.2.2.2 + 1))
  else pure (.yield (none, c.2.1, c.2.2.1 - 1, c.2.2.2.1.push x, 0, c.2.2.2.2.2 + 1))
def hi25 (na nb : Nat) (out : Array Keyed) (mg k k1 : Nat) : StateT SortSt Sem (ForInStep U7) := do
 let x <- elem' a (na - 1)
 if na - 1 == 0 then pure (.done (some (a4c a b (out.push x) (na - 1) nb), na - 1, nb, out.push x, mg, k, k1))
 else if k < 7 && k1 < 7 then pure (.done (none, na - 1, nb, out.push x, mg, k, k1))
 else pure (.yield (none, na - 1, nb, out.push x, mg, k, k1))
def hi24 (na nb : Nat) (out : Array Keyed) (mg k bc : Nat) : StateT SortSt Sem (ForInStep U7) := do
 let y <- elem' b (nb - 1)
 if nb - 1 == 1 then pure (.done (some (a4o a b (out.push y) na (nb - 1)), na, nb - 1, out.push y, mg, k, bc))
 else do
  let some t <- a5h true (<- elem' a (na - 1)) b 0 (nb - 1) (nb - 1 - 1) | pure (.done (some (a4c a b (out.push y) na (nb - 1)), na, nb - 1, out.push y, mg, k, bc))
  if nb - 1 - t > 0 then
   if t == 1 then pure (.done (some (a4o a b (out.push y ++ (b.extract t (nb - 1)).reverse) na t), na, t, out.push y ++ (b.extract t (nb - 1)).reverse, mg, k, nb - 1 - t))
   else if t == 0 then pure (.done (some (a4c a b (out.push y ++ (b.extract t (nb - 1)).reverse) na t), na, t, out.push y ++ (b.extract t (nb - 1)).reverse, mg, k, nb - 1 - t))
   else hi25 a b na t (out.push y ++ (b.extract t (nb - 1)).reverse) mg k (nb - 1 - t)
  else hi25 a b na (nb - 1) (out.push y) mg k (nb - 1 - t)
def hi22 (c : U7) (mg : Nat) : StateT SortSt Sem (ForInStep U7) := do
 a2b mg
 let some t <- a5h false (<- elem' b (c.2.2.1 - 1)) a 0 c.2.1 (c.2.1 - 1) | pure (.done (some (a4c a b c.2.2.2.1 c.2.1 c.2.2.1), c.2.1, c.2.2.1, c.2.2.2.1, mg, c.2.2.2.2.2.1, c.2.2.2.2.2.2))
 if c.2.1 - t > 0 then
  if t == 0 then pure (.done (some (a4c a b (c.2.2.2.1 ++ (a.extract t c.2.1).reverse) t c.2.2.1), t, c.2.2.1, c.2.2.2.1 ++ (a.extract t c.2.1).reverse, mg, c.2.1 - t, c.2.2.2.2.2.2))
  else hi24 a b t c.2.2.1 (c.2.2.2.1 ++ (a.extract t c.2.1).reverse) mg (c.2.1 - t) c.2.2.2.2.2.2
 else hi24 a b c.2.1 c.2.2.1 c.2.2.2.1 mg (c.2.1 - t) c.2.2.2.2.2.2
def hi2 (c : U7) : StateT SortSt Sem (ForInStep U7) := if c.2.2.2.2.1 > 1 then hi22 a b c (c.2.2.2.2.1 - 1) else hi22 a b c c.2.2.2.2.1
def c9h (c : U5) : StateT SortSt Sem (ForInStep U5) := do
 let c1 <- forIn [0:a.size + b.size] ((none, c.2.1, c.2.2.1, c.2.2.2.1, 0, 0) : U6) fun _ c1 => hi1 a b c.2.2.2.2 c1
 match c1.1 with
 | some r => pure (.done (some r, c1.2.1, c1.2.2.1, c1.2.2.2.1, c.2.2.2.2))
 | none => do
  rule "list.sort.gallop"
  let c2 <- forIn [0:a.size + b.size] ((none, c1.2.1, c1.2.2.1, c1.2.2.2.1, c.2.2.2.2 + 1, c1.2.2.2.2.1, c1.2.2.2.2.2) : U7) fun _ c2 => hi2 a b c2
  match c2.1 with
  | some r => pure (.done (some r, c2.2.1, c2.2.2.1, c2.2.2.2.1, c2.2.2.2.2.1))
  | none => do
   a2b (c2.2.2.2.2.1 + 1)
   pure (.yield (none, c2.2.1, c2.2.2.1, c2.2.2.2.1, c2.2.2.2.2.1 + 1))
def hi0 : StateT SortSt Sem (Array Keyed) := do
 rule "list.sort.merge-hi"
 let x <- elem' a (a.size - 1)
 if a.size - 1 == 0 then pure (a4c a b #[x] (a.size - 1) b.size)
 else if b.size == 1 then pure (a4o a b #[x] (a.size - 1) b.size)
 else do
  let st <- get
  let c <- forIn [0:a.size + b.size] ((none, a.size - 1, b.size, #[x], gallopOf st) : U5) fun _ c => c9h a b c
  match c.1 with
  | some r => pure r
  | none => unsupported "internal:list.sort.merge-bound"
theorem b5c : b1h a b = hi0 a b := by
 refine a2C (bind _) (funext fun _ => ?_)
 refine a2C (bind (elem' a (a.size - 1))) (funext fun x => ?_)
 refine b0C rfl (fun _ => rfl) (fun _ => ?_)
 refine b0C rfl (fun _ => rfl) (fun _ => ?_)
 refine a2C (bind get) (funext fun st => ?_)
 refine congr (a2C bind (a2C (forIn [0:a.size + b.size] _) (funext fun u => funext fun c => ?_))) (funext fun c => ?_)
 ·refine congr (a2C bind (a2C (forIn [0:a.size + b.size] _) (funext fun u => funext fun c1 => rfl))) (funext fun c1 => ?_)
  obtain ⟨r1, out1, ia1, ib1, ac1, bc1⟩ := c1
  cases r1 with
  | some r1 => rfl
  | none =>
   refine a2C (bind _) (funext fun _ => ?_)
   refine congr (a2C bind (a2C (forIn [0:a.size + b.size] _) (funext fun u => funext fun c2 => ?_))) (funext fun c2 => ?_)
   ·refine b0C rfl (fun _ => ?_) (fun _ => ?_)
    ·rfl
    ·rfl
   ·obtain ⟨r2, _⟩ := c2
    cases r2 <;> rfl
 ·obtain ⟨r, _⟩ := c
  cases r <;> rfl
end
structure Mh (r : Keyed -> Int) (la lb out : List Keyed) (na nb : Nat) : Prop where
 perm : (la.take na ++ lb.take nb ++ out.reverse).Perm (la ++ lb)
 so : Up r out.reverse
 ao : ∀ x ∈ la.take na, ∀ y ∈ out, r x < r y
 bo : ∀ x ∈ lb.take nb, ∀ y ∈ out, r x < r y
section
variable {r : Keyed -> Int} {la lb out : List Keyed} {na nb : Nat}
theorem c7n {l : List Keyed} (h : Up r l) {n t : Nat} (ht : t <= n) : l.take t ++ (l.take n).drop t = l.take n /\ Up r ((l.take n).drop t) /\ ∀ x ∈ l.take t, ∀ y ∈ (l.take n).drop t, r x < r y := by
 have e : l.take t ++ (l.take n).drop t = l.take n := by
  have z := a2Q t (l.take n)
  rwa [List.take_take, a6F ht] at z
 have z : Up r (l.take n) := a3W (a5J n l) h
 rw [<- e] at z
 obtain ⟨_, h2, h3⟩ := a1O.mp z
 exact ⟨e, h2, h3⟩
theorem Mh.len (m : Mh r la lb out na nb) (h1 : na <= la.length) (h2 : nb <= lb.length) : na + nb + out.length = la.length + lb.length := by
 have z := m.perm.length_eq
 rw [a0Z, a0Z, a0Z, a1U, a1U, List.length_reverse] at z
 lia
theorem Mh.moveA (m : Mh r la lb out na nb) (sa : Up r la) {t : Nat} (ht : t <= na) (h : ∀ x ∈ lb.take nb, ∀ y ∈ (la.take na).drop t, r x < r y) : Mh r la lb (out ++ ((la.take na).drop t).reverse) t nb := by
 obtain ⟨e, u, c⟩ := c7n sa ht
 have sub : ∀ x ∈ la.take t, x ∈ la.take na := fun x hx => by rw [<- e]; exact a0K.mpr (.inl hx)
 have sub2 : ∀ x ∈ (la.take na).drop t, x ∈ la.take na := fun x hx => a8I hx
 have er : (out ++ ((la.take na).drop t).reverse).reverse = (la.take na).drop t ++ out.reverse := by rw [List.reverse_append, List.reverse_reverse]
 refine ⟨?_, ?_, fun x hx y hy => ?_, fun x hx y hy => ?_⟩
 ·rw [er]
  refine List.Perm.trans ?_ m.perm
  conv => rhs; rw [<- e]
  rw [a1K, a1K, a1K]
  refine a5D _ ?_
  rw [<- a1K, <- a1K]
  exact a5Y _ a6G
 ·rw [er]
  exact a1O.mpr ⟨u, m.so, fun x hx y hy => m.ao x (sub2 x hx) y (a3N.mp hy)⟩
 ·rcases a0K.mp hy with z | z
  ·exact m.ao x (sub x hx) y z
  ·exact c x hx y (a3N.mp z)
 ·rcases a0K.mp hy with z | z
  ·exact m.bo x hx y z
  ·exact h x hx y (a3N.mp z)
theorem Mh.moveB (m : Mh r la lb out na nb) (sb : Up r lb) {t : Nat} (ht : t <= nb) (h : ∀ x ∈ la.take na, ∀ y ∈ (lb.take nb).drop t, r x < r y) : Mh r la lb (out ++ ((lb.take nb).drop t).reverse) na t := by
 obtain ⟨e, u, c⟩ := c7n sb ht
 have sub : ∀ x ∈ lb.take t, x ∈ lb.take nb := fun x hx => by rw [<- e]; exact a0K.mpr (.inl hx)
 have sub2 : ∀ x ∈ (lb.take nb).drop t, x ∈ lb.take nb := fun x hx => a8I hx
 have er : (out ++ ((lb.take nb).drop t).reverse).reverse = (lb.take nb).drop t ++ out.reverse := by rw [List.reverse_append, List.reverse_reverse]
 refine ⟨?_, ?_, fun x hx y hy => ?_, fun x hx y hy => ?_⟩
 ·rw [er]
  refine List.Perm.trans ?_ m.perm
  conv => rhs; rw [<- e]
  rw [a1K, a1K, a1K]
 ·rw [er]
  exact a1O.mpr ⟨u, m.so, fun x hx y hy => m.bo x (sub2 x hx) y (a3N.mp hy)⟩
 ·rcases a0K.mp hy with z | z
  ·exact m.ao x hx y z
  ·exact h x hx y (a3N.mp z)
 ·rcases a0K.mp hy with z | z
  ·exact m.bo x (sub x hx) y z
  ·exact c x hx y (a3N.mp z)
theorem Mh.endA (m : Mh r la lb out na nb) (sb : Up r lb) (h : na = 0) : a8d r la lb (la.take na ++ lb.take nb ++ out.reverse) := by
 refine ⟨m.perm, ?_⟩
 subst h
 rw [List.take_zero, a9U]
 exact a1O.mpr ⟨a3W (a5J nb lb) sb, m.so, fun x hx y hy => m.bo x hx y (a3N.mp hy)⟩
theorem Mh.endB (m : Mh r la lb out na nb) (sa : Up r la) (h : nb = 0) : a8d r la lb (la.take na ++ lb.take nb ++ out.reverse) := by
 refine ⟨m.perm, ?_⟩
 subst h
 rw [List.take_zero, a2J]
 exact a1O.mpr ⟨a3W (a5J na la) sa, m.so, fun x hx y hy => m.ao x hx y (a3N.mp hy)⟩
theorem Mh.first (m : Mh r la lb out na nb) (sa : Up r la) (sb : Up r lb) (bot : ∀ y ∈ lb.take nb, ∀ x ∈ la, r y < r x) : a8d r la lb (lb.take nb ++ la.take na ++ out.reverse) := by
 refine ⟨List.Perm.trans (a5Y _ a6G) m.perm, ?_⟩
 refine a1O.mpr ⟨a1O.mpr ⟨a3W (a5J nb lb) sb, a3W (a5J na la) sa, fun y hy x hx => bot y hy x (a4S hx)⟩, m.so, fun x hx y hy => ?_⟩
 rcases a0K.mp hx with z | z
 ·exact m.bo x z y (a3N.mp hy)
 ·exact m.ao x z y (a3N.mp hy)
end
section
variable {M : Model} {A : Around} {E : Value -> Shared -> Prop} {s : Shared} {κ : SortKind} {r : Keyed -> Int} {a₀ a b out : Array Keyed} {na nb : Nat}
theorem c5u (a : Array Keyed) (i : Nat) : (a.extract 0 i).toList = a.toList.take i := by
 rw [a6Q, a5H, List.drop_zero, Nat.sub_zero]
theorem c9i (a : Array Keyed) (t n : Nat) : (a.extract t n).toList = (a.toList.take n).drop t := by
 rw [a6Q, a5H, List.drop_take]
theorem a3r : (a4c a b out na nb).toList = a.toList.take na ++ b.toList.take nb ++ out.toList.reverse := by
 rw [a2L, a2L, c5u, c5u, a6R]
theorem a4d : (a4o a b out na nb).toList = b.toList.take nb ++ a.toList.take na ++ out.toList.reverse := by
 rw [a2L, a2L, c5u, c5u, a6R]
theorem a6y {n : Nat} {x : Keyed} (h : x ∈ a.toList.take n) : ∃ j, j < n /\ j < a.size /\ a.getD j d0 = x := by
 obtain ⟨j, h1, h2, h3⟩ := b1j (i := 0) (k := n) (by rw [List.drop_zero]; exact h)
 rw [a8A] at h2 h3
 exact ⟨j, h1, h2, h3⟩
theorem b1k {t n : Nat} {x : Keyed} (h : x ∈ (a.toList.take n).drop t) : ∃ j, t <= j /\ j < n /\ j < a.size /\ a.getD j d0 = x := by
 obtain ⟨j, hj⟩ := a3Z h
 rw [a7G, a9F] at hj
 split at hj
 ·next l =>
  rw [a1W] at hj
  exact ⟨t + j, by lia, l, (a4C.mp hj).1, a7n hj⟩
 ·cases hj
theorem b1l {n : Nat} (h : n < a.size) : (a.toList.take (n + 1)).drop n = [a.getD n d0] := by
 rw [List.drop_take, b5a h, a5T]
 rfl
theorem b7c {x : Int} {n : Nat} (sa : Up r a.toList) (ha : n < a.size) (h : r (a.getD n d0) < x) : ∀ y ∈ a.toList.take (n + 1), r y < x := fun y hy => by
 obtain ⟨j, h1, h2, rfl⟩ := a6y hy
 by_cases e : j = n
 ·subst e
  exact h
 ·have := b0k (lo := 0) sa (a0N _) j n (a2U _) (by lia) ha
  show kx r a j < x
  have : kx r a n < x := h
  lia
theorem c2h (t : Two κ r a₀ a b) (m : Mh r a.toList b.toList out.toList (na + 1) nb) (ha : na < a.size) (h : ∀ y ∈ b.toList.take nb, r y < r (a.getD na d0)) : Mh r a.toList b.toList (out.push (a.getD na d0)).toList na nb := by
 have z := m.moveA t.sa (t := na) (a7B _) (by rw [b1l ha]; intro x hx y hy; rw [a0F.mp hy]; exact h x hx)
 rw [b1l ha] at z
 rw [a6x]
 exact z
theorem c7o (t : Two κ r a₀ a b) (m : Mh r a.toList b.toList out.toList na (nb + 1)) (hb : nb < b.size) (h : ∀ y ∈ a.toList.take na, r y < r (b.getD nb d0)) : Mh r a.toList b.toList (out.push (b.getD nb d0)).toList na nb := by
 have z := m.moveB t.sb (t := nb) (a7B _) (by rw [b1l hb]; intro x hx y hy; rw [a0F.mp hy]; exact h x hx)
 rw [b1l hb] at z
 rw [a6x]
 exact z
theorem Two.bot (t : Two κ r a₀ a b) : ∀ y ∈ b.toList.take 1, ∀ x ∈ a.toList, r y < r x := fun y hy x hx => by
 obtain ⟨j, h1, h2, rfl⟩ := a6y hy
 have e : j = 0 := by lia
 subst e
 exact t.lo x hx
theorem c9j {st0 : SortSt} {mg old t : Nat} {c : U6} {st : SortSt} {Q : ForInStep U6 -> SortSt -> Prop} (K : Asks M A s κ r a₀) (T : Two κ r a₀ a b) (e0 : Eqv st0 st) (hk : kindOf st0 = κ) (ec : c = (none, na + 1, nb + 2, out, c.2.2.2.2.1, c.2.2.2.2.2)) (m : Mh r a.toList b.toList out.toList (na + 1) (nb + 2)) (ha : na < a.size) (hb : nb + 1 < b.size) (hz : old + t <= out.size)
  (q1 : ∀ w rest, Gd r a b w -> Q (.done (some w, rest)) st) (q2 : ∀ na nb (out : Array Keyed) x y, Mh r a.toList b.toList out.toList (na + 1) (nb + 2) -> na < a.size -> nb + 1 < b.size -> old + t + 1 <= out.size -> Q (.done (none, na + 1, nb + 2, out, x, y)) st /\ Q (.yield (none, na + 1, nb + 2, out, x, y)) st) : wpS M A E s (hi1 a b mg c) Q st := by
 have hk' := e0.kind.trans hk
 unfold hi1
 rw [ec]
 dsimp only
 have la := T.ma _ (a2l ha)
 have lb := T.mb _ (a2l hb)
 rw [show nb + 2 - 1 = nb + 1 by lia, show na + 1 - 1 = na by lia]
 refine a0W (a0w hb (a0W (a0w ha (a0W (b3n K hk' lb la ?_)))))
 by_cases w : r (b.getD (nb + 1) d0) < r (a.getD na d0)
 ·rw [a0Y w]
  refine a0W (a0w ha ?_)
  have m2 := c2h T m ha (b7c T.sb hb w)
  by_cases z : na = 0
  ·rw [if_pos (by simpa using z)]
   refine a1D (q1 _ _ ?_)
   show a8d r _ _ (a4c a b _ _ _).toList
   rw [a3r]
   exact m2.endA T.sb z
  ·rw [if_neg (by simpa using z)]
   obtain ⟨n', rfl⟩ : ∃ n', na = n' + 1 := a2A (by first | assumption | lia)
   obtain ⟨h1, h2⟩ := q2 n' nb _ (c.2.2.2.2.1 + 1) 0 m2 (by lia) hb (by rw [a4M]; lia)
   by_cases g : c.2.2.2.2.1 + 1 ≥ mg
   ·rw [if_pos g]
    exact a1D h1
   ·rw [if_neg g]
    exact a1D h2
 ·rw [a1I w]
  refine a0W (a0w hb ?_)
  have ne := T.ap _ (a2l ha) _ (a2l hb)
  have m2 := c7o T m hb (b7c T.sa ha (by lia))
  by_cases z : nb + 1 = 1
  ·rw [if_pos (by simpa using z)]
   refine a1D (q1 _ _ ?_)
   show a8d r _ _ (a4o a b _ _ _).toList
   rw [a4d]
   exact m2.first T.sa T.sb (by rw [z]; exact T.bot)
  ·rw [if_neg (by simpa using z)]
   obtain ⟨n', rfl⟩ : ∃ n', nb = n' + 1 := a2A (by first | assumption | lia)
   obtain ⟨h1, h2⟩ := q2 na n' _ 0 (c.2.2.2.2.2 + 1) m2 ha (by lia) (by rw [a4M]; lia)
   by_cases g : c.2.2.2.2.2 + 1 ≥ mg
   ·rw [if_pos g]
    exact a1D h1
   ·rw [if_neg g]
    exact a1D h2
structure RndH (r : Keyed -> Int) (a b : Array Keyed) (st0 : SortSt) (old : Nat) (Q : ForInStep U7 -> SortSt -> Prop) : Prop where
 q1 : ∀ st w rest, Eqv st0 st -> Gd r a b w -> Q (.done (some w, rest)) st
 q2 : ∀ st na nb (out : Array Keyed) x y z, Eqv st0 st -> Mh r a.toList b.toList out.toList (na + 1) (nb + 2) -> na < a.size -> nb + 1 < b.size -> old <= out.size -> Q (.done (none, na + 1, nb + 2, out, x, y, z)) st /\ Q (.yield (none, na + 1, nb + 2, out, x, y, z)) st
theorem b7d {st0 st : SortSt} {mg k k1 old : Nat} {Q : ForInStep U7 -> SortSt -> Prop} (T : Two κ r a₀ a b) (e0 : Eqv st0 st) (m : Mh r a.toList b.toList out.toList (na + 1) (nb + 2)) (ha : na < a.size) (hb : nb + 1 < b.size) (hz : old <= out.size) (lt : ∀ y ∈ b.toList.take (nb + 2), r y < r (a.getD na d0)) (q : RndH r a b st0 old Q) : wpS M A E s (hi25 a b (na + 1) (nb + 2) out mg k k1) Q st := by
 unfold hi25
 rw [show na + 1 - 1 = na by lia]
 refine a0W (a0w ha ?_)
 have m2 := c2h T m ha lt
 by_cases z : na = 0
 ·rw [if_pos (by simpa using z)]
  refine a1D (q.q1 _ _ _ e0 ?_)
  show a8d r _ _ (a4c a b _ _ _).toList
  rw [a3r]
  exact m2.endA T.sb z
 ·rw [if_neg (by simpa using z)]
  obtain ⟨n', rfl⟩ : ∃ n', na = n' + 1 := a2A (by first | assumption | lia)
  obtain ⟨h1, h2⟩ := q.q2 st n' nb _ mg k k1 e0 m2 (by lia) hb (by rw [a4M]; lia)
  by_cases g : (decide (k < 7) && decide (k1 < 7)) = true
  ·rw [if_pos g]
   exact a1D h1
  ·rw [if_neg g]
   exact a1D h2
theorem b7e {st0 st : SortSt} {mg k bc old : Nat} {Q : ForInStep U7 -> SortSt -> Prop} (K : Asks M A s κ r a₀) (hk : kindOf st0 = κ) (T : Two κ r a₀ a b) (e0 : Eqv st0 st) (m : Mh r a.toList b.toList out.toList (na + 1) (nb + 2)) (ha : na < a.size) (hb : nb + 1 < b.size) (hz : old <= out.size) (lt : ∀ y ∈ a.toList.take (na + 1), r y < r (b.getD (nb + 1) d0)) (q : RndH r a b st0 old Q) : wpS M A E s (hi24 a b (na + 1) (nb + 2) out mg k bc) Q st := by
 have hk' := e0.kind.trans hk
 unfold hi24
 rw [show nb + 2 - 1 = nb + 1 by lia, show na + 1 - 1 = na by lia]
 refine a0W (a0w hb ?_)
 have m1 := c7o T m hb lt
 have hz1 : old <= (out.push (b.getD (nb + 1) d0)).size := by rw [a4M]; lia
 generalize out.push (b.getD (nb + 1) d0) = out1 at m1 hz1
 by_cases z : nb + 1 = 1
 ·rw [if_pos (by simpa using z)]
  refine a1D (q.q1 _ _ _ e0 ?_)
  show a8d r _ _ (a4o a b _ _ _).toList
  rw [a4d]
  exact m1.first T.sa T.sb (by rw [z]; exact T.bot)
 rw [if_neg (by simpa using z)]
 have la := a2l ha
 refine a0W (a0w ha (a0W (a3i K hk' (by lia) (fun i hi => T.mb _ (a2l (by lia))) (T.ma _ la) (fun i hi => (T.ap _ la _ (a2l (show 0 + i < b.size by lia))).symm) (b0k T.sb (by lia)) (by lia) fun t kn k2 k3 => ?_)))
 dsimp only
 have bl : ∀ y ∈ b.toList.take t, r y < r (a.getD na d0) := fun y hy => by
  obtain ⟨j, h1, h2, rfl⟩ := a6y hy
  have := k2 j h1
  rw [a8A] at this
  exact this
 by_cases g : nb + 1 - t > 0
 ·rw [if_pos g]
  have m2 := m1.moveB T.sb (t := t) (by lia) (fun x hx y hy => by
   obtain ⟨j, h1, h2, h3, rfl⟩ := b1k hy
   have := k3 j h1 (by lia)
   rw [a8A] at this
   exact b7c T.sa ha this x hx)
  rw [<- c9i, <- a6R, <- a2L] at m2
  have hz2 : old <= (out1 ++ (b.extract t (nb + 1)).reverse).size := by rw [a7S]; lia
  by_cases z1 : t = 1
  ·rw [if_pos (by simpa using z1)]
   refine a1D (q.q1 _ _ _ e0 ?_)
   show a8d r _ _ (a4o a b _ _ _).toList
   rw [a4d]
   exact m2.first T.sa T.sb (by rw [z1]; exact T.bot)
  rw [if_neg (by simpa using z1)]
  by_cases z2 : t = 0
  ·rw [if_pos (by simpa using z2)]
   refine a1D (q.q1 _ _ _ e0 ?_)
   show a8d r _ _ (a4c a b _ _ _).toList
   rw [a3r]
   exact m2.endB T.sa z2
  rw [if_neg (by simpa using z2)]
  obtain ⟨n', rfl⟩ : ∃ n', t = n' + 2 := ⟨t - 2, by lia⟩
  exact b7d T e0 m2 ha (by lia) hz2 bl q
 ·rw [if_neg g]
  have e : t = nb + 1 := by lia
  obtain ⟨n', rfl⟩ : ∃ n', nb = n' + 1 := a2A (by first | assumption | lia)
  subst e
  exact b7d T e0 m1 ha (by lia) hz1 bl q
theorem b7f {st0 st : SortSt} {c : U7} {mg old : Nat} {Q : ForInStep U7 -> SortSt -> Prop} (K : Asks M A s κ r a₀) (hk : kindOf st0 = κ) (T : Two κ r a₀ a b) (e0 : Eqv st0 st) (ec : c.2.1 = na + 1 /\ c.2.2.1 = nb + 2 /\ c.2.2.2.1 = out) (m : Mh r a.toList b.toList out.toList (na + 1) (nb + 2)) (ha : na < a.size) (hb : nb + 1 < b.size) (hz : old <= out.size) (q : RndH r a b st0 old Q) : wpS M A E s (hi22 a b c mg) Q st := by
 obtain ⟨e1, e2, e3⟩ := ec
 unfold hi22
 rw [e1, e2, e3]
 rw [show nb + 2 - 1 = nb + 1 by lia, show na + 1 - 1 = na by lia]
 refine a0W (a5r fun st1 x1 => ?_)
 have e4 := e0.trans x1
 have hk' := e4.kind.trans hk
 have lb := a2l hb
 refine a0W (a0w hb (a0W (a3i K hk' (by lia) (fun i hi => T.ma _ (a2l (by lia))) (T.mb _ lb) (fun i hi => T.ap _ (a2l (show 0 + i < a.size by lia)) _ lb) (b0k T.sa (by lia)) (by lia) fun t kn k2 k3 => ?_)))
 dsimp only
 have bl : ∀ y ∈ a.toList.take t, r y < r (b.getD (nb + 1) d0) := fun y hy => by
  obtain ⟨j, h1, h2, rfl⟩ := a6y hy
  have := k2 j h1
  rw [a8A] at this
  exact this
 by_cases g : na + 1 - t > 0
 ·rw [if_pos g]
  have m2 := m.moveA T.sa (t := t) (by lia) (fun x hx y hy => by
   obtain ⟨j, h1, h2, h3, rfl⟩ := b1k hy
   have := k3 j h1 (by lia)
   rw [a8A] at this
   exact b7c T.sb hb this x hx)
  rw [<- c9i, <- a6R, <- a2L] at m2
  have hz2 : old <= (out ++ (a.extract t (na + 1)).reverse).size := by rw [a7S]; lia
  by_cases z2 : t = 0
  ·rw [if_pos (by simpa using z2)]
   refine a1D (q.q1 _ _ _ e4 ?_)
   show a8d r _ _ (a4c a b _ _ _).toList
   rw [a3r]
   exact m2.endA T.sb z2
  rw [if_neg (by simpa using z2)]
  obtain ⟨n', rfl⟩ : ∃ n', t = n' + 1 := a2A (by first | assumption | lia)
  exact b7e K hk T e4 m2 (by lia) hb hz2 bl q
 ·rw [if_neg g]
  have e : t = na + 1 := by lia
  subst e
  exact b7e K hk T e4 m ha hb hz bl q
theorem c9k {st0 st : SortSt} {c : U7} {old : Nat} {Q : ForInStep U7 -> SortSt -> Prop} (K : Asks M A s κ r a₀) (hk : kindOf st0 = κ) (T : Two κ r a₀ a b) (e0 : Eqv st0 st) (ec : c.2.1 = na + 1 /\ c.2.2.1 = nb + 2 /\ c.2.2.2.1 = out) (m : Mh r a.toList b.toList out.toList (na + 1) (nb + 2)) (ha : na < a.size) (hb : nb + 1 < b.size) (hz : old <= out.size) (q : RndH r a b st0 old Q) : wpS M A E s (hi2 a b c) Q st := by
 unfold hi2
 split
 ·exact b7f K hk T e0 ec m ha hb hz q
 ·exact b7f K hk T e0 ec m ha hb hz q
theorem c2i {st0 st : SortSt} {c : U5} {Q : ForInStep U5 -> SortSt -> Prop} {mg : Nat} (K : Asks M A s κ r a₀) (hk : kindOf st0 = κ) (T : Two κ r a₀ a b) (e0 : Eqv st0 st) (ec : c = (none, na + 1, nb + 2, out, mg)) (m : Mh r a.toList b.toList out.toList (na + 1) (nb + 2)) (ha : na < a.size) (hb : nb + 1 < b.size)
  (q1 : ∀ st w rest, Eqv st0 st -> Gd r a b w -> Q (.done (some w, rest)) st) (q2 : ∀ st na nb (out' : Array Keyed) g, Eqv st0 st -> Mh r a.toList b.toList out'.toList (na + 1) (nb + 2) -> na < a.size -> nb + 1 < b.size -> out.size + 1 <= out'.size -> Q (.yield (none, na + 1, nb + 2, out', g)) st) : wpS M A E s (c9h a b c) Q st := by
 subst ec
 unfold c9h
 dsimp only
 have tot : 0 < a.size + b.size := by lia
 refine a0W (a5S (a3B (I := fun x (c1 : U6) st' => Eqv st0 st' /\ ∃ (i j : Nat) (o : Array Keyed) (u v : Nat), c1 = (none, i + 1, j + 2, o, u, v) /\ Mh r a.toList b.toList o.toList (i + 1) (j + 2) /\ i < a.size /\ j + 1 < b.size /\ out.size + x <= o.size)
  (Q := fun c1 st' => Eqv st0 st' /\ ((∃ w rest, c1 = (some w, rest) /\ Gd r a b w) ∨ ∃ (i j : Nat) (o : Array Keyed) (u v : Nat), c1 = (none, i + 1, j + 2, o, u, v) /\ Mh r a.toList b.toList o.toList (i + 1) (j + 2) /\ i < a.size /\ j + 1 < b.size /\ out.size + 1 <= o.size)) ?step ?stop ⟨e0, na, nb, out, 0, 0, rfl, m, ha, hb, a0N _⟩) ?post)
 case step =>
  rintro x c1 st' _ hx ⟨e1, i, j, o, u, v, rfl, m1, h1, h2, h3⟩
  refine c9j (old := out.size) (t := x) K T e1 hk rfl m1 h1 h2 h3 (fun w rest g => ⟨e1, .inl ⟨w, rest, rfl, g⟩⟩) fun i' j' o' u' v' m' h1' h2' h3' => ⟨⟨e1, .inr ⟨i', j', o', u', v', rfl, m', h1', h2', by lia⟩⟩, ⟨e1, i', j', o', u', v', rfl, m', h1', h2', by lia⟩⟩
 case stop =>
  rintro c1 st' ⟨e1, i, j, o, u, v, rfl, m1, h1, h2, h3⟩
  exact ⟨e1, .inr ⟨i, j, o, u, v, rfl, m1, h1, h2, by lia⟩⟩
 case post =>
  rintro c1 st' ⟨e1, h⟩
  rcases h with ⟨w, rest, rfl, g⟩ | ⟨i, j, o, u, v, rfl, m1, h1, h2, h3⟩
  ·exact a1D (q1 _ _ _ e1 g)
  dsimp only
  refine a0W (b0I (a6K ⟨rfl, ?_⟩))
  refine a0W (a5S (a3B (I := fun x (c2 : U7) st' => Eqv st0 st' /\ ∃ (i j : Nat) (o : Array Keyed) (u v w : Nat), c2 = (none, i + 1, j + 2, o, u, v, w) /\ Mh r a.toList b.toList o.toList (i + 1) (j + 2) /\ i < a.size /\ j + 1 < b.size /\ out.size + 1 <= o.size)
   (Q := fun c2 st' => Eqv st0 st' /\ ((∃ w rest, c2 = (some w, rest) /\ Gd r a b w) ∨ ∃ (i j : Nat) (o : Array Keyed) (u v w : Nat), c2 = (none, i + 1, j + 2, o, u, v, w) /\ Mh r a.toList b.toList o.toList (i + 1) (j + 2) /\ i < a.size /\ j + 1 < b.size /\ out.size + 1 <= o.size)) ?step2 ?stop2 ⟨e1, i, j, o, mg + 1, u, v, rfl, m1, h1, h2, h3⟩) ?post2)
  case step2 =>
   rintro x c2 st2 _ hx ⟨e2, i, j, o, u, v, w, rfl, m2, g1, g2, g3⟩
   exact c9k K hk T e2 ⟨rfl, rfl, rfl⟩ m2 g1 g2 g3 ⟨fun st w rest e g => ⟨e, .inl ⟨w, rest, rfl, g⟩⟩, fun st i' j' o' x' y' z' e m' h1' h2' h3' => ⟨⟨e, .inr ⟨i', j', o', x', y', z', rfl, m', h1', h2', h3'⟩⟩, ⟨e, i', j', o', x', y', z', rfl, m', h1', h2', h3'⟩⟩⟩
  case stop2 =>
   rintro c2 st2 ⟨e2, i, j, o, u, v, w, rfl, m2, g1, g2, g3⟩
   exact ⟨e2, .inr ⟨i, j, o, u, v, w, rfl, m2, g1, g2, g3⟩⟩
  case post2 =>
   rintro c2 st2 ⟨e2, h⟩
   rcases h with ⟨w, rest, rfl, g⟩ | ⟨i, j, o, u, v, w, rfl, m2, g1, g2, g3⟩
   ·exact a1D (q1 _ _ _ e2 g)
   ·dsimp only
    exact a0W (a5r fun st3 x3 => a1D (q2 _ _ _ _ _ (e2.trans x3) m2 g1 g2 g3))
theorem b5d {st : SortSt} {Q : Array Keyed -> SortSt -> Prop} (K : Asks M A s κ r a₀) (hk : kindOf st = κ) (T : Two κ r a₀ a b) (q : ∀ m st', Eqv st st' -> Gd r a b m -> Q m st') : wpS M A E s (b1h a b) Q st := by
 rw [b5c]
 unfold hi0
 have a1 := T.a1
 have b1 := T.b1
 obtain ⟨n, hn⟩ : ∃ n, a.size = n + 1 := a2A (by first | assumption | lia)
 have en : a.size - 1 = n := by lia
 rw [en]
 refine a0W (b0I (a6K ⟨rfl, a0W (a0w (by lia) ?_)⟩))
 have m0 : Mh r a.toList b.toList (#[] : Array Keyed).toList (n + 1) b.size := ⟨by rw [a5X (by rw [a0L]; lia), a5X (by rw [a0L]; exact a0N _)]; simp, List.Pairwise.nil, fun x _ y hy => (nomatch hy), fun x _ y hy => (nomatch hy)⟩
 have m1 : Mh r a.toList b.toList (#[a.getD n d0] : Array Keyed).toList n b.size := c2h (out := #[]) T m0 (by lia) (fun y hy => by have := T.top y (a4S hy); rw [en] at this; exact this)
 by_cases z1 : n = 0
 ·rw [if_pos (by simpa using z1)]
  refine a1D (q _ _ (Eqv.refl _) ?_)
  show a8d r _ _ (a4c a b _ _ _).toList
  rw [a3r]
  exact m1.endA T.sb z1
 rw [if_neg (by simpa using z1)]
 by_cases z2 : b.size = 1
 ·rw [if_pos (by simpa using z2)]
  refine a1D (q _ _ (Eqv.refl _) ?_)
  show a8d r _ _ (a4o a b _ _ _).toList
  rw [a4d]
  exact m1.first T.sa T.sb (by rw [z2]; exact T.bot)
 rw [if_neg (by simpa using z2)]
 obtain ⟨n', rfl⟩ : ∃ n', n = n' + 1 := a2A (by first | assumption | lia)
 obtain ⟨k', hk'⟩ : ∃ k', b.size = k' + 2 := ⟨b.size - 2, by lia⟩
 rw [hk'] at m1
 refine a0W (a8V (a0W (a5S (a3B (I := fun x (c : U5) st' => Eqv st st' /\ ∃ (i j : Nat) (o : Array Keyed) (g : Nat), c = (none, i + 1, j + 2, o, g) /\ Mh r a.toList b.toList o.toList (i + 1) (j + 2) /\ i < a.size /\ j + 1 < b.size /\ x + 1 <= o.size)
  (Q := fun c st' => Eqv st st' /\ ∃ w rest, c = (some w, rest) /\ Gd r a b w) ?step ?stop ⟨Eqv.refl _, n', k', _, _, by rw [hk'], m1, by lia, by lia, a0N _⟩) ?post)))
 case step =>
  rintro x c st' _ hx ⟨e1, i, j, o, g, rfl, m2, h1, h2, h3⟩
  exact c2i K hk T e1 rfl m2 h1 h2 (fun st w rest e g => ⟨e, w, rest, rfl, g⟩) fun st' i' j' o' g' e m' h1' h2' h3' => ⟨e, i', j', o', g', rfl, m', h1', h2', by lia⟩
 case stop =>
  rintro c st' ⟨e1, i, j, o, g, rfl, m2, h1, h2, h3⟩
  have z := m2.len (by rw [a0L]; lia) (by rw [a0L]; lia)
  rw [a0L, a0L, a0L] at z
  exfalso
  lia
 case post =>
  rintro c st' ⟨e1, w, rest, rfl, g⟩
  exact a1D (q _ _ e1 g)
end
theorem b5e (i : Nat) : mergeAt' i = (do
 let s <- get
 let (some (sa, na, power), some (sb, nb, _)) := ((pendingOf s)[i]?, (pendingOf s)[i + 1]?) | unsupported "internal:list.sort.pending"
 set (setPending s (((pendingOf s).setIfInBounds i (sa, na + nb, power)).eraseIdxIfInBounds (i + 1)))
 let some k <- a5h false (<- elem' (arrOf s) sb) (arrOf s) sa na 0 | return false
 let (sa, na) := (sa + k, na - k)
 if na == 0 then return true
 let some nb <- a5h true (<- elem' (arrOf s) (sa + na - 1)) (arrOf s) sb nb (nb - 1) | return false
 if nb == 0 then return true
 let x := (arrOf s).extract sa sb
 let y := (arrOf s).extract sb (sb + nb)
 let merged <- if na <= nb then b1g x y else b1h x y
 modify fun s => setArr s (merged.toList.zipIdx.foldl (fun a (p, j) => a.setIfInBounds (sa + j) p) (arrOf s))
 return (failedOf (<- get)).isNone) := rfl
section
variable {M : Model} {A : Around} {E : Value -> Shared -> Prop} {s : Shared} {κ : SortKind} {r : Keyed -> Int} {a₀ xs ys : Array Keyed}
theorem c9l {st st' : SortSt} {Q : PUnit -> SortSt -> Prop} (h : Q ⟨⟩ st') : wpS M A E s (set st' : StateT SortSt Sem PUnit) Q st := by
 unfold wpS
 rw [StateT.run_set]
 exact a0G ⟨rfl, h⟩
theorem laid : ∀ (ms : List Keyed) (j b : Nat) (xs : Array Keyed), b + j + ms.length <= xs.size -> ((ms.zipIdx j).foldl (fun a (p, j) => a.setIfInBounds (b + j) p) xs).toList = xs.toList.take (b + j) ++ ms ++ xs.toList.drop (b + j + ms.length)
 | [], j, b, xs, _ => by
  rw [a2J, a9V, a8Z]
  exact (a2Q _ _).symm
 | m :: ms, j, b, xs, h => by
  rw [a4O] at h
  rw [List.zipIdx_cons, a9S, laid ms (j + 1) b _ (by rw [Array.size_setIfInBounds]; lia), a8Y, a4O]
  have hl : b + j < xs.toList.length := by rw [a0L]; lia
  have e1 : (xs.toList.set (b + j) m).take (b + (j + 1)) = xs.toList.take (b + j) ++ [m] := by
   rw [show b + (j + 1) = b + j + 1 by lia, List.take_succ_eq_append_getElem (by rw [a5K]; exact hl), List.getElem_set_self, List.take_set_of_le (a0N _)]
  have e2 : (xs.toList.set (b + j) m).drop (b + (j + 1) + ms.length) = xs.toList.drop (b + j + (ms.length + 1)) := by
   rw [List.drop_set_of_lt (by lia)]
   congr 1
   lia
  rw [e1, e2, a1K, a1K, a1K]
  rfl
theorem b1m (xs : Array Keyed) (t n : Nat) : (xs.extract t n).toList = (xs.toList.take n).drop t := c9i xs t n
theorem a8m {t n : Nat} (h : n <= xs.size) : (xs.extract t n).size = n - t := by rw [Array.size_extract]; lia
theorem b1n {t n i : Nat} (h : n <= xs.size) (hi : t + i < n) : (xs.extract t n).getD i d0 = xs.getD (t + i) d0 := by
 refine a2s ?_
 rw [Array.getElem?_extract, if_pos (by lia)]
theorem a6z {l : List Keyed} {ys : Array Keyed} (h : ys.toList = l) (i : Nat) : ys[i]? = l[i]? := by rw [<- h, a1W]
theorem b5f {st : SortSt} {i sa na pw sb nb pw2 : Nat} {Q : Bool -> SortSt -> Prop} (K : Asks M A s κ r a₀) (B : StOk κ a₀ st) (h1 : (pendingOf st)[i]? = some (sa, na, pw)) (h2 : (pendingOf st)[i + 1]? = some (sb, nb, pw2)) (es : sb = sa + na) (na1 : 1 <= na) (nb1 : 1 <= nb) (hz : sb + nb <= a₀.size)
  (ua : Ris r (arrOf st) sa (sa + na)) (ub : Ris r (arrOf st) sb (sb + nb))
  (q : ∀ st', StOk κ a₀ st' -> pendingOf st' = ((pendingOf st).setIfInBounds i (sa, na + nb, pw)).eraseIdxIfInBounds (i + 1) -> Out (arrOf st) (arrOf st') sa (sb + nb) -> Ris r (arrOf st') sa (sb + nb) -> Q true st') : wpS M A E s (mergeAt' i) Q st := by
 have sz := a2z B.perm
 subst es
 rw [b5e]
 refine a0W (a8V ?_)
 rw [h1, h2]
 dsimp only
 refine a0W (c9l ?_)
 generalize hP : ((pendingOf st).setIfInBounds i (sa, na + nb, pw)).eraseIdxIfInBounds (i + 1) = P at q ⊢
 have B1 : StOk κ a₀ (setPending st P) := ⟨B.kind, B.perm, B.ok⟩
 generalize hx : arrOf st = xs at ua ub q sz ⊢
 have pm : xs.Perm a₀ := hx ▸ B.perm
 have mem : ∀ j, j < a₀.size -> xs.getD j d0 ∈ a₀ := fun j hj => a8k pm hj
 have ap : ∀ i j, i < a₀.size -> j < a₀.size -> i ≠ j -> kx r xs i ≠ kx r xs j := fun i j hi hj ij => K.apart pm hi hj ij
 refine a0W (a0w (by lia) (a0W (a3i K B1.kind (by lia) (fun j hj => mem _ (by lia)) (mem _ (by lia)) (fun j hj => ap _ _ (by lia) (by lia) (by lia)) ua (by lia) fun k kn k2 k3 => ?_)))
 dsimp only
 by_cases z0 : na - k = 0
 ·rw [if_pos (by simpa using z0)]
  refine a1D (q _ B1 rfl (by show Out xs (arrOf st) _ _; rw [hx]; exact Out.refl _ _ _) ?_)
  show Ris r (arrOf st) _ _
  rw [hx]
  intro i j g1 g2 g3
  by_cases c1 : j < sa + na
  ·exact ua i j g1 g2 c1
  by_cases c2 : sa + na <= i
  ·exact ub i j c2 g2 g3
  have l1 := k2 (i - sa) (by lia)
  rw [a3L g1] at l1
  have l1 : kx r xs i < kx r xs (sa + na) := l1
  by_cases c3 : j = sa + na
  ·rw [c3]
   exact l1
  ·exact a9E l1 (ub (sa + na) j (a0N _) (a6A (Nat.not_lt.mp c1) (a3R c3)) g3)
 rw [if_neg (by simpa using z0)]
 have kl : k < na := by lia
 clear z0
 have dk : ∀ _ : Unit, sa + k + (na - k) = sa + na := fun _ => by lia
 rw [dk ()]
 refine a0W (a0w (by lia) (a0W (a3i K B1.kind (by lia) (fun j hj => mem _ (by lia)) (mem _ (by lia)) (fun j hj => ap _ _ (by lia) (by lia) (by lia)) ub (by lia) fun n2 nn n2a n2b => ?_)))
 dsimp only
 have bk : kx r xs (sa + na) < kx r xs (sa + k) := by
  have := k3 k (a0N _) (by lia)
  exact this
 have klast : kx r xs (sa + k) <= kx r xs (sa + na - 1) := by
  by_cases c : sa + k = sa + na - 1
  ·rw [c]
   exact Int.le_refl _
  ·exact Int.le_of_lt (ua (sa + k) (sa + na - 1) (by lia) (by lia) (by lia))
 have n20 : n2 ≠ 0 := fun z => by
  subst z
  have := n2b 0 (a0N _) (by lia)
  rw [a8Z] at this
  exact absurd this (Int.not_lt.mpr (Int.le_trans (Int.le_of_lt bk) klast))
 rw [if_neg (by simpa using n20)]
 have sx : (xs.extract (sa + k) (sa + na)).size = na - k := by rw [a8m (by lia)]; exact Nat.add_sub_add_left ..
 have sy : (xs.extract (sa + na) (sa + na + n2)).size = n2 := by rw [a8m (by lia)]; exact a5T ..
 have mx : ∀ x ∈ (xs.extract (sa + k) (sa + na)).toList, ∃ j, sa + k <= j /\ j < sa + na /\ xs.getD j d0 = x := fun x hx => by
  rw [b1m] at hx
  obtain ⟨j, g1, g2, _, g3⟩ := b1k hx
  exact ⟨j, g1, g2, g3⟩
 have my : ∀ x ∈ (xs.extract (sa + na) (sa + na + n2)).toList, ∃ j, sa + na <= j /\ j < sa + na + n2 /\ xs.getD j d0 = x := fun x hx => by
  rw [b1m] at hx
  obtain ⟨j, g1, g2, _, g3⟩ := b1k hx
  exact ⟨j, g1, g2, g3⟩
 have upx : ∀ (t n : Nat), n <= xs.size -> Ris r xs t n -> Up r (xs.extract t n).toList := fun t n hn ur => by
  refine a2H.mpr fun i j hi hj ij => ?_
  rw [a0L, a8m hn] at hi hj
  have e : ∀ c (hc : c < (xs.extract t n).toList.length), (xs.extract t n).toList[c] = xs.getD (t + c) d0 := fun c hc => by
   rw [a0L, a8m hn] at hc
   rw [<- b1n hn (by lia), Array.getElem_toList]
   exact (a7n (a1P _)).symm
  rw [e, e]
  exact ur (t + i) (t + j) (by lia) (by lia) (by lia)
 have dk1 : ∀ _ : Unit, sa + k + (na - k - 1) = sa + na - 1 := fun _ => by rw [<- dk ()]; exact (Nat.add_sub_assoc (Nat.sub_pos_of_lt kl) _).symm
 have dk2 : ∀ _ : Unit, sa + k + (na - k + n2) = sa + na + n2 := fun _ => by rw [<- Nat.add_assoc, dk ()]
 have T : Two κ r a₀ (xs.extract (sa + k) (sa + na)) (xs.extract (sa + na) (sa + na + n2)) := by
  refine ⟨fun x hx => ?_, fun x hx => ?_, upx _ _ (by lia) fun i j g1 g2 g3 => ua i j (by lia) g2 g3, upx _ _ (by lia) fun i j g1 g2 g3 => ub i j g1 g2 (by lia), fun x hx y hy => ?_, by lia, by lia, fun x hx => ?_, fun y hy => ?_⟩
  ·obtain ⟨j, g1, g2, rfl⟩ := mx x hx
   exact mem j (by lia)
  ·obtain ⟨j, g1, g2, rfl⟩ := my x hx
   exact mem j (by lia)
  ·obtain ⟨j, g1, g2, rfl⟩ := mx x hx
   obtain ⟨l, g3, g4, rfl⟩ := my y hy
   exact ap j l (by lia) (by lia) (by lia)
  ·obtain ⟨j, g1, g2, rfl⟩ := mx x hx
   rw [b1n (by lia) (by lia), a8Z]
   show kx r xs (sa + na) < kx r xs j
   by_cases c : j = sa + k
   ·rw [c]
    exact bk
   ·exact a9E bk (ua (sa + k) j (a4Q ..) (a6A g1 (a3R c)) g2)
  ·obtain ⟨j, g1, g2, rfl⟩ := my y hy
   rw [sx, b1n (by lia) (by lia), show sa + k + (na - k - 1) = sa + na - 1 from dk1 ()]
   have := n2a (j - (sa + na)) (a4H g1 g2)
   rw [a3L g1] at this
   exact this
 have fin : ∀ m st', Eqv (setPending st P) st' -> Gd r (xs.extract (sa + k) (sa + na)) (xs.extract (sa + na) (sa + na + n2)) m -> wpS M A E s (do
   modify fun s => setArr s (m.toList.zipIdx.foldl (fun a (p, j) => a.setIfInBounds (sa + k + j) p) (arrOf s))
   return (failedOf (<- get)).isNone) Q st' := fun m st' ev gd => by
  have ea : arrOf st' = xs := ev.arr.trans hx
  have ml : m.toList.length = na - k + n2 := by
   have := gd.1.length_eq
   rw [a0Z, a0L (xs := xs.extract _ _), a0L (xs := xs.extract _ _), sx, sy] at this
   exact this
  refine a0W (a6M (a0W (a8V ?_)))
  rw [ea]
  have tl := laid m.toList 0 (sa + k) xs (by rw [ml]; lia)
  rw [a8Z, ml] at tl
  generalize hys : m.toList.zipIdx.foldl (fun a (p, j) => a.setIfInBounds (sa + k + j) p) xs = ys at tl ⊢
  have okf : (failedOf (setArr st' ys)).isNone = true := by
   show (failedOf st').isNone = true
   rw [ev.ok]
   show (failedOf st).isNone = true
   rw [B.ok]
   rfl
  rw [okf]
  have mid : xs.toList = xs.toList.take (sa + k) ++ ((xs.extract (sa + k) (sa + na)).toList ++ (xs.extract (sa + na) (sa + na + n2)).toList) ++ xs.toList.drop (sa + k + (na - k + n2)) := by
   rw [b1m, b1m]
   have e1 : xs.toList.take (sa + k) ++ (xs.toList.take (sa + na)).drop (sa + k) = xs.toList.take (sa + na) := by
    have z := a2Q (sa + k) (xs.toList.take (sa + na))
    rwa [List.take_take, a6F (by lia)] at z
   have e2 : xs.toList.take (sa + na) ++ (xs.toList.take (sa + na + n2)).drop (sa + na) = xs.toList.take (sa + na + n2) := by
    have z := a2Q (sa + na) (xs.toList.take (sa + na + n2))
    rwa [List.take_take, a6F (by lia)] at z
   rw [<- a1K, e1, e2, dk2 (), a2Q]
  have pys : ys.Perm xs := by
   refine a1V.mpr ?_
   rw [tl]
   conv => rhs; rw [mid]
   exact a5Y _ (a5D _ gd.1)
  have lx : xs.toList.length = a₀.size := by rw [a0L]; exact sz
  have mn : min (sa + k) xs.toList.length = sa + k := a6F (by lia)
  have out1 : ∀ j, j < sa + k ∨ sa + na + n2 <= j -> ys[j]? = xs[j]? := fun j hj => by
   rw [a6z tl j, <- a1W]
   rcases hj with h | h
   ·rw [a0P (by rw [a0Z, a1U, mn]; exact Nat.lt_add_right _ h), a0P (by rw [a1U, mn]; exact h), a9F, if_pos h]
   ·rw [a0T (by rw [a0Z, a1U, ml, mn, dk2 ()]; exact h), a7G]
    congr 1
    rw [a0Z, a1U, ml, mn, dk2 ()]
    exact a3L h
  have inn : ∀ j, sa + k <= j -> j < sa + na + n2 -> ∃ h : j - (sa + k) < m.toList.length, ys.getD j d0 = m.toList[j - (sa + k)] := fun j g1 g2 => by
   have hl : j - (sa + k) < m.toList.length := by rw [ml]; exact a4H g1 (by rw [dk2 ()]; exact g2)
   refine ⟨hl, a7n ?_⟩
   rw [a6z tl j, a0P (by rw [a0Z, a1U, ml, mn, dk2 ()]; exact g2), a0T (by rw [a1U, mn]; exact g1), a1U, mn, a0A hl]
  have from1 : ∀ j, sa + k <= j -> j < sa + na + n2 -> ∃ l, sa + k <= l /\ l < sa + na + n2 /\ ys.getD j d0 = xs.getD l d0 := fun j g1 g2 => by
   obtain ⟨hl, e⟩ := inn j g1 g2
   have mm : ys.getD j d0 ∈ (xs.extract (sa + k) (sa + na)).toList ++ (xs.extract (sa + na) (sa + na + n2)).toList := by
    rw [e]
    exact (List.Perm.mem_iff gd.1).mp (a2Y hl)
   rcases a0K.mp mm with z | z
   ·obtain ⟨l, l1, l2, l3⟩ := mx _ z
    exact ⟨l, l1, by lia, l3.symm⟩
   ·obtain ⟨l, l1, l2, l3⟩ := my _ z
    exact ⟨l, by lia, l2, l3.symm⟩
  refine a1D (q _ ⟨ev.kind.trans B1.kind, pys.trans pm, by show failedOf st' = none; rw [ev.ok]; exact B.ok⟩ ev.pend (fun j hj => out1 j (by lia)) fun i j g1 g2 g3 => ?_)
  show kx r ys i < kx r ys j
  have oe : ∀ c, c < sa + k ∨ sa + na + n2 <= c -> kx r ys c = kx r xs c := fun c hc => a2C r (a2s (out1 c hc))
  have hd : ∀ c l, sa <= c -> c < sa + k -> sa + k <= l -> l < sa + na + nb -> kx r xs c < kx r xs l := fun c l c1 c2 c3 c4 => by
   by_cases c5 : l < sa + na
   ·exact ua c l c1 (by lia) c5
   ·have l1 := k2 (c - sa) (a4H c1 c2)
    rw [a3L c1] at l1
    have l1 : kx r xs c < kx r xs (sa + na) := l1
    by_cases c6 : l = sa + na
    ·rw [c6]
     exact l1
    ·exact a9E l1 (ub (sa + na) l (a0N _) (a6A (Nat.not_lt.mp c5) (a3R c6)) c4)
  have tlb : ∀ l c, sa + k <= l -> l < sa + na + n2 -> sa + na + n2 <= c -> c < sa + na + nb -> kx r xs l < kx r xs c := fun l c c1 c2 c3 c4 => by
   by_cases c5 : sa + na <= l
   ·exact ub l c c5 (by lia) c4
   ·have c0 := a1A (a4Q ..) c3
    have l1 := n2b (c - (sa + na)) (Nat.le_sub_of_add_le' c3) (a4H c0 c4)
    rw [a3L c0] at l1
    have l1 : kx r xs (sa + na - 1) < kx r xs c := l1
    by_cases c6 : l = sa + na - 1
    ·rw [c6]
     exact l1
    ·exact a9E (ua l (sa + na - 1) (by lia) (by lia) (by lia)) l1
  by_cases i1 : i < sa + k
  ·rw [oe i (.inl i1)]
   by_cases j1 : j < sa + k
   ·rw [oe j (.inl j1)]
    exact ua i j g1 g2 (by lia)
   ·by_cases j2 : j < sa + na + n2
    ·obtain ⟨l, l1, l2, l3⟩ := from1 j (by lia) j2
     show kx r xs i < r (ys.getD j d0)
     rw [l3]
     exact hd i l g1 i1 l1 (by lia)
    ·rw [oe j (.inr (by lia))]
     exact hd i j g1 i1 (by lia) g3
  ·by_cases i2 : i < sa + na + n2
   ·by_cases j2 : j < sa + na + n2
    ·obtain ⟨h1', e1⟩ := inn i (by lia) i2
     obtain ⟨h2', e2⟩ := inn j (by lia) j2
     show r (ys.getD i d0) < r (ys.getD j d0)
     rw [e1, e2]
     exact a2H.mp gd.2 _ _ h1' h2' (by lia)
    ·obtain ⟨l, l1, l2, l3⟩ := from1 i (by lia) i2
     rw [oe j (.inr (by lia))]
     show r (ys.getD i d0) < kx r xs j
     rw [l3]
     exact tlb l j l1 l2 (by lia) g3
   ·rw [oe i (.inr (by lia)), oe j (.inr (by lia))]
    exact ub i j (by lia) g2 g3
 by_cases c : na - k <= n2
 ·rw [if_pos c]
  exact a0W (b5b K B1.kind T fin)
 ·rw [if_neg c]
  exact a0W (b5d K B1.kind T fin)
end
def a7x (r : Keyed -> Int) (xs : Array Keyed) : Nat -> List (Nat × Nat × Nat) -> Nat -> Prop
 | s, [], e => s = e
 | s, u :: l, e => u.1 = s /\ 1 <= u.2.1 /\ Ris r xs s (s + u.2.1) /\ a7x r xs (s + u.2.1) l e
section
variable {r : Keyed -> Int} {xs ys : Array Keyed}
theorem b1o : ∀ {l : List (Nat × Nat × Nat)} {s e : Nat}, a7x r xs s l e -> s + l.length <= e
 | [], s, e, h => by
  have : s = e := h
  simp
  lia
 | u :: l, s, e, h => by
  have := b1o h.2.2.2
  have := h.2.1
  rw [a4O]
  lia
theorem runs_app : ∀ {l l' : List (Nat × Nat × Nat)} {s e : Nat}, a7x r xs s (l ++ l') e ↔ ∃ m, a7x r xs s l m /\ a7x r xs m l' e
 | [], l', s, e => ⟨fun h => ⟨s, rfl, h⟩, fun ⟨m, h1, h2⟩ => by have : s = m := h1; subst this; exact h2⟩
 | u :: l, l', s, e => by
  constructor
  ·rintro ⟨h1, h2, h3, h4⟩
   obtain ⟨m, g1, g2⟩ := runs_app.mp h4
   exact ⟨m, ⟨h1, h2, h3, g1⟩, g2⟩
  ·rintro ⟨m, ⟨h1, h2, h3, g1⟩, g2⟩
   exact ⟨h1, h2, h3, runs_app.mpr ⟨m, g1, g2⟩⟩
theorem a7a {lo hi : Nat} (o : Out xs ys lo hi) : ∀ {l : List (Nat × Nat × Nat)} {s e : Nat}, a7x r xs s l e -> e <= lo ∨ hi <= s -> a7x r ys s l e
 | [], _, _, h, _ => h
 | u :: l, s, e, h, d => by
  have := b1o h.2.2.2
  exact ⟨h.1, h.2.1, o.ris h.2.2.1 (by lia), a7a o h.2.2.2 (by lia)⟩
theorem c5v {p : Array (Nat × Nat × Nat)} {i : Nat} (h : i + 1 < p.size) : ∃ l1 u v l2, p.toList = l1 ++ u :: v :: l2 /\ l1.length = i /\ p[i]? = some u /\ p[i + 1]? = some v := by
 have hl : p.toList.length = p.size := a0L
 refine ⟨p.toList.take i, p[i]'(by lia), p[i + 1], p.toList.drop (i + 2), ?_, by rw [a1U]; lia, a1P _, a1P _⟩
 have e1 : p.toList.drop i = p.toList[i]'(by lia) :: p.toList.drop (i + 1) := a5G (by lia)
 have e2 : p.toList.drop (i + 1) = p.toList[i + 1]'(by lia) :: p.toList.drop (i + 2) := a5G (by lia)
 rw [Array.getElem_toList] at e1 e2
 rw [<- e2, <- e1, a2Q]
theorem c5w {p : Array (Nat × Nat × Nat)} {i : Nat} {l1 l2 : List (Nat × Nat × Nat)} {u v w : Nat × Nat × Nat} (h : p.toList = l1 ++ u :: v :: l2) (hl : l1.length = i) : ((p.setIfInBounds i w).eraseIdxIfInBounds (i + 1)).toList = l1 ++ w :: l2 := by
 rw [Array.toList_eraseIdxIfInBounds, a8Y, h, List.set_append_right _ _ (by lia), hl, a9C, List.eraseIdx_append_of_length_le (by lia), hl, a5T]
 rfl
variable {M : Model} {A : Around} {E : Value -> Shared -> Prop} {s : Shared} {κ : SortKind} {a₀ : Array Keyed}
theorem a4p {st : SortSt} {i lo : Nat} {Q : Bool -> SortSt -> Prop} (K : Asks M A s κ r a₀) (B : StOk κ a₀ st) (hi : i + 1 < (pendingOf st).size) (R : a7x r (arrOf st) 0 (pendingOf st).toList lo) (hlo : lo <= a₀.size)
  (q : ∀ st', StOk κ a₀ st' -> (pendingOf st').size + 1 = (pendingOf st).size -> Out (arrOf st) (arrOf st') 0 lo -> a7x r (arrOf st') 0 (pendingOf st').toList lo -> Q true st') : wpS M A E s (mergeAt' i) Q st := by
 obtain ⟨l1, u, v, l2, e, hl, eu, ev⟩ := c5v hi
 rw [e] at R
 obtain ⟨m, R1, R2⟩ := runs_app.mp R
 obtain ⟨u1, u2, u3, v1, v2, v3, R3⟩ := R2
 obtain ⟨sa, na, pw⟩ := u
 obtain ⟨sb, nb, pw2⟩ := v
 dsimp only at u1 u2 u3 v1 v2 v3 R3
 subst u1
 have le := b1o R3
 refine b5f K B eu ev v1 u2 v2 (by lia) u3 (by rw [v1]; exact v3) fun st' B' ep o up => ?_
 have el := c5w (w := (sa, na + nb, pw)) e hl
 rw [<- ep] at el
 refine q st' B' ?_ (o.wide (a2U _) (by lia)) ?_
 ·have l3 : (pendingOf st').toList.length + 1 = (pendingOf st).toList.length := by
   rw [el, e]
   simp
   lia
  rwa [a0L, a0L] at l3
 ·rw [el]
  refine runs_app.mpr ⟨sa, a7a o R1 (.inl (a0N _)), rfl, by show 1 <= na + nb; lia, ?_, ?_⟩
  ·show Ris r (arrOf st') sa (sa + (na + nb))
   rw [show sa + (na + nb) = sb + nb by lia]
   exact up
  ·show a7x r (arrOf st') (sa + (na + nb)) l2 lo
   rw [show sa + (na + nb) = sa + na + nb by lia]
   exact a7a o R3 (.inr (by lia))
theorem b5g {f : Nat -> Nat} : ∀ {l : List (Nat × Nat × Nat)} {s e i : Nat}, a7x r xs s l e -> a7x r xs s (l.modify i fun u => (u.1, u.2.1, f u.2.2)) e
 | [], _, _, _, h => by simpa using h
 | u :: l, s, e, 0, h => h
 | u :: l, s, e, i + 1, h => ⟨h.1, h.2.1, h.2.2.1, b5g h.2.2.2⟩
theorem b5h {st : SortSt} {Q : Unit -> SortSt -> Prop} (K : Asks M A s κ r a₀) (B : StOk κ a₀ st) (hp : pendingOf st = #[]) (h1 : 1 <= a₀.size)
  (q : ∀ st', StOk κ a₀ st' -> Ris r (arrOf st') 0 a₀.size -> Q () st') : wpS M A E s sortRuns' Q st := by
 have sz := a2z B.perm
 rw [sortRuns'_eq]
 refine a0W (a8V ?_)
 dsimp only
 rw [sz]
 refine a0W (a5S (a3B (I := fun x c st' => ∃ lo, c = (none, lo) /\ x <= lo /\ lo <= a₀.size /\ StOk κ a₀ st' /\ a7x r (arrOf st') 0 (pendingOf st').toList lo)
  (Q := fun c st' => c = (none, a₀.size) /\ StOk κ a₀ st' /\ a7x r (arrOf st') 0 (pendingOf st').toList a₀.size) ?step ?stop ⟨0, rfl, a0N _, a2U _, B, by rw [hp]; rfl⟩) ?post)
 case stop =>
  rintro c st' ⟨lo, rfl, h1, h2, B', R⟩
  have e : lo = a₀.size := by lia
  subst e
  exact ⟨rfl, B', R⟩
 case step =>
  rintro x c st1 _ hx ⟨lo, rfl, hxl, hlo, B1, R1⟩
  dsimp only
  by_cases z : lo ≥ a₀.size
  ·rw [if_pos z]
   have e : lo = a₀.size := by lia
   subst e
   exact a1D ⟨rfl, B1, R1⟩
  rw [if_neg z]
  refine a0W (c2e K B1 (by lia) (by lia) fun n st2 B2 p2 g2 o2 n1 nn up2 => ?_)
  dsimp only
  have R2 : a7x r (arrOf st2) 0 (pendingOf st2).toList lo := by rw [p2]; exact a7a o2 R1 (.inl (a0N _))
  by_cases mr : n < minRun' a₀.size a₀.size 0
  ·rw [if_pos mr]
   refine a0W (b0I (a6K ⟨rfl, ?_⟩))
   refine a0W (b8u K B2 (by lia) (by lia) up2 fun st3 B3 p3 g3 o3 up3 => ?_)
   rw [if_neg (by decide)]
   have R3 : a7x r (arrOf st3) 0 (pendingOf st3).toList lo := by rw [p3]; exact a7a o3 R2 (.inl (a0N _))
   have n1 : 1 <= min (a₀.size - lo) (minRun' a₀.size a₀.size 0) := by lia
   have nn : lo + min (a₀.size - lo) (minRun' a₀.size a₀.size 0) <= a₀.size := by lia
   generalize min (a₀.size - lo) (minRun' a₀.size a₀.size 0) = m0 at up3 n1 nn ⊢
   refine a0W (a8V ?_)
   cases eb : (pendingOf st3).back? with
   | none =>
    dsimp only
    refine a0W (a6M (a1D ⟨lo + m0, rfl, by lia, by lia, ⟨B3.kind, B3.perm, B3.ok⟩, ?_⟩))
    show a7x r (arrOf st3) 0 ((pendingOf st3).push (lo, m0, 0)).toList (lo + m0)
    rw [a5L]
    exact runs_app.mpr ⟨lo, R3, rfl, n1, up3, rfl⟩
   | some u =>
    obtain ⟨s1, m1, w1⟩ := u
    dsimp only
    refine a0W (a5S (a3B (I := fun x c st' => c = (none, ()) /\ StOk κ a₀ st' /\ a7x r (arrOf st') 0 (pendingOf st').toList lo /\ Ris r (arrOf st') lo (lo + m0))
     (Q := fun c st' => c = (none, ()) /\ StOk κ a₀ st' /\ a7x r (arrOf st') 0 (pendingOf st').toList lo /\ Ris r (arrOf st') lo (lo + m0)) ?step2 ?stop2 ⟨rfl, B3, R3, up3⟩) ?post2)
    case stop2 =>
     rintro c st4 h
     exact h
    case step2 =>
     rintro y c st4 _ _ ⟨rfl, B4, R4, up4⟩
     refine a0W (a8V ?_)
     by_cases g : (pendingOf st4).size > 1
     ·rw [if_pos g, a1P (by lia)]
      generalize (pendingOf st4)[(pendingOf st4).size - 2] = u2
      obtain ⟨a2, b2, older⟩ := u2
      dsimp only
      by_cases g2 : older <= power' a₀.size (2 * s1 + m1) (2 * s1 + m1 + m1 + m0) a₀.size
      ·rw [if_pos g2]
       exact a1D ⟨rfl, B4, R4, up4⟩
      ·rw [if_neg g2]
       refine a0W (a4p K B4 (by lia) R4 hlo fun st5 B5 _ o5 R5 => ?_)
       exact a1D ⟨rfl, B5, R5, o5.ris up4 (.inr (a0N _))⟩
     ·rw [if_neg g]
      exact a1D ⟨rfl, B4, R4, up4⟩
    case post2 =>
     rintro c st4 ⟨rfl, B4, R4, up4⟩
     dsimp only
     refine a0W (a6M (a0W (a6M (a1D ⟨lo + m0, rfl, by lia, by lia, ⟨B4.kind, B4.perm, B4.ok⟩, ?_⟩))))
     show a7x r (arrOf st4) 0 (((pendingOf st4).modify ((pendingOf st4).size - 1) fun x => (x.fst, x.2.fst, power' a₀.size (2 * s1 + m1) (2 * s1 + m1 + m1 + m0) a₀.size)).push (lo, m0, 0)).toList (lo + m0)
     rw [a5L, Array.toList_modify]
     exact runs_app.mpr ⟨lo, b5g (f := fun _ => power' a₀.size (2 * s1 + m1) (2 * s1 + m1 + m1 + m0) a₀.size) R4, rfl, n1, up4, rfl⟩
  ·rw [if_neg mr]
   have B3 := B2
   have R3 := R2
   have up3 := up2
   refine a0W (a8V ?_)
   cases eb : (pendingOf st2).back? with
   | none =>
    dsimp only
    refine a0W (a6M (a1D ⟨lo + n, rfl, by lia, by lia, ⟨B3.kind, B3.perm, B3.ok⟩, ?_⟩))
    show a7x r (arrOf st2) 0 ((pendingOf st2).push (lo, n, 0)).toList (lo + n)
    rw [a5L]
    exact runs_app.mpr ⟨lo, R3, rfl, n1, up3, rfl⟩
   | some u =>
    obtain ⟨s1, m1, w1⟩ := u
    dsimp only
    refine a0W (a5S (a3B (I := fun x c st' => c = (none, ()) /\ StOk κ a₀ st' /\ a7x r (arrOf st') 0 (pendingOf st').toList lo /\ Ris r (arrOf st') lo (lo + n))
     (Q := fun c st' => c = (none, ()) /\ StOk κ a₀ st' /\ a7x r (arrOf st') 0 (pendingOf st').toList lo /\ Ris r (arrOf st') lo (lo + n)) ?step2 ?stop2 ⟨rfl, B3, R3, up3⟩) ?post2)
    case stop2 =>
     rintro c st4 h
     exact h
    case step2 =>
     rintro y c st4 _ _ ⟨rfl, B4, R4, up4⟩
     refine a0W (a8V ?_)
     by_cases g : (pendingOf st4).size > 1
     ·rw [if_pos g, a1P (by lia)]
      generalize (pendingOf st4)[(pendingOf st4).size - 2] = u2
      obtain ⟨a2, b2, older⟩ := u2
      dsimp only
      by_cases g2 : older <= power' a₀.size (2 * s1 + m1) (2 * s1 + m1 + m1 + n) a₀.size
      ·rw [if_pos g2]
       exact a1D ⟨rfl, B4, R4, up4⟩
      ·rw [if_neg g2]
       refine a0W (a4p K B4 (by lia) R4 hlo fun st5 B5 _ o5 R5 => ?_)
       exact a1D ⟨rfl, B5, R5, o5.ris up4 (.inr (a0N _))⟩
     ·rw [if_neg g]
      exact a1D ⟨rfl, B4, R4, up4⟩
    case post2 =>
     rintro c st4 ⟨rfl, B4, R4, up4⟩
     dsimp only
     refine a0W (a6M (a0W (a6M (a1D ⟨lo + n, rfl, by lia, by lia, ⟨B4.kind, B4.perm, B4.ok⟩, ?_⟩))))
     show a7x r (arrOf st4) 0 (((pendingOf st4).modify ((pendingOf st4).size - 1) fun x => (x.fst, x.2.fst, power' a₀.size (2 * s1 + m1) (2 * s1 + m1 + m1 + n) a₀.size)).push (lo, n, 0)).toList (lo + n)
     rw [a5L, Array.toList_modify]
     exact runs_app.mpr ⟨lo, b5g (f := fun _ => power' a₀.size (2 * s1 + m1) (2 * s1 + m1 + m1 + n) a₀.size) R4, rfl, n1, up4, rfl⟩
 case post =>
  rintro c st1 ⟨rfl, B1, R1⟩
  dsimp only
  refine a0W (a5S (a3B (I := fun x c st' => c = (none, ()) /\ StOk κ a₀ st' /\ a7x r (arrOf st') 0 (pendingOf st').toList a₀.size /\ (pendingOf st').size + x <= a₀.size)
   (Q := fun c st' => c = (none, ()) /\ StOk κ a₀ st' /\ a7x r (arrOf st') 0 (pendingOf st').toList a₀.size /\ (pendingOf st').size <= 1) ?step3 ?stop3 ⟨rfl, B1, R1, by have := b1o R1; rw [a0L] at this; lia⟩) ?post3)
  case stop3 =>
   rintro c st2 ⟨hc, B2, R2, hz⟩
   exact ⟨hc, B2, R2, by lia⟩
  case step3 =>
   rintro x c st2 _ hx ⟨rfl, B2, R2, hz⟩
   refine a0W (a8V ?_)
   by_cases g : (pendingOf st2).size <= 1
   ·rw [if_pos g]
    exact a1D ⟨rfl, B2, R2, g⟩
   ·rw [if_neg g]
    refine a0W (a4p K B2 ?_ R2 (a0N _) fun st3 B3 z3 o3 R3 => ?_)
    ·have key : ∀ (c : Prop) [Decidable c], (if c then (pendingOf st2).size - 2 - 1 else (pendingOf st2).size - 2) + 1 < (pendingOf st2).size := fun c _ => by
      by_cases h : c
      ·rw [if_pos h]
       lia
      ·rw [if_neg h]
       lia
     exact key _
    ·exact a1D ⟨rfl, B3, R3, by lia⟩
  case post3 =>
   rintro c st2 ⟨rfl, B2, R2, hz⟩
   refine a1D (q st2 B2 ?_)
   have hl : (pendingOf st2).toList.length <= 1 := by rw [a0L]; exact hz
   generalize (pendingOf st2).toList = l at R2 hl
   match l, R2, hl with
   | [], R2, _ =>
    have : 0 = a₀.size := R2
    lia
   | [u], R2, _ =>
    have e : 0 + u.2.1 = a₀.size := R2.2.2.2
    rw [<- e]
    exact R2.2.2.1
end
section
variable {P : Program} {w : World} {A : Around} {E : Value -> Shared -> Prop} {s : Shared} {a : Addr} {vs ks : List Value} {k : Nat -> Int} {κ : SortKind}
noncomputable def ixOf (ks : List Value) (x : Keyed) : Nat := Classical.epsilon fun i => ks[i]? = some x.1
theorem ix_at (nd : ks.Nodup) {i : Nat} {x : Keyed} (h : ks[i]? = some x.1) : ixOf ks x = i := by
 have z : ks[ixOf ks x]? = some x.1 := Classical.epsilon_spec (p := fun i => ks[i]? = some x.1) ⟨i, h⟩
 exact (a2P (a0B.mp z).1 nd).mp (z.trans h.symm)
theorem c2j {Q : SortSt -> Shared -> Prop} (hl : ks.length = vs.length) (h1 : 1 <= vs.length) (nd : ks.Nodup) (inj : ∀ i j, i < vs.length -> j < vs.length -> k i = k j -> i = j)
  (ask : ∀ i j (C : Bool -> Shared -> Prop), i < ks.length -> j < ks.length -> C (decide (k i < k j)) s -> kas_ask P w A κ ks i j C s)
  (hG : ∀ p st', Arr vs.length p -> SUp k p vs.length -> (arrOf st').map (·.2) = (a1u vs p).toArray -> failedOf st' = none -> Q st' s) :
  wpAny (model P w) A ((sortRuns').run (SortSt.mk' κ (ks.toArray.zip vs.toArray) #[] 7 none)) (fun r s' => Q r.2 s') E s := by
 have sz : (ks.toArray.zip vs.toArray).size = vs.length := by simp [hl]
 have el : ∀ i, i < vs.length -> (ks.toArray.zip vs.toArray).getD i d0 = (ks.getD i Value.none, vs.getD i Value.none) := fun i hi => kat_item hl i
 have kat : ∀ i, i < vs.length -> ks[i]? = some (ks.getD i Value.none) := fun i hi => by
  rw [a0J, a0A (by lia)]
  rfl
 have ix : ∀ i, i < vs.length -> ixOf ks ((ks.toArray.zip vs.toArray).getD i d0) = i := fun i hi => ix_at nd (by rw [el i hi]; exact kat i hi)
 have at0 : ∀ x ∈ ks.toArray.zip vs.toArray, ∃ i, i < vs.length /\ x = (ks.toArray.zip vs.toArray).getD i d0 := fun x hx => by
  obtain ⟨i, hi, e⟩ := Array.getElem_of_mem hx
  exact ⟨i, by lia, (a7n (a4C.mpr ⟨hi, e⟩)).symm⟩
 have K : Asks (model P w) A s κ (fun x => k (ixOf ks x)) (ks.toArray.zip vs.toArray) := by
  refine ⟨fun x y C hx hy hC => ?_, fun i j hi hj ij z => ?_⟩
  ·obtain ⟨i, hi, rfl⟩ := at0 x hx
   obtain ⟨j, hj, rfl⟩ := at0 y hy
   have z := ask i j C (by lia) (by lia) (by rw [ix i hi, ix j hj] at hC; exact hC)
   unfold kas_ask at z
   rw [el i hi, el j hj]
   exact z
  ·rw [sz] at hi hj
   rw [ix i hi, ix j hj] at z
   exact ij (inj i j hi hj z)
 have run := b5h (E := E) (st := SortSt.mk' κ (ks.toArray.zip vs.toArray) #[] 7 none) (Q := fun _ st' => Q st' s) K ⟨rfl, b0D _, rfl⟩ rfl (by lia) fun st' B up => ?_
 ·unfold wpS at run
  exact a3D run (fun r s' h => by obtain ⟨rfl, h⟩ := h; exact h) fun _ _ e => e
 ·have psz := a2z B.perm
  rw [sz] at up psz
  have mem : ∀ i, i < vs.length -> (arrOf st').getD i d0 ∈ ks.toArray.zip vs.toArray := fun i hi => a8k B.perm (by lia)
  have ar : Arr vs.length ((arrOf st').map (ixOf ks)) := by
   refine a1V.mpr ?_
   rw [a8F]
   refine ((a1V.mp B.perm).map (ixOf ks)).trans (.of_eq ?_)
   refine a3V fun i => ?_
   rw [a0E, a1W, a7A]
   by_cases hi : i < vs.length
   ·rw [a5g (by lia), a3I hi]
    exact a2C some (ix i hi)
   ·rw [a7M (by lia), a1Q (by simp; lia)]
    rfl
  have pat : ∀ i, i < vs.length -> ((arrOf st').map (ixOf ks)).getD i 0 = ixOf ks ((arrOf st').getD i d0) := fun i hi => by
   rw [a2K, Array.getElem?_map, a5g (by lia)]
   rfl
  refine hG ((arrOf st').map (ixOf ks)) st' ar (fun x y xy yn => ?_) ?_ B.ok
  ·rw [pat x (by lia), pat y yn]
   exact up x y (a2U _) xy yn
  ·apply Array.toList_inj.mp
   rw [a8F]
   show _ = a1u vs _
   unfold a1u
   rw [a8F, a1T]
   refine a2D fun x hx => ?_
   obtain ⟨i, hi, rfl⟩ := at0 x ((a9D B.perm).mp (a8J.mp hx))
   show ((ks.toArray.zip vs.toArray).getD i d0).2 = vs.getD (ixOf ks ((ks.toArray.zip vs.toArray).getD i d0)) Value.none
   rw [ix i hi, el i hi]
theorem b7g {n : Nat} {R : PySem.Fin -> Shared -> Prop} (ho : s.heap.get? a = some (seqObj "list" vs.toArray n)) (few : vs.length <= 4000) (nd : vs.Nodup) (inj : ∀ i j, i < vs.length -> j < vs.length -> k i = k j -> i = j)
  (ask : ∀ h', (∀ b o, b ≠ a -> s.heap.get? b = some o -> h'.get? b = some o) -> 2 <= vs.length -> c5t P w A vs (fun i j => decide (k i < k j)) { s with heap := h' })
  (q : ∀ p h' c, Arr vs.length p -> SUp k p vs.length -> h'.get? a = some (seqObj "list" (a1u vs p).toArray c) -> (∀ b o, b ≠ a -> s.heap.get? b = some o -> h'.get? b = some o) -> R (.done (.ret .none)) { s with heap := h' }) :
  wpAny (model P w) A (Builtin.«list.sort» ⟨[.ref a], []⟩) R E s := by
 have la : a < s.heap.objs.size := a0Q ho
 let h1 := s.heap.update a (Obj.mapSeq fun _ => (#[] : Array Value))
 obtain ⟨e1, ho1⟩ : ∃ e1, h1.get? a = some (seqObj "list" #[] e1) := ⟨_, a6H ho fun _ => #[]⟩
 let h3 := (h1.push (seqObj "tuple" vs.toArray 0)).push (seqObj "list" #[] 0)
 have k1 : ∀ b o, b ≠ a -> s.heap.get? b = some o -> h1.get? b = some o := fun b o nb e => (a1N _ _ (a3R nb)).trans e
 have k3 : ∀ b o, b ≠ a -> s.heap.get? b = some o -> h3.get? b = some o := fun b o nb e => b6u (k1 b o nb e) _ _
 have ho3 : h3.get? a = some (seqObj "list" #[] e1) := b6u ho1 _ _
 rw [list_sort_plain]
 refine a0C (a9G ho rfl ?_)
 refine a0C (a6N ho rfl ?_ (by rw [a0U, a1B]; lia) (a2U _))
 refine a0C (b0K ho1 rfl ?_)
 refine a0C (wpAny_newTuple ?_ (by show vs.length <= _; rw [a1B]; lia))
 refine a0C (a5E ?_ (a2U _))
 refine a1Y ?_
 show wpAny (model P w) A _ R E { s with heap := h3 }
 dsimp only
 have fin : ∀ (st : SortSt) (p : Array Nat), Arr vs.length p -> SUp k p vs.length -> (arrOf st).map (·.2) = (a1u vs p).toArray -> failedOf st = none -> ∀ h4, h4 = h3 ->
   wpAny (model P w) A (do
    let touched := (<- seqEpoch a) != e1
    Builtin.List.listUpdate (.ref a) fun _ => (arrOf st).map (·.2)
    if let some e := failedOf st then rule "list.sort.comparison-raised"; throw e
    if touched then rule "list.sort.modified"; raiseError "ValueError" "list modified during sort"
    ret .none) R E { s with heap := h4 } := fun st p ar up hout hf h4 e4 => by
  subst e4
  rw [hout]
  have sz : (a1u vs p).toArray.size = vs.length := by
   rw [a0U, a0D, a0L, ar.size]
  obtain ⟨c2, hc2⟩ : ∃ c2, (h3.update a (Obj.mapSeq fun _ => (a1u vs p).toArray)).get? a = some (seqObj "list" (a1u vs p).toArray c2) := ⟨_, a6H ho3 fun _ => (a1u vs p).toArray⟩
  refine a0C (b0K ho3 rfl ?_)
  refine a0C (a6N ho3 rfl ?_ (a2U _) (a1A (a7U sz) (by rw [a1B]; lia)))
  rw [hf]
  simp only [bne_self_eq_false, Bool.false_eq_true, if_false]
  exact a0G (q p _ c2 ar up hc2 fun b o nb e => (a1N _ _ (a3R nb)).trans (k3 b o nb e))
 by_cases h2 : 2 <= vs.length
 ·have n2 : ¬ vs.toArray.size < 2 := by rw [a0U]; lia
  rw [if_neg n2, if_neg n2]
  refine a0C (a3D (ask h3 k3 h2) (fun κ s0 hk => ?_) fun _ _ x => x.elim)
  obtain ⟨rfl, hk⟩ := hk
  refine a0C (a3D (c2j (ks := vs) (vs := vs) (k := k) (Q := fun st' s' => s' = { s with heap := h3 } /\ ∃ p : Array Nat, Arr vs.length p /\ SUp k p vs.length /\ (arrOf st').map (·.2) = (a1u vs p).toArray /\ failedOf st' = none) rfl (by lia) nd inj hk fun p st' a1 a2 a3 a4 => ⟨rfl, p, a1, a2, a3, a4⟩) ?_ fun _ _ x => x)
  rintro ⟨⟨⟩, st⟩ s' ⟨rfl, p, ar, up, hout, hf⟩
  exact fin st p ar up hout hf _ rfl
 ·have n2 : vs.toArray.size < 2 := by rw [a0U]; lia
  rw [if_pos n2, if_pos n2]
  refine a0C (a0G (a0C (a0G ?_)))
  refine fin _ (List.range vs.length).toArray (b0D _) (fun x y xy yn => by lia) ?_ rfl _ rfl
  rw [a7w]
  exact c2d rfl
end
theorem c2k {H : Hp} {as : List Addr} {ts : List (List Nat)} (at0 : TupsAt H as ts) (nd : ts.Nodup) : (as.map Value.ref).Nodup := by
 refine a2H.mpr fun i j hi hj ij z => ?_
 rw [a5W, a5W] at z
 rw [a0D] at hi hj
 have z := Value.ref.inj z
 have la := at0.len
 have e1 := at0.is i as[i] (ts[i]'(by lia)) (a0A hi) (a0A _)
 have e2 := at0.is j as[j] (ts[j]'(by lia)) (a0A hj) (a0A _)
 rw [z, e2] at e1
 have e3 : ts[j]'(by lia) = ts[i]'(by lia) := by
  have y := a1S e1
  injection y with y
  exact (List.map_inj_right (f := nv) fun a b h => a8K (V.int.inj h)).mp y
 have e4 := (a2P (i := j) (j := i) (by lia) nd).mp (by rw [a0A (by lia), a0A (by lia), e3])
 lia
section
variable {P : Program} {w : World} {A : Around} {E : Value -> Shared -> Prop} {s : Shared} {vs : List Value} {k : Nat -> Int}
theorem b3q {l : Addr} {Q : Value -> Shared -> Prop} (hl : s.heap.IsList l vs.toArray) (few : vs.length <= 4000) (nd : vs.Nodup) (inj : ∀ i j, i < vs.length -> j < vs.length -> k i = k j -> i = j)
  (ask : ∀ h', (∀ b o, s.heap.get? b = some o -> h'.get? b = some o) -> 2 <= vs.length -> c5t P w A.in1.in1 vs (fun i j => decide (k i < k j)) { s with heap := h' })
  (q : ∀ D p h' c, s.heap.objs.size <= D -> Arr vs.length p -> SUp k p vs.length -> h'.get? D = some (seqObj "list" (a1u vs p).toArray c) -> (∀ b o, s.heap.get? b = some o -> h'.get? b = some o) -> Q (.ref D) { s with heap := h' }) :
  wpAny (model P w) A (call (.builtin "sorted") [.ref l]) Q E s := by
 refine a2Z a8S a7V a7W (a9B _) ?_
 unfold Builtin.«sorted»
 refine a0C (m := checkCount "sorted" 1 1 _) (a0G ?_)
 refine a0C (collect_list hl ?_ (by rw [a1B]; lia))
 refine a0C (a5E ?_ (by rw [a1B]; lia))
 generalize g : (s.heap.push (seqObj "list" #[] 0)).update s.heap.objs.size (Obj.mapSeq (· ++ vs.toArray)) = h1
 have sz : h1.objs.size = s.heap.objs.size + 1 := by rw [<- g, a9Q, size_push']
 have k1 : ∀ b o, s.heap.get? b = some o -> h1.get? b = some o := fun b o e => by
  rw [<- g, a1N _ _ (a4I (a0Q e))]
  exact a0I _ e
 have eD : (h1.push (seqObj "list" vs.toArray 0)).get? h1.objs.size = some (seqObj "list" vs.toArray 0) := a0R _ rfl
 have off : ∀ {b : Addr} {o : Obj}, s.heap.get? b = some o -> b ≠ h1.objs.size := fun e => a1J (a1E (a0Q e) (by rw [sz]; exact a7B _))
 have k2 : ∀ b o, s.heap.get? b = some o -> (h1.push (seqObj "list" vs.toArray 0)).get? b = some o := fun b o e => a0I _ (k1 b o e)
 refine a0C (a1Y (a1Z a6U ⟨_, eD, rfl⟩ a6E (b7g (s := { s with heap := h1.push (seqObj "list" vs.toArray 0) }) eD few nd inj (fun h' kp h2 => ?_) fun p h' c ar up e kp => ⟨_, rfl, ?_⟩) (a7T _)))
 ·exact ask h' (fun b o e => kp b o (off e) (k2 b o e)) h2
 ·exact a0G ⟨_, rfl, q _ p h' c (by rw [sz]; exact a7B _) ar up e fun b o z => kp b o (off z) (k2 b o z)⟩
end
section
variable {X : Cx}
def c9m (K : W.Frag) : List V -> Hp -> VK -> Prop := fun xs H Q => ∃ l as ts, xs = [V.ref l] /\ SqL K H l (as.map V.ref) /\ TupsAt H as ts /\ (∀ t ∈ ts, t ≠ []) /\ ts.Nodup /\ ts.length <= 4000 /\
 ∀ D bs us, H D = none -> TupsAt H bs us -> us.Perm ts -> us.Pairwise (fun x y => ltl x y = true) -> Q (.ref D) (upd H D (.lst (bs.map V.ref)))
theorem b5i (hc : X.calm = true) : CallR X (.builtin "sorted") (c9m X.K) := by
 intro pins s σ H xs us Q I r h
 obtain ⟨l, as, ts, rfl, hl, at0, ne, nd, few, q⟩ := h
 obtain ⟨u, rfl, ru⟩ := a4f r
 cases ru
 obtain ⟨its, rv, pl, _⟩ := I.list hl
 have ei := b3m rv
 subst ei
 have ln : (as.map Value.ref).length = ts.length := by rw [a0D, at0.len]
 have T := b3l ts
 have inj := b1f (d := ([] : List Nat)) T nd
 refine b3q (k := fun i => a3g ltl ts (ts.getD i [])) pl.isList (by lia) (c2k at0 nd) (fun i j hi hj e => inj i j (by lia) (by lia) e) (fun h' kp h2 => ?_) fun D p h' c le ar up e kp => ?_
 ·have I1 : Inv X pins σ H { s with heap := h' } := I.kept (t' := s.toks) kp
  have z := b6x (P := X.prog) (w := X.w) (A := X.A.in1.in1) (s := { s with heap := h' }) ln (by lia) (fun i v t e1 e2 => by
   rw [a0E] at e1
   obtain ⟨a, ea, rfl⟩ := a0O.mp e1
   exact ⟨d2e I1.hok (at0.is i a t ea e2), ne t (a0H e2)⟩)
  refine a3D z (fun κ s' hk => ⟨hk.1, fun i j C li lj hC => hk.2 i j C li lj ?_⟩) fun _ _ x => x
  have e := T.asks (a3q (d := ([] : List Nat)) (show i < ts.length by lia)).2 (a3q (d := ([] : List Nat)) (show j < ts.length by lia)).2
  show C (ltl (ts.getD i []) (ts.getD j [])) _
  rw [<- e]
  exact hC
 ·rw [ln] at ar up
  have I1 : Inv X pins σ H { s with heap := h' } := I.kept (t' := s.toks) kp
  have hD : H D = none := I.hok.fresh le
  have at1 := at0.pick ar
  obtain ⟨f0, f1, f2, f3, f4, f5⟩ := I.fpOk (b := D) (H' := H) le hD
  have out : a1u (as.map Value.ref) p = (p.toList.map fun i => as.getD i 0).map Value.ref := by
   unfold a1u
   rw [a1T]
   refine a2D fun i hi => ?_
   have li : i < as.length := by
    have m := (a1V.mp ar).mem_iff.mp hi
    have m2 : i < ts.length := by simpa using m
    rw [at0.len]
    exact m2
   show (as.map Value.ref).getD i Value.none = Value.ref (as.getD i 0)
   rw [a0J, a0J, a0E, a0A li]
   rfl
  have vs : ∀ l : List Addr, Vals (l.map V.ref) (l.map Value.ref) := fun l => by
   induction l with
   | nil => exact .nil
   | cons x l ih => exact .cons rfl ih
  rw [out] at e
  have few : ((p.toList.map fun i => as.getD i 0).map V.ref).length <= sizeLine := by
   rw [a0D, a0D, a0L, ar.size, a1B]
   lia
  refine ⟨.ref D, _, I1.track (o := .lst ((p.toList.map fun i => as.getD i 0).map V.ref)) hD ⟨few, _, c, vs _, e⟩ (a1A I.sz le) f1 f4 f5, rfl, q D _ _ hD at1 (b1e ar) (a5f T ar up)⟩
end
end L2
namespace L2
open PySem PySem.Spec PyProof.Rows
section
variable {P : Program} {w : World} {A : Around} {E : Value -> Shared -> Prop} {s : Shared} {vs : List Value}
theorem b1p {t : Addr} {o : Obj} {c : Nat} {Q : List Value -> Shared -> Prop} (ho : s.heap.get? t = some o) (hc : o.cls = .type "tuple") (hd : o.data = .seq vs.toArray c) (few : vs.length <= sizeLine)
  (q : ∀ h1, (∀ b o, s.heap.get? b = some o -> h1.get? b = some o) -> Q vs { s with heap := h1 }) : wpAny (model P w) A (collect (.ref t)) Q E s := by
 unfold collect
 refine a0C (wpAny_runValue (a3J entry_proto_collect' ?_))
 show wpAny _ _ (do again (.builtin "list.__iadd__" ⟨[<- newList [], .ref t], []⟩)) _ _ s
 refine a0C (a5E (a0G ⟨a9A _ (by decide +kernel), a3J entry_list_iadd' ?_⟩))
 have hoT : (s.heap.push (seqObj "list" #[] 0)).get? t = some o := a0I _ ho
 have hoL : (s.heap.push (seqObj "list" #[] 0)).get? s.heap.objs.size = some (seqObj "list" #[] 0) := a0R _ rfl
 show wpAny _ _ (Builtin.List.listExtendWith (.ref s.heap.objs.size) (.ref t) (.ref s.heap.objs.size)) _ _ { s with heap := s.heap.push (seqObj "list" #[] 0) }
 unfold Builtin.List.listExtendWith
 refine a0C (a9Y (T := "tuple") ⟨o, hoT, hc⟩ ?_)
 have tt : (Value.type "tuple" == Value.type "tuple") = true := by rfl
 rw [if_pos (by rw [tt]; simp)]
 refine a0C (a9G hoT hd ?_)
 refine a0C (a9G (xs := #[]) (n := 0) hoL rfl ?_)
 rw [if_neg (by simp)]
 refine a0C (a6N (xs := #[]) (n := 0) hoL rfl ?_ (a2U _) (by show (#[] ++ vs.toArray).size <= sizeLine + 1; simp only [Array.size_append, List.size_toArray, List.length_nil]; lia))
 refine a0G ?_
 refine a0C (wpAny_load (a6H hoL _) ?_)
 show wpAny _ _ (pure ((#[] : Array Value) ++ vs.toArray).toList) Q E _
 have e : ((#[] : Array Value) ++ vs.toArray).toList = vs := by simp
 rw [e]
 refine a0G (q _ fun b o e => ?_)
 rw [a1N _ _ (a4I (a0Q e))]
 exact a0I _ e
theorem c9n {t : Addr} {o : Obj} {c : Nat} {ns : List Int} {Q : Value -> Shared -> Prop} (ho : s.heap.get? t = some o) (hc : o.cls = .type "tuple") (hd : o.data = .seq vs.toArray c) (are : IntsAre vs ns) (h64 : vs.length < 64)
  (q : ∀ (h1 h' : Heap) out js n, IntsAre out js -> js.Perm ns -> js.Pairwise (· <= ·) -> (∀ b o, s.heap.get? b = some o -> h1.get? b = some o) -> (∀ b o, h1.get? b = some o -> h'.get? b = some o) -> h'.get? h1.objs.size = some { cls := .type "list", data := .seq out.toArray n } -> Q (.ref h1.objs.size) { s with heap := h' }) :
  wpAny (model P w) A (call (.builtin "sorted") [.ref t]) Q E s := by
 refine a2Z a8S a7V a7W (a9B _) ?_
 unfold Builtin.«sorted»
 refine a0C (m := checkCount "sorted" 1 1 _) (a0G ?_)
 refine a0C (b1p ho hc hd (by rw [a1B]; lia) fun h1 keep => ?_)
 refine a0C (a5E ?_ (by rw [a1B]; lia))
 have eD : (h1.push (seqObj "list" vs.toArray 0)).get? h1.objs.size = some (seqObj "list" vs.toArray 0) := a0R _ rfl
 refine a0C (a1Y (a1Z a6U ⟨_, eD, rfl⟩ a6E (list_sort_tree eD are h64 fun out js o1 o2 o3 => ⟨_, rfl, ?_⟩) (a7T _)))
 obtain ⟨n, eN⟩ := sortedHeap_at (out := out) eD
 refine a0G ⟨_, rfl, q h1 _ out.toList js n o1 o2 o3 keep (fun b o e => ?_) (by simpa using eN)⟩
 have lt := a0Q e
 rw [sortedHeap_old (a1J lt) (a1E lt (by rw [a6S]; exact a7B _))]
 exact a0I _ e
end
section
variable {X : Cx}
def c7p (K : W.Frag) : List V -> Hp -> VK -> Prop := fun xs H Q => ∃ (p : Addr) (ns : List Int), xs = [.ref p] /\ SqT K H p (ns.map V.int) /\ ns.length < 64 /\ ∀ (D : Addr) (js : List Int), H D = none -> js.Perm ns -> js.Pairwise (· <= ·) -> Q (.ref D) (upd H D (.lst (js.map V.int)))
theorem b8w (hc : X.calm = true) : CallR X (.builtin "sorted") (c7p X.K) := by
 intro pins s σ H xs us Q I r h
 obtain ⟨p, ns, rfl, hp, h64, q⟩ := h
 obtain ⟨u, rfl, ru⟩ := a4f r
 cases ru
 obtain ⟨its, rv, pl, _⟩ := I.tuple hp
 obtain ⟨o, e, c1, n, d1⟩ := pl
 have ia := a7f rv
 have il := ia.length
 refine c9n e c1 d1 ia (by lia) fun h1 h' out js n o1 o2 o3 k1 k2 e => ?_
 have I1 : Inv X pins σ H { s with heap := h1 } := I.kept (t' := s.toks) k1
 have I2 : Inv X pins σ H { s with heap := h' } := I1.kept (t' := s.toks) k2
 have lj := o2.length_eq
 have ok : ObjOk X.prog X.w (upd H h1.objs.size (.lst (js.map V.int))) h' h1.objs.size (.lst (js.map V.int)) := ⟨by rw [a0D, a1B]; lia, out, n, c5k o1, e⟩
 exact ⟨.ref h1.objs.size, _, Inv.trackNew I1 I2 ok, rfl, q _ js I1.fresh o2 o3⟩
end
open PySem PySem.Spec PySem.W PyProof.Rows
def a5j (g : List Nat -> Int) (t u : List Nat) : Bool := plt (g t) t (g u) u
theorem a3a (g : List Nat -> Int) (xs : List (List Nat)) : Total (a5j g) xs := by
 refine ⟨fun x => ?_, fun x y z h1 h2 => ?_, fun x _ y _ ne => ?_⟩
 ·unfold a5j plt
  rw [if_pos rfl, a6d]
 ·unfold a5j plt at h1 h2 ⊢
  by_cases e1 : g x = g y
  ·rw [if_pos e1] at h1
   by_cases e2 : g y = g z
   ·rw [if_pos e2] at h2
    rw [if_pos (by lia)]
    exact b6v _ _ _ h1 h2
   ·rw [if_neg e2] at h2
    have := a1X h2
    rw [if_neg (by lia)]
    exact a0Y (by lia)
  ·rw [if_neg e1] at h1
   have l1 := a1X h1
   by_cases e2 : g y = g z
   ·rw [if_neg (by lia)]
    exact a0Y (by lia)
   ·rw [if_neg e2] at h2
    have l2 := a1X h2
    rw [if_neg (by lia)]
    exact a0Y (by lia)
 ·unfold a5j plt
  by_cases e : g x = g y
  ·rw [if_pos e, if_pos e.symm]
   exact a9g x y ne
  ·rw [if_neg e, if_neg fun z => e z.symm]
   rcases Int.lt_or_gt_of_ne e with q | q
   ·exact .inl (a0Y q)
   ·exact .inr (a0Y q)
def c2l (H : Hp) (g : List Nat -> Int) (κ a : Addr) (t : List Nat) : Prop := H κ = some (.tup [.int (g t), .ref a]) /\ H a = some (.tup (t.map nv))
structure KeysAt (H : Hp) (g : List Nat -> Int) (κs as : List Addr) (ts : List (List Nat)) : Prop where
 l1 : κs.length = ts.length
 l2 : as.length = ts.length
 is : ∀ (i : Nat) κ a t, κs[i]? = some κ -> as[i]? = some a -> ts[i]? = some t -> c2l H g κ a t
section
variable {X : Cx} {pins : List (Addr × Obj)} {σ : St} {H : Hp} {s : Shared} {g : List Nat -> Int}
theorem b5j {κ a : Addr} {t : List Nat} (I : Inv X pins σ H s) (h : c2l H g κ a t) : ∃ o tk its n, s.heap.get? κ = some o /\ o.cls = .type "tuple" /\ o.data = .seq #[.int (g t) tk, .ref a] n /\ Vals (t.map nv) its /\ SeqObj "tuple" s.heap a its := by
 obtain ⟨_, its, r, o, h1, h2, c, h3, _⟩ := (show ObjOk X.prog X.w H s.heap κ (.tup [.int (g t), .ref a]) from I.hok κ _ h.1)
 obtain ⟨u1, us, rfl, ⟨tk, rfl⟩, r2⟩ : ∃ u1 us, its = u1 :: us /\ RelV (.int (g t)) u1 /\ Vals [.ref a] us := by
  cases r with
  | cons x y => exact ⟨_, _, rfl, x, y⟩
 obtain ⟨u2, rfl, ru⟩ := a4f r2
 cases ru
 obtain ⟨its2, r3, p3, _⟩ := I.tuple (SqT.of (K := X.K) h.2)
 exact ⟨o, tk, its2, c, h1, h2, h3, r3, b8l p3⟩
theorem d2h {A : Around} {κ a κ' a' : Addr} {t u : List Nat} {Q : Bool -> Shared -> Prop} {E : Value -> Shared -> Prop} (hu : A.units + 8 < cLine) (I : Inv X pins σ H s) (h1 : c2l H g κ a t) (h2 : c2l H g κ' a' u) (q : Q (a5j g t u) s) :
  wpAny (model X.prog X.w) A (keyLt' (tuples' true) (.ref κ) (.ref κ')) Q E s := by
 obtain ⟨o1, k1, xs, n1, x1, x2, x3, x4, x5⟩ := b5j I h1
 obtain ⟨o2, k2, ys, n2, y1, y2, y3, y4, y5⟩ := b5j I h2
 refine kat_lt x1 x3 y1 y3 ?_
 show KatLex _ _ _ _ _ _ [(Value.int (g t) k1, Value.int (g u) k2), (Value.ref a, Value.ref a')] 0 s
 have z := eqAt_int (A := A) (s := s) (i := g t) (j := g u) (t := k1) (u := k2)
 refine kat_cons ?_
 unfold a5j plt at q
 by_cases e : g t = g u
 ·rw [a0Y e] at z
  rw [if_pos e] at q
  refine z _ _ _ _ (kat_yes (kat_cons ?_))
  obtain ⟨b1, e1, e2⟩ := b2v I 1 (A := A) (by lia) (a4x (SqT.of (K := X.K) h1.2)) (a4x (SqT.of (K := X.K) h2.2)) rfl rfl
  refine e1 _ _ _ _ ?_
  cases b1 with
  | true =>
   have eq := dt_natsT.mp (e2.mp rfl)
   subst eq
   rw [a6d] at q
   refine kat_yes (kat_nil ?_)
   exact q
  | false =>
   refine kat_no (kat_one _ _ ?_)
   have l1 : t.length = xs.length := by simpa using x4.length
   have l2 : u.length = ys.length := by simpa using y4.length
   have rc := c5c (A := A) x5 y5 (by lia) (d1o x4 y4)
   rw [<- l1, <- l2] at rc
   exact show wpAny _ _ (richCompare .Lt _ _) _ _ _ from rc _ _ _ _ q
 ·rw [a1I e] at z
  rw [if_neg e] at q
  exact z _ _ _ _ (kat_no (c7l _ q))
theorem b0l {g : List Nat -> Int} (I : Inv X pins σ H s) : ∀ {κs as : List Addr} {ts : List (List Nat)}, KeysAt H g κs as ts -> ∃ fs : List Value, KatTups s.heap (κs.map Value.ref) fs /\ fs.length = κs.length /\ ∀ f ∈ fs, ∃ i t, f = .int i t
 | [], as, ts, _ => ⟨[], .nil, rfl, fun _ z => nomatch z⟩
 | κ :: κs, [], ts, h => by have := h.l1; have := h.l2; simp at *; lia
 | κ :: κs, a :: as, [], h => by have := h.l1; simp at this
 | κ :: κs, a :: as, t :: ts, h => by
  obtain ⟨fs, k1, k2, k3⟩ := b0l I (κs := κs) (as := as) (ts := ts) ⟨by simpa using h.l1, by simpa using h.l2, fun i κ a t e1 e2 e3 => h.is (i + 1) κ a t (by simpa using e1) (by simpa using e2) (by simpa using e3)⟩
  obtain ⟨o, tk, its, n, h1, h2, h3, _⟩ := b5j I (h.is 0 κ a t rfl rfl rfl)
  exact ⟨_ :: fs, .cons h1 h2 h3 rfl k1, by simp [k2], fun f hf => by
   rcases a1H.mp hf with e | hf
   ·exact ⟨_, _, e⟩
   ·exact k3 f hf⟩
theorem c5x {A : Around} {κs as : List Addr} {ts : List (List Nat)} (hu : A.units + 8 < cLine) (I : Inv X pins σ H s) (n1 : 1 <= ts.length) (h : KeysAt H g κs as ts) : c5t X.prog X.w A (κs.map Value.ref) (fun i j => a5j g (ts.getD i []) (ts.getD j [])) s := by
 obtain ⟨fs, k1, k2, k3⟩ := b0l I h
 have l1 := h.l1
 have l2 := h.l2
 refine kat_kind (T := .type "int") k1 (by lia) (fun f hf => ?_) (by decide) ⟨rfl, fun i j C li lj hC => ?_⟩
 ·obtain ⟨i, t, rfl⟩ := k3 f hf
  exact .now
 ·rw [a0D] at li lj
  have at0 : ∀ {i : Nat}, i < κs.length -> ∃ κ a, (κs.map Value.ref).getD i Value.none = .ref κ /\ c2l H g κ a (ts.getD i []) := fun {i} li => by
   obtain ⟨κ, e1⟩ : ∃ κ, κs[i]? = some κ := ⟨_, a0A li⟩
   obtain ⟨a, e2⟩ : ∃ a, as[i]? = some a := ⟨_, a0A (by lia)⟩
   refine ⟨κ, a, ?_, h.is i κ a _ e1 e2 (a3q (by lia)).1⟩
   rw [a0J, a0E, e1]
   rfl
  obtain ⟨κ, a, e1, h1⟩ := at0 li
  obtain ⟨κ', a', e2, h2⟩ := at0 lj
  show wpAny (model X.prog X.w) A (keyLt' _ ((κs.map Value.ref).getD i Value.none) ((κs.map Value.ref).getD j Value.none)) C _ s
  rw [e1, e2]
  exact d2h hu I h1 h2 hC
end
def b8x (g : List Nat -> Int) : Sp := fun vs H Q _ => ∃ (a : Addr) (t : List Nat), vs = [.ref a] /\ H a = some (.tup (t.map nv)) /\ ∀ κ H', Same H H' -> H' κ = some (.tup [.int (g t), .ref a]) -> Q (.ref κ) H'
section
variable {X : Cx} {pins : List (Addr × Obj)} {σ : St} {kk : Nat} {f : Addr} {fd : FuncData} {ps : List Str} {g : List Nat -> Int}
theorem c9o {sp : Sp} {H : Hp} {s : Shared} {Q : VK} {us : List Value} {vs : List V} (F : FnOk X.prog X.w X.K X.mg X.base CX0 kk f fd ps sp) (hr : Room kk X.A.in1.in1) (hb : Binds X.K fd ps []) (I : Inv X pins σ H s) (r : Vals vs us) (h : sp vs H Q E0) :
  wpAny (model X.prog X.w) X.A.in1.in1 (call (.ref f) us) (EP X pins σ Q) (fun _ _ => False) s := by
 have hl : (us ++ []).length = ps.length := by rw [a2J, <- r.length]; exact F.len _ _ _ _ h
 have b := hb s us I.kIn hl
 rw [a2J] at b
 refine b0F (a5A (F.run X.A.in1.in1 X.stack s H ⟨us, []⟩ us vs Q E0 hr I.env0.in1.in1 b r h) fun r s' hq => ?_)
 cases r with
 | error e => exact hq.elim
 | ok fl =>
  cases fl with
  | ret u => exact I.after hq
  | next => exact False.elim hq
  | brk => exact False.elim hq
  | cont => exact False.elim hq
theorem Inv.pin2 {H : Hp} {s : Shared} {b c : Addr} {o u : Obj} (I : Inv X pins σ H s) (f1 : FpOk X pins H b) (f2 : FpOk X pins H c) (e1 : s.heap.get? b = some o) (e2 : s.heap.get? c = some u) (n1 : ∀ v, o.data ≠ .cell v) (n2 : ∀ v, u.data ≠ .cell v) : Inv X ((b, o) :: (c, u) :: pins) σ H s :=
 I.pins_of fun p hp => by
  rcases a1H.mp hp with rfl | hp
  ·exact ⟨e1, f1.1, f1.2.1, f1.2.2.1, n1⟩
  ·rcases a1H.mp hp with rfl | hp
   ·exact ⟨e2, f2.1, f2.2.1, f2.2.2.1, n2⟩
   ·exact I.pin p (a0X _ hp)
theorem Inv.unpin2 {H : Hp} {s : Shared} {b c : Addr} {o u : Obj} (I : Inv X ((b, o) :: (c, u) :: pins) σ H s) : Inv X pins σ H s :=
 I.pins_of fun p hp => I.pin p (a0X _ (a0V _ (a0V _ hp)))
theorem FpOk.to {H H' : Hp} {b : Addr} (h : FpOk X pins H b) (e : H' b = none) : FpOk X pins H' b := ⟨e, h.2⟩
theorem c2m {E : Value -> Shared -> Prop} {kS D : Addr} {e1 : Nat} {body : Value -> PUnit -> Sem (ForInStep PUnit)} {Q : Shared -> Prop} (F : FnOk X.prog X.w X.K X.mg X.base CX0 kk f fd ps (b8x g)) (hr : Room kk X.A.in1.in1) (hb : Binds X.K fd ps []) (ne : kS ≠ D)
  (hbody : ∀ x (s : Shared) (C : Value -> Shared -> Prop) (Qy : Shared -> Prop), wpAny (model X.prog X.w) X.A.in1.in1 (call (.ref f) [x]) C (fun _ _ => False) s ->
   (∀ k s', C k s' -> ∃ its c, s'.heap.get? kS = some (seqObj "list" its c) /\ its.size < 64 /\ Qy { s' with heap := s'.heap.update kS (Obj.mapSeq (·.push k)) }) -> wpAny (model X.prog X.w) X.A.in1.in1 (body x ⟨⟩) (fun r s' => r = .yield ⟨⟩ /\ Qy s') E s) :
  ∀ (r : List Addr) (rt : List (List Nat)) (H : Hp) (κs : List Addr) (c : Nat) (s : Shared), Inv X pins σ H s -> TupsAt H r rt -> s.heap.get? kS = some (seqObj "list" (κs.map Value.ref).toArray c) -> s.heap.get? D = some (seqObj "list" #[] e1) -> FpOk X pins H kS -> FpOk X pins H D -> κs.length + r.length < 64 ->
   (∀ H2 κ2 c2 s2, Inv X pins σ H2 s2 -> Same H H2 -> KeysAt H2 g κ2 r rt -> s2.heap.get? kS = some (seqObj "list" ((κs ++ κ2).map Value.ref).toArray c2) -> s2.heap.get? D = some (seqObj "list" #[] e1) -> FpOk X pins H2 kS -> FpOk X pins H2 D -> Q s2) ->
   wpAny (model X.prog X.w) X.A.in1.in1 (forIn (r.map Value.ref) PUnit.unit body) (fun _ s' => Q s') E s
 | [], [], H, κs, c, s, I, T, eS, eD, f1, f2, _, q => by
  rw [a9R, List.forIn_nil]
  exact a0G (q H [] c s I (Same.refl _) ⟨rfl, rfl, fun i κ a t e => by simp at e⟩ (by rw [List.append_nil]; exact eS) eD f1 f2)
 | [], _ :: _, H, κs, c, s, I, T, eS, eD, f1, f2, _, q => by have := T.len; simp at this
 | _ :: _, [], H, κs, c, s, I, T, eS, eD, f1, f2, _, q => by have := T.len; simp at this
 | a :: r, t :: rt, H, κs, c, s, I, T, eS, eD, f1, f2, l64, q => by
  rw [a4O] at l64
  rw [a2M, List.forIn_cons]
  have ha : H a = some (.tup (t.map nv)) := T.is 0 a t rfl rfl
  have I1 := I.pin2 f1 f2 eS eD (fun _ z => nomatch z) (fun _ z => nomatch z)
  have go := c9o (Q := fun v H' => ∃ κ, v = .ref κ /\ Same H H' /\ H' κ = some (.tup [.int (g t), .ref a])) F hr hb I1 (us := [.ref a]) (vs := [.ref a]) (.cons rfl .nil) ⟨a, t, rfl, ha, fun κ H' gg e => ⟨κ, rfl, gg, e⟩⟩
  refine a0C (a3D (hbody _ s _ (fun s' => ∃ κ H' c', Inv X pins σ H' s' /\ Same H H' /\ H' κ = some (.tup [.int (g t), .ref a]) /\ s'.heap.get? kS = some (seqObj "list" ((κs ++ [κ]).map Value.ref).toArray c') /\ s'.heap.get? D = some (seqObj "list" #[] e1) /\ FpOk X pins H' kS /\ FpOk X pins H' D) go fun k s' hk => ?_) (fun x s' hx => ?_) fun _ _ z => z)
  ·obtain ⟨v, H', I', rv, κ, rfl, gg, eκ⟩ := hk
   cases rv
   obtain ⟨p1, p2, p3, p4, _⟩ := I'.pin (kS, _) (a0X _ (a0S ..))
   obtain ⟨d1, d2, d3, d4, _⟩ := I'.pin (D, _) (a0X _ (a0V _ (a0S ..)))
   obtain ⟨c', hc'⟩ : ∃ c', (s'.heap.update kS (Obj.mapSeq (·.push (Value.ref κ)))).get? kS = some (seqObj "list" ((κs ++ [κ]).map Value.ref).toArray c') := by
    have ea : (List.map Value.ref κs).toArray.push (.ref κ) = ((κs ++ [κ]).map Value.ref).toArray := by simp
    rw [<- ea]
    exact ⟨_, a6H p1 (·.push (Value.ref κ))⟩
   refine ⟨_, _, p1, by rw [a0U, a0D]; lia, κ, H', c', ?_, gg, eκ, hc', ?_, f1.to p2, f2.to d2⟩
   ·obtain ⟨_, w1, w2, w3, w4, w5⟩ := f1
    exact I'.unpin2.turned (t' := s'.toks) (fun b o nb e => (a1N _ _ (a3R nb)).trans e) p2 w1 w3 w4 w5
   ·exact (a1N _ _ ne).trans d1
  ·obtain ⟨rfl, κ, H', c', I', gg, eκ, eS', eD', g1, g2⟩ := hx
   show wpAny _ _ (forIn (r.map Value.ref) PUnit.unit body) _ E s'
   refine c2m F hr hb ne hbody r rt H' (κs ++ [κ]) c' s' I' ⟨by simpa using T.len, fun i b u e1 e2 => gg _ _ (T.is (i + 1) b u (by simpa using e1) (by simpa using e2))⟩ eS' eD' g1 g2 (by rw [List.length_append]; show κs.length + 1 + r.length < 64; lia) fun H2 κ2 c2 s2 I2 gg2 K2 eS2 eD2 h1 h2 => ?_
   refine q H2 (κ :: κ2) c2 s2 I2 (gg.trans gg2) ⟨by simp [K2.l1], by simp [K2.l2], fun i κ' b u e1 e2 e3 => ?_⟩ (by rw [List.append_assoc] at eS2; exact eS2) eD2 h1 h2
   cases i with
   | zero =>
    cases e1
    cases e2
    cases e3
    exact ⟨gg2 _ _ eκ, (gg.trans gg2) _ _ ha⟩
   | succ i => exact K2.is i κ' b u (by simpa using e1) (by simpa using e2) (by simpa using e3)
end
section
variable {X : Cx} {pins : List (Addr × Obj)} {σ : St} {H : Hp} {s : Shared} {kk : Nat} {f D : Addr} {fd : FuncData} {ps : List Str} {g : List Nat -> Int} {as : List Addr} {ts : List (List Nat)} {E : Value -> Shared -> Prop}
theorem b8y {R : PySem.Fin -> Shared -> Prop} {n : Nat} (F : FnOk X.prog X.w X.K X.mg X.base CX0 kk f fd ps (b8x g)) (hr : Room kk X.A.in1.in1) (hb : Binds X.K fd ps []) (hu : X.A.units + 64 < cLine) (I : Inv X pins σ H s) (T : TupsAt H as ts) (nd : ts.Nodup) (h64 : ts.length < 64)
  (ho : s.heap.get? D = some (seqObj "list" (as.map Value.ref).toArray n)) (fD : FpOk X pins H D)
  (q : ∀ H2 p s2 c, Inv X pins σ H2 s2 -> Same H H2 -> Arr ts.length p -> SUp (fun i => a3g (a5j g) ts (ts.getD i [])) p ts.length -> s2.heap.get? D = some (seqObj "list" (a1u (as.map Value.ref) p).toArray c) -> FpOk X pins H2 D -> R (.done (.ret .none)) s2) :
  wpAny (model X.prog X.w) X.A.in1.in1 (ksk_tree D (.ref f) false) R E s := by
 have la := T.len
 have lv : (as.map Value.ref).length = ts.length := by rw [a0D, la]
 have lD : D < s.heap.objs.size := a0Q ho
 obtain ⟨d0, d1, d2, d3, d4, d5⟩ := fD
 let h1 := s.heap.update D (Obj.mapSeq fun _ => (#[] : Array Value))
 obtain ⟨e1, ho1⟩ : ∃ e1, h1.get? D = some (seqObj "list" #[] e1) := ⟨_, a6H ho fun _ => #[]⟩
 have I1 : Inv X pins σ H { s with heap := h1 } := I.turned (t' := s.toks) (fun b o nb e => (a1N _ _ (a3R nb)).trans e) d0 d1 d3 d4 d5
 let h2 := h1.push (seqObj "tuple" (as.map Value.ref).toArray 0)
 have I3 : Inv X pins σ H { s with heap := h2.push (seqObj "list" #[] 0) } := I1.kept (t' := s.toks) fun b o e => b6u e _ _
 have ho3 : (h2.push (seqObj "list" #[] 0)).get? D = some (seqObj "list" #[] e1) := b6u ho1 _ _
 have hk3 : (h2.push (seqObj "list" #[] 0)).get? h2.objs.size = some (seqObj "list" ((([] : List Addr)).map Value.ref).toArray 0) := a0R _ rfl
 have lk : s.heap.objs.size <= h2.objs.size := by
  show _ <= (h1.push _).objs.size
  rw [size_push']
  show _ <= (s.heap.update D _).objs.size + 1
  rw [a9Q]
  exact a7B _
 have fk : FpOk X pins H h2.objs.size := I.fpOk lk (I.hok.fresh lk)
 have ne : h2.objs.size ≠ D := a4I (a1E lD lk)
 unfold ksk_tree
 refine a0C (a9G ho rfl ?_)
 refine a0C (a6N ho rfl ?_ (by rw [a0U, a1B]; lia) (a2U _))
 refine a0C (b0K ho1 rfl ?_)
 refine a0C (wpAny_newTuple ?_ (by show (as.map Value.ref).length <= _; rw [a1B]; lia))
 refine a0C (a5E ?_ (a2U _))
 refine a1Y ?_
 show wpAny (model X.prog X.w) X.A.in1.in1 (ksk_rest D (.ref f) false (as.map Value.ref).toArray e1 (.ref h2.objs.size)) R E { s with heap := h2.push (seqObj "list" #[] 0) }
 unfold ksk_rest
 refine a0C (a6K ?_)
 rw [List.forIn_toArray]
 refine a0C (c2m F hr hb ne (fun x s0 C Qy hx hC => ?_) as ts H [] 0 _ I3 T hk3 ho3 fk ⟨d0, d1, d2, d3, d4, d5⟩ (by simp; lia) fun H2 κs c2 s2 I2 gg K2 eS eD f1 f2 => ?_)
 ·refine a0C (a5Q (a3D hx (fun k s' hk => ?_) fun _ _ z => z.elim))
  obtain ⟨its, c, e, l, qy⟩ := hC k s' hk
  refine a0C (a6N e rfl ?_ (by rw [a1B]; lia) (by show (its.push k).size <= _; rw [a4M, a1B]; lia))
  exact a0G ⟨rfl, qy⟩
 rw [a9U] at eS
 have lκ : (κs.map Value.ref).length = (as.map Value.ref).length := by rw [a0D, lv, K2.l1]
 refine a0C (a9G eS rfl ?_)
 have fin : ∀ (st : SortSt) (p : Array Nat), Arr ts.length p -> SUp (fun i => a3g (a5j g) ts (ts.getD i [])) p ts.length -> (arrOf st).map (·.2) = (a1u (as.map Value.ref) p).toArray -> failedOf st = none ->
   wpAny (model X.prog X.w) X.A.in1.in1 (ksk_tail D false e1 (.ref h2.objs.size) st) R E s2 := fun st p ar up hout hf => by
  have sz : (a1u (as.map Value.ref) p).toArray.size = ts.length := by
   rw [a0U, a0D, a0L, ar.size]
  unfold ksk_tail
  try dsimp only
  rw [hout]
  have I4 : Inv X pins σ H2 { s2 with heap := s2.heap.update h2.objs.size (Obj.mapSeq fun _ => (#[] : Array Value)) } := by
   obtain ⟨w0, w1, w2, w3, w4, w5⟩ := f1
   exact I2.turned (t' := s2.toks) (fun b o nb e => (a1N _ _ (a3R nb)).trans e) w0 w1 w3 w4 w5
  have eD4 : (s2.heap.update h2.objs.size (Obj.mapSeq fun _ => (#[] : Array Value))).get? D = some (seqObj "list" #[] e1) := (a1N _ _ ne).trans eD
  obtain ⟨c5, hc5⟩ : ∃ c5, ((s2.heap.update h2.objs.size (Obj.mapSeq fun _ => (#[] : Array Value))).update D (Obj.mapSeq fun _ => (a1u (as.map Value.ref) p).toArray)).get? D = some (seqObj "list" (a1u (as.map Value.ref) p).toArray c5) := ⟨_, a6H eD4 fun _ => (a1u (as.map Value.ref) p).toArray⟩
  refine a0C (a6N eS rfl ?_ (by rw [a0U, a1B]; lia) (a2U _))
  refine a0C (wpAny_letGo ?_)
  refine a0C (b0K eD4 rfl ?_)
  refine a0C (a6N eD4 rfl ?_ (a2U _) (by show (a1u (as.map Value.ref) p).toArray.size <= _; rw [sz, a1B]; lia))
  rw [hf]
  simp only [bne_self_eq_false, Bool.false_eq_true, if_false]
  refine a0G (q H2 p _ c5 ?_ gg ar up hc5 f2)
  obtain ⟨w0, w1, w2, w3, w4, w5⟩ := f2
  exact I4.turned (t' := s2.toks) (fun b o nb e => (a1N _ _ (a3R nb)).trans e) w0 w1 w3 w4 w5
 unfold ksk_end
 simp only [Bool.false_eq_true, if_false]
 by_cases h2' : 2 <= ts.length
 ·have n2 : ¬ (as.map Value.ref).toArray.size < 2 := by rw [a0U]; lia
  rw [if_neg n2, if_neg n2]
  have To := a3a g ts
  have inj := b1f (d := ([] : List Nat)) To nd
  refine a0C (a3D (c5x (A := X.A.in1.in1) (by show X.A.units + 1 + 1 + 8 < cLine; lia) I2 (by lia) K2) (fun κ s0 hk => ?_) fun _ _ x => x.elim)
  obtain ⟨rfl, hk⟩ := hk
  have lκ' : κs.length = ts.length := K2.l1
  have ndκ : (κs.map Value.ref).Nodup := by
   refine a2H.mpr fun i j hi hj ij z => ?_
   rw [a5W, a5W] at z
   rw [a0D] at hi hj
   have z := Value.ref.inj z
   have e1 := K2.is i κs[i] (as[i]'(by lia)) (ts[i]'(by lia)) (a0A hi) (a0A _) (a0A _)
   have e2 := K2.is j κs[j] (as[j]'(by lia)) (ts[j]'(by lia)) (a0A hj) (a0A _) (a0A _)
   obtain ⟨e1, e1'⟩ := e1
   obtain ⟨e2, e2'⟩ := e2
   rw [z, e2] at e1
   have ea : as[j]'(by lia) = as[i]'(by lia) := by
    have y := a1S e1
    injection y with y
    injection y with _ y
    injection y with y
    exact V.ref.inj y
   rw [ea] at e2'
   have et : ts[j]'(by lia) = ts[i]'(by lia) := by
    have y := a1S (e2'.symm.trans e1')
    injection y with y
    exact (List.map_inj_right (f := nv) fun a b h => a8K (V.int.inj h)).mp y
   have e4 := (a2P (i := j) (j := i) (by lia) nd).mp (by rw [a0A (by lia), a0A (by lia), et])
   lia
  refine a0C (a3D (c2j (ks := κs.map Value.ref) (vs := as.map Value.ref) (k := fun i => a3g (a5j g) ts (ts.getD i [])) (Q := fun st' s' => s' = s0 /\ ∃ p : Array Nat, Arr ts.length p /\ SUp (fun i => a3g (a5j g) ts (ts.getD i [])) p ts.length /\ (arrOf st').map (·.2) = (a1u (as.map Value.ref) p).toArray /\ failedOf st' = none) lκ (by lia) ndκ (by rw [lv]; exact inj) (fun i j C li lj hC => hk i j C (by lia) (by lia) (by
   have e := To.asks (a3q (d := ([] : List Nat)) (show i < ts.length by lia)).2 (a3q (d := ([] : List Nat)) (show j < ts.length by lia)).2
   show C (a5j g (ts.getD i []) (ts.getD j [])) _
   rw [<- e]
   exact hC)) fun p st' a1 a2 a3 a4 => ⟨rfl, p, by rw [<- lv]; exact a1, by rw [<- lv]; exact a2, a3, a4⟩) ?_ fun _ _ x => x)
  rintro ⟨⟨⟩, st⟩ s' ⟨rfl, p, ar, up, hout, hf⟩
  exact fin st p ar up hout hf
 ·have n2 : (as.map Value.ref).toArray.size < 2 := by rw [a0U]; lia
  rw [if_pos n2, if_pos n2]
  refine a0C (a0G (a0C (a0G ?_)))
  refine fin _ (List.range ts.length).toArray (b0D _) (fun x y xy yn => by lia) ?_ rfl
  rw [<- lv, a7w]
  exact c2d lκ
end
section
variable {X : Cx} {pins : List (Addr × Obj)} {σ : St} {H : Hp} {s : Shared} {d : Addr} {kvs : List (List Key × V)} {ts : List (List Nat)}
theorem a9i (I : Inv X pins σ H s) (h : H d = some (.dT kvs)) (e : kvs.map (·.1) = ts.map nk) : ∃ as es ep, Lies s.heap d es ep /\ (d == sysModules) = false /\ TupsAt H as ts /\ (∀ (i : Nat) (en : DictEntry), es[i]? = some en -> ∃ a, as[i]? = some a /\ en.key = .ref a) /\ es.size = ts.length /\ ts.Nodup /\ ts.length <= sizeLine := by
 obtain ⟨z, nm, ys, rel, o, es, ep, e1, e2, e3, e4, nd⟩ := (show ObjOk X.prog X.w H s.heap d (.dT kvs) from I.hok d _ h)
 have l1 : kvs.length = ys.length := a4T rel
 have l2 : kvs.length = ts.length := by rw [<- a0D (f := (·.1)) (as := kvs), e, a0D]
 have le : es.size = ys.length := a8Q e4
 have at1 : ∀ (i : Nat) (t : List Nat), ts[i]? = some t -> ∃ k v y u, kvs[i]? = some (k, v) /\ ys[i]? = some (k, y, u) /\ k = nk t /\ H y = some (.tup (t.map nv)) := fun i t et => by
  have li := (a0B.mp et).1
  obtain ⟨⟨k, v⟩, ek⟩ : ∃ p, kvs[i]? = some p := ⟨_, a0A (by lia)⟩
  obtain ⟨⟨k', y, u⟩, ey, p1, p2, p3⟩ := a6u rel ek
  have kk : k = nk t := by
   have z1 : (kvs.map (·.1))[i]? = some k := by rw [a0E, ek]; rfl
   rw [e, a0E, et] at z1
   exact (a1S z1).symm
  have p1' : k = k' := p1
  subst p1'
  refine ⟨k, v, y, u, ek, ey, kk, ?_⟩
  have p2' : H y = some (.tup (k.map kV)) := p2
  rw [kk, a5y] at p2'
  exact p2'
 refine ⟨ys.map (·.2.1), es, ep, ⟨o, e1, e2, e3⟩, nm, ⟨by rw [a0D]; lia, fun i b t eb et => ?_⟩, fun i en ee => ?_, by lia, ?_, by lia⟩
 ·obtain ⟨k, v, y, u, _, ey, _, hy⟩ := at1 i t et
  rw [a0E, ey] at eb
  cases eb
  exact hy
 ·rw [entry_at e4] at ee
  obtain ⟨q, eq, rfl⟩ := a0O.mp ee
  exact ⟨q.2.1, by rw [a0E, eq]; rfl, rfl⟩
 ·have z1 : (ys.map (·.1)) = ts.map nk := by
   rw [<- e]
   refine a3V fun i => ?_
   rw [a0E, a0E]
   cases ek : kvs[i]? with
   | none => rw [a1Q (by rw [<- l1]; exact a6W.mp ek)]; rfl
   | some p =>
    obtain ⟨q, ey, p1, _⟩ := a6u rel ek
    rw [ey]
    exact a2C some p1.symm
  rw [z1] at nd
  exact (a4F.mp nd).imp fun h z => h (a2C nk z)
theorem a7o {as : List Addr} {es : Array DictEntry} {acc : Array Value} (is : ∀ (i : Nat) (en : DictEntry), es[i]? = some en -> ∃ a, as[i]? = some a /\ en.key = .ref a) (ln : as.length = es.size) (it : ItemsOf (fun i v => ∃ en, es[i]? = some en /\ v = en.key) acc es.size) : acc.toList = as.map Value.ref := by
 refine a3V fun i => ?_
 by_cases h : i < es.size
 ·obtain ⟨v, ev⟩ : ∃ v, acc[i]? = some v := ⟨_, a1P (by rw [it.1]; exact h)⟩
  obtain ⟨en, e1, e2⟩ := it.2 i v ev
  obtain ⟨a, ea, ek⟩ := is i en e1
  rw [a1W, ev, a0E, ea, e2, ek]
  rfl
 ·rw [a1Q (by rw [a0L, it.1]; lia), a1Q (by rw [a0D]; lia)]
theorem a4e : ∀ l : List Addr, Vals (l.map V.ref) (l.map Value.ref)
 | [] => .nil
 | x :: l => .cons rfl (a4e l)
end
section
variable {X : Cx}
def d2i : List V -> Hp -> VK -> Prop := fun xs H Q => ∃ d kvs ts, xs = [V.ref d] /\ H d = some (.dT kvs) /\ kvs.map (·.1) = ts.map nk /\ ∀ l as, H l = none -> TupsAt H as ts -> Q (.ref l) (upd H l (.lst (as.map V.ref)))
theorem a9x (hc : X.calm = true) : CallR X (.type "list") d2i := by
 intro pins s σ H xs us Q I r h
 obtain ⟨d, kvs, ts, rfl, hd, e, q⟩ := h
 obtain ⟨u, rfl, ru⟩ := a4f r
 cases ru
 obtain ⟨as, es, ep, L, nm, T, is, le, nd, fit⟩ := a9i I hd e
 refine kdl_call (srcK nm) (I.ok.hd hc) L (by lia) fun h' tk acc c keep eD it => ?_
 have ea := a7o is (by rw [T.len, le]) it
 have I1 : Inv X pins σ H { s with heap := h', toks := tk } := I.kept keep
 refine ⟨.ref s.heap.objs.size, _, Inv.trackNew I I1 (o := .lst (as.map V.ref)) ⟨by rw [a0D, T.len]; exact fit, as.map Value.ref, c, a4e as, ?_⟩, rfl, q _ as I.fresh T⟩
 rw [<- ea]
 simpa using eD
def c2n (g : List Nat -> Int) : List V -> Hp -> VK -> Prop := fun xs H Q => ∃ d kvs ts, xs = [V.ref d] /\ H d = some (.dT kvs) /\ kvs.map (·.1) = ts.map nk /\ ts.length < 64 /\
 ∀ D bs us H', Same H H' -> H D = none -> H' D = some (.lst (bs.map V.ref)) -> TupsAt H' bs us -> us.Perm ts -> us.Pairwise (fun x y => a5j g x y = true) -> Q (.ref D) H'
theorem a9j {as : List Addr} {p : Array Nat} (ar : Arr as.length p) : a1u (as.map Value.ref) p = (p.toList.map fun i => as.getD i 0).map Value.ref := by
 unfold a1u
 rw [a1T]
 refine a2D fun i hi => ?_
 have li : i < as.length := by
  have m := (a1V.mp ar).mem_iff.mp hi
  simpa using m
 show (as.map Value.ref).getD i Value.none = Value.ref (as.getD i 0)
 rw [a0J, a0J, a0E, a0A li]
 rfl
theorem b3r {kk : Nat} {f : Addr} {fd : FuncData} {ps : List Str} {g : List Nat -> Int} {pins : List (Addr × Obj)} {σ : St} {H : Hp} {s : Shared} {Q : VK} {d : Addr} (hc : X.calm = true) (hu : X.A.units + 64 < cLine) (F : FnOk X.prog X.w X.K X.mg X.base CX0 kk f fd ps (b8x g)) (hr : Room kk X.A.in1.in1) (hb : Binds X.K fd ps []) (I : Inv X pins σ H s)
  (h : c2n g [.ref d] H Q) : wpAny (model X.prog X.w) X.A (call (.builtin "sorted") [.ref d] [(Str.ofString "key", .ref f)]) (EP X pins σ Q) X.xe s := by
 obtain ⟨d', kvs, ts, e0, hd, e, h64, q⟩ := h
 cases e0
 obtain ⟨as, es, ep, L, nm, T, is, le, nd, fit⟩ := a9i I hd e
 refine call_function_entry_kw a8S a7V a7W (ksk_s1 _ _) ?_
 unfold Builtin.«sorted»
 refine a0C (m := checkCount "sorted" 1 1 _) (a0G ?_)
 refine a0C (kdu_collect (A := X.A.in1) (srcK nm) (by simpa using I.ok.hd hc) L (by lia) fun h1 tk acc keep it => ?_)
 have ea := a7o is (by rw [T.len, le]) it
 rw [ea]
 have I1 : Inv X pins σ H { s with heap := h1, toks := tk } := I.kept keep
 refine a0C (a5E ?_ (by rw [a0D, T.len, a1B]; lia))
 have eD : (h1.push (seqObj "list" (as.map Value.ref).toArray 0)).get? h1.objs.size = some (seqObj "list" (as.map Value.ref).toArray 0) := a0R _ rfl
 have I2 : Inv X pins σ H { s with heap := h1.push (seqObj "list" (as.map Value.ref).toArray 0), toks := tk } := I1.kept (t' := tk) fun b o z => a0I _ z
 have hD : H h1.objs.size = none := I1.hok.fresh (a0N _)
 have fD : FpOk X pins H h1.objs.size := I1.fpOk (a0N _) hD
 refine a0C (a1Y (wpAny_call_entry_kw a6U ⟨_, eD, rfl⟩ a6E (b8y (s := { s with heap := h1.push (seqObj "list" (as.map Value.ref).toArray 0), toks := tk }) F hr hb hu I2 T nd h64 eD fD fun H2 p s2 c Iz gg ar up e2 f2 => ⟨_, rfl, ?_⟩) (ksk_l1 _ _)))
 have arA : Arr as.length p := by rw [T.len]; exact ar
 rw [a9j arA] at e2
 have T2 := (T.same gg).pick ar
 obtain ⟨w0, w1, w2, w3, w4, w5⟩ := f2
 have few : ((p.toList.map fun i => as.getD i 0).map V.ref).length <= sizeLine := by
  rw [a0D, a0D, a0L, ar.size]
  exact fit
 have I5 := Iz.track (o := .lst ((p.toList.map fun i => as.getD i 0).map V.ref)) w0 ⟨few, _, c, a4e _, e2⟩ (a1A I1.sz (a0N _)) w1 w4 w5
 have k5 := a0c w0 (.lst ((p.toList.map fun i => as.getD i 0).map V.ref))
 exact a0G ⟨_, rfl, .ref h1.objs.size, _, I5, rfl, q _ _ _ _ (gg.trans k5) hD a0a (T2.same k5) (b1e ar) (a5f (a3a g ts) ar up)⟩
def d2j (g : List Nat -> Int) (te : TE) : TE := fun σ H Q => te σ H fun x H1 => ∃ d, x = .ref d /\ c2n g [.ref d] H1 Q
theorem c5y {kk : Nat} {ps : List Str} {g : List Nat -> Int} {fx : Str} {e : Expr} {te : TE} {p p2 kp pos : Pos} (hc : X.calm = true) (hu : X.A.units + 64 < cLine) (cl : a0l X.prog X.w X.K X.mg X.base fx kk ps (b8x g)) (hr : Room (kk + 2) X.A) (hg : Gl X "sorted") (hm : X.mg "sorted" = none) (hgf : Gl X fx) (he : PE X e te)
  (hdf : (fx == ("__debug__" : Str)) = false := by decide) (hs : starEach [e] X.env = [(false, eval e X.env)] := by rfl) : PE X (.Call (.Name "sorted" p) [e] [⟨some "key", .Name fx p2, kp⟩] pos) (d2j g te) := by
 intro pins s σ H Q I h
 obtain ⟨f, fd, F, hmf, hk, hb⟩ := cl
 refine a5B (b5z I hg hm a8W ?_)
 refine callWith_kw ?_ (by rw [hs]; rfl) (by rw [hs]; rfl)
 have ha : PA X [e] (a7e te b9t) := a0g he a0j hs
 refine thn (ha pos pins s σ H (fun vs H1 => match vs with | [x] => ∃ d, x = .ref d /\ c2n g [.ref d] H1 Q | _ => False) I h) fun us s1 ⟨vs, H1, I1, r, q⟩ => ?_
 match vs, r, q with
 | [x], r, q =>
  obtain ⟨d, rfl, q⟩ := q
  obtain ⟨u, rfl, ru⟩ := a4f r
  cases ru
  refine kws_cons (b4l I1 hgf hmf (kws_nil ?_) hdf)
  exact b3r hc hu F hr.in1.in1 hb I1 q
end
end L2
namespace L2
open PySem PySem.Spec PyProof.Rows
section
variable {X : Cx} {pins : List (Addr × Obj)} {σ : St} {H : Hp} {s : Shared} {d : Addr} {kvs : List (List Key × V)} {ts : List (List Nat)} {o : Obj}
theorem Inv.freeze (I : Inv X pins σ H s) (h : H d = some (.dT kvs)) (e : s.heap.get? d = some o) : Inv X pins σ (upd H d (.frz o (.dT kvs))) s := by
 obtain ⟨z, nm, ys, rel, o', es, ep, e1, e2, e3, e4, nd⟩ := (show ObjOk X.prog X.w H s.heap d (.dT kvs) from I.hok d _ h)
 refine I.write (x := d) (e := d) (h' := s.heap) (t' := s.toks) (by rw [h]; exact True.intro) (.inl rfl) (fun _ _ _ q => q) ⟨o, e⟩ ⟨e, z, nm, ys, Paired.mapP rel fun p q r => ⟨r.1, ?_, r.2.2⟩, o', es, ep, e1, e2, e3, e4, nd⟩
 rw [a0d (a1n r.2.1 h fun z => nomatch z)]
 exact r.2.1
theorem b1q (I : Inv X pins σ H s) (h : H d = some (.frz o (.dT kvs))) (e : kvs.map (·.1) = ts.map nk) : ∃ as es ep, s.heap.get? d = some o /\ o.ExactDict /\ o.data = .dict es ep /\ (d == sysModules) = false /\ TupsAt H as ts /\ (∀ (i : Nat) (en : DictEntry), es[i]? = some en -> ∃ a, as[i]? = some a /\ en.key = .ref a) /\ es.size = ts.length := by
 obtain ⟨e0, z, nm, ys, rel, o', es, ep, e1, e2, e3, e4, nd⟩ := (show ObjOk X.prog X.w H s.heap d (.frz o (.dT kvs)) from I.hok d _ h)
 rw [e0] at e1
 cases e1
 have l1 : kvs.length = ys.length := a4T rel
 have l2 : kvs.length = ts.length := by rw [<- a0D (f := (·.1)) (as := kvs), e, a0D]
 have le : es.size = ys.length := a8Q e4
 refine ⟨ys.map (·.2.1), es, ep, e0, e2, e3, nm, ⟨by rw [a0D]; lia, fun i b t eb et => ?_⟩, fun i en ee => ?_, by lia⟩
 ·have li := (a0B.mp et).1
  obtain ⟨⟨k, v⟩, ek⟩ : ∃ p, kvs[i]? = some p := ⟨_, a0A (by lia)⟩
  obtain ⟨⟨k', y, u⟩, ey, p1, p2, p3⟩ := a6u rel ek
  have kk : k = nk t := by
   have z1 : (kvs.map (·.1))[i]? = some k := by rw [a0E, ek]; rfl
   rw [e, a0E, et] at z1
   exact (a1S z1).symm
  rw [a0E, ey] at eb
  cases eb
  have p2' : H y = some (.tup (k.map kV)) := p2
  rw [kk, a5y] at p2'
  exact p2'
 ·rw [entry_at e4] at ee
  obtain ⟨q, eq, rfl⟩ := a0O.mp ee
  exact ⟨q.2.1, by rw [a0E, eq]; rfl, rfl⟩
end
def Itd (d : Addr) (o : Obj) : It :=
  ⟨fun i H => ∃ (kvs : List (List Key × V)) (ts : List (List Nat)) (t : List Nat), H d = some (.frz o (.dT kvs)) /\ kvs.map (·.1) = ts.map nk /\ ts[i]? = some t,
   fun i H x H' => H' = H /\ ∃ a, x = .ref a /\ ∀ (kvs : List (List Key × V)) (ts : List (List Nat)), H d = some (.frz o (.dT kvs)) -> kvs.map (·.1) = ts.map nk -> ∃ t : List Nat, ts[i]? = some t /\ H a = some (.tup (t.map nv)),
   fun i H => ∃ kvs, ∃ ts : List (List Nat), H d = some (.frz o (.dT kvs)) /\ kvs.map (·.1) = ts.map nk /\ ts.length <= i⟩
theorem c9p {ts us : List (List Nat)} (h : ts.map nk = us.map nk) : ts = us := a6c (fun a b e => b0g e) h
theorem c2o {P : Program} {w : World} {K : W.Frag} {tg : Expr} {d it : Addr} {o : Obj} {es : Array DictEntry} {ep : Nat} (ne : d ≠ it) (od : o.data = .dict es ep) (ox : o.ExactDict) : Turn P w K tg (Itd d o) [it] it (fun i h => h.get? it = some (a5e d i es.size ep)) where
 mem := by simp
 obj := fun i h st b hb => by
  have e : b = it := by simpa using hb
  subst e
  exact ⟨_, st, fun v z => by
   have z' : Data.fields _ = Data.cell v := z
   cases z'⟩
 keep := fun i h h' st k => k it (by simp) _ st
 item := by
  intro X hP hw hK hc i pins s σ H E I hf st hg
  subst hP hw hK
  obtain ⟨kvs, ts, t, h1, h2, h3⟩ := hg
  obtain ⟨as, es', ep', e1, e2, e3, nm, T, is, le⟩ := b1q I h1 h2
  rw [od] at e3
  cases e3
  obtain ⟨f0, f1, f2, f3, f4, f5⟩ := hf it (by simp)
  have li := (a0B.mp h3).1
  obtain ⟨en, ee⟩ : ∃ en, es[i]? = some en := ⟨_, a1P (by lia)⟩
  obtain ⟨a, ea, ek⟩ := is i en ee
  refine b3j st ⟨o, e1, ox, od⟩ ee fun h' st' sb => ?_
  have I1 : Inv X pins σ H { s with heap := h' } := I.turned (t' := s.toks) (fun b o hb e => (sb.2 b hb).trans e) f0 f1 f3 f4 f5
  refine ⟨_, rfl, c4o (s := { s with heap := h' }) (n := "dict_keyiterator") st' rfl rfl (by decide) ⟨.ref a, H, I1, ek, ⟨rfl, a, rfl, fun kvs' ts' g1 g2 => ?_⟩, st', fun b hb => (hf b hb).1⟩⟩
  rw [h1] at g1
  cases g1
  have tt := c9p (h2.symm.trans g2)
  subst tt
  exact ⟨t, h3, T.is i a t ea h3⟩
 done := by
  intro X hP hw hK hc i pins s σ H E I hf st hg
  subst hP hw hK
  obtain ⟨kvs, ts, h1, h2, h3⟩ := hg
  obtain ⟨as, es', ep', e1, e2, e3, nm, T, is, le⟩ := b1q I h1 h2
  rw [od] at e3
  cases e3
  obtain ⟨f0, f1, f2, f3, f4, f5⟩ := hf it (by simp)
  exact b6t (I.ok.hd hc) st ⟨o, e1, ox, od⟩ (a7M (by lia)) fun h' eb => ⟨rfl, I.turned (t' := s.toks) (fun b o hb e => eb b o hb e) f0 f1 f3 f4 f5⟩
 self := fun _ i s Q E st q => by
  have ty : s.TypeIs (.ref it) "dict_keyiterator" := ⟨_, st, rfl⟩
  refine a5M ty a4U (a1Z a4U ty a8E ?_ (a7Z _))
  exact show wpAny _ _ (ret (.ref it)) _ _ s from a0G ⟨_, rfl, "dict_keyiterator", _, ty, a2S.lookup, q⟩
section
variable {X : Cx} {tg : Expr}
def d2k (H : Hp) (d : Addr) (o : Obj) (kvs : List (List Key × V)) (H2 : Hp) : Prop := (H d = some (.frz o (.dT kvs)) /\ H2 = H) ∨ (H d = some (.dT kvs) /\ H2 = upd H d (.frz o (.dT kvs)))
def iDict (td : TE) : TI := fun σ H R => td σ H fun x H1 => ∃ d kvs, ∃ ts : List (List Nat), x = .ref d /\ kvs.map (·.1) = ts.map nk /\ (H1 d = some (.dT kvs) ∨ ∃ o, H1 d = some (.frz o (.dT kvs))) /\ ∀ o H2, d2k H1 d o kvs H2 -> R (Itd d o) H2
theorem c2p {l : Expr} {tl : TE} (hl : PE X l tl) : PI X tg l (iDict tl) := by
 intro pins s σ H R I h
 refine thn (hl pins s σ H _ I h) fun v s1 ⟨x, H1, I1, r1, q1⟩ => ?_
 obtain ⟨d, kvs, ts, e, ek, w, q⟩ := q1
 subst e
 cases r1
 have go : ∀ (H2 : Hp) (o : Obj), Inv X pins σ H2 s1 -> H2 d = some (.frz o (.dT kvs)) -> R (Itd d o) H2 -> wpAny (model X.prog X.w) X.A (pyIter (.ref d)) (PIE X pins σ tg R) X.xe s1 := fun H2 o I2 hd r => by
  obtain ⟨as, es, ep, e1, e2, e3, nm, T, is, le⟩ := b1q I2 hd ek
  refine b3k nm ⟨o, e1, e2, e3⟩ ?_
  refine ⟨s1.heap.objs.size, [s1.heap.objs.size], _, _, H2, rfl, I2.kept (t' := s1.toks) fun b o e => a0I _ e, c2o (a1J (a0Q e1)) e3 e2, a0R _ rfl, fun b hb => ?_, r⟩
  have e : b = s1.heap.objs.size := by simpa using hb
  subst e
  exact I2.fpOk (a0N _) (I2.hok.fresh (a0N _))
 rcases w with hd | ⟨o, hd⟩
 ·obtain ⟨_, _, _, _, o, _, _, e1, _⟩ := (show ObjOk X.prog X.w H1 s1.heap d (.dT kvs) from I1.hok d _ hd)
  exact go _ o (I1.freeze hd e1) a0a (q o _ (.inr ⟨hd, rfl⟩))
 ·exact go H1 o I1 hd (q o _ (.inl ⟨hd, rfl⟩))
end
section
variable {d : Addr} {o : Obj} {kvs : List (List Key × V)} {ts : List (List Nat)} {vs : List Str} {g : TG} {tt : TT} {te : TE} {σ : St} {H : Hp} {Fin : List V -> Hp -> Prop}
theorem c2q (hk : kvs.map (·.1) = ts.map nk) (Pv : Nat -> List V -> Hp -> Prop) (hz : ts.length <= sizeLine) (h0 : Pv 0 [] H) (hl : ∀ i ys H, i <= ts.length -> Pv i ys H -> H d = some (.frz o (.dT kvs)) /\ ys.length <= i)
  (hs : ∀ i a t ys H, ts[i]? = some t -> H a = some (.tup (t.map nv)) -> Pv i ys H -> g (.ref a) (a3m vs σ) H fun σ2 H2 => b4s (a3m vs σ) σ2 /\ tt σ2 H2 fun b H3 => if b = true then te σ2 H3 fun y H4 => Pv (i + 1) (ys ++ [y]) H4 else Pv (i + 1) ys H3)
  (hd : ∀ ys H, Pv ts.length ys H -> Fin ys H) : b4t vs g tt te σ (Itd d o) H Fin := by
 refine ⟨fun i m ys H => m = ts.length - i /\ i <= ts.length /\ Pv i ys H, ⟨ts.length, by simp, Nat.zero_le _, h0⟩, ?_⟩
 rintro i m ys H ⟨rfl, hi, p⟩
 obtain ⟨q, hy⟩ := hl i ys H hi p
 by_cases hlt : i < ts.length
 ·refine .inr ⟨⟨kvs, ts, ts[i], q, hk, by simp [hlt]⟩, by lia, Pv (i + 1), fun zs H' p' => ⟨ts.length - (i + 1), Nat.sub_succ_lt_self _ _ hlt, rfl, hlt, p'⟩, fun v H' y => ?_⟩
  obtain ⟨e, a, ea, y⟩ := y
  subst e ea
  obtain ⟨t, et, ha⟩ := y kvs ts q hk
  exact hs i a t ys _ et ha p
 ·have e : i = ts.length := by lia
  subst e
  exact .inl ⟨⟨kvs, ts, q, hk, a0N _⟩, by lia, hd ys H p⟩
end
section
variable {d : Addr} {o : Obj} {kvs : List (List Key × V)} {ts : List (List Nat)} {g : TG} {tb : TS} {D : Ends} {σ : St} {H : Hp}
theorem c5z (hk : kvs.map (·.1) = ts.map nk) (Pv : Nat -> St -> Hp -> Prop) (h0 : Pv 0 σ H) (hl : ∀ i σ H, i <= ts.length -> Pv i σ H -> H d = some (.frz o (.dT kvs)))
  (hs : ∀ i a t σ H, ts[i]? = some t -> H a = some (.tup (t.map nv)) -> Pv i σ H -> g (.ref a) σ H fun σ2 H2 => tb { D with nx := Pv (i + 1), ct := Pv (i + 1), bk := D.nx } σ2 H2) (hd : ∀ σ H, Pv ts.length σ H -> D.nx σ H) :
  ∃ W : Nat -> Nat -> St -> Hp -> Prop, (∃ m, W 0 m σ H) /\ ∀ i m σ H, W i m σ H ->
   ((Itd d o).stop i H /\ D.nx σ H) ∨ ((Itd d o).go i H /\ ∃ N : St -> Hp -> Prop, (∀ σ' H', N σ' H' -> ∃ m', m' < m /\ W (i + 1) m' σ' H') /\ ∀ x H', (Itd d o).yld i H x H' -> g x σ H' fun σ2 H2 => tb { D with nx := N, ct := N, bk := D.nx } σ2 H2) := by
 refine ⟨fun i m σ H => m = ts.length - i /\ i <= ts.length /\ Pv i σ H, ⟨ts.length, by simp, Nat.zero_le _, h0⟩, ?_⟩
 rintro i m σ H ⟨rfl, hi, p⟩
 have q := hl i σ H hi p
 by_cases hlt : i < ts.length
 ·refine .inr ⟨⟨kvs, ts, ts[i], q, hk, by simp [hlt]⟩, Pv (i + 1), fun σ' H' p' => ⟨ts.length - (i + 1), Nat.sub_succ_lt_self _ _ hlt, rfl, hlt, p'⟩, fun x H' y => ?_⟩
  obtain ⟨e, a, ea, y⟩ := y
  subst e ea
  obtain ⟨t, et, ha⟩ := y kvs ts q hk
  exact hs i a t σ _ et ha p
 ·have e : i = ts.length := by lia
  subst e
  exact .inl ⟨⟨kvs, ts, q, hk, a0N _⟩, hd σ H p⟩
end
open PySem PySem.Spec PySem.W PyProof.Rows
section
variable {X : Cx}
def c2r : List V -> Hp -> VK -> Prop := fun xs H Q => ∃ d kvs ts, xs = [V.ref d] /\ H d = some (.dT kvs) /\ kvs.map (·.1) = ts.map nk /\ (∀ t ∈ ts, t ≠ []) /\ ts.length <= 4000 /\
 ∀ D bs us, H D = none -> TupsAt H bs us -> us.Perm ts -> us.Pairwise (fun x y => ltl x y = true) -> Q (.ref D) (upd H D (.lst (bs.map V.ref)))
theorem b8z (hc : X.calm = true) : CallR X (.builtin "sorted") c2r := by
 intro pins s σ H xs us Q I rr h
 obtain ⟨d, kvs, ts, rfl, hd, e, ne, few, q⟩ := h
 obtain ⟨u, rfl, ru⟩ := a4f rr
 cases ru
 obtain ⟨as, es, ep, L, nm, at0, is, le, nd, fit⟩ := a9i I hd e
 refine a2Z a8S a7V a7W (a9B _) ?_
 unfold Builtin.«sorted»
 refine a0C (m := checkCount "sorted" 1 1 _) (a0G ?_)
 refine a0C (kdu_collect (A := X.A.in1) (srcK nm) (by simpa using I.ok.hd hc) L (by rw [sizeLine_eq]; lia) fun h1 tk acc keep it => ?_)
 have ea := a7o is (by rw [at0.len, le]) it
 rw [ea]
 have ln : (as.map Value.ref).length = ts.length := by rw [a0D, at0.len]
 refine a0C (a5E ?_ (by rw [ln, a1B]; lia))
 have T := b3l ts
 have inj := b1f (d := ([] : List Nat)) T nd
 have nda := c2k at0 nd
 have eD : (h1.push (seqObj "list" (as.map Value.ref).toArray 0)).get? h1.objs.size = some (seqObj "list" (as.map Value.ref).toArray 0) := a0R _ rfl
 have lt1 : ∀ {b : Addr} {o : Obj}, s.heap.get? b = some o -> b ≠ h1.objs.size := fun z => a1J (a0Q (keep _ _ z))
 refine a0C (a1Y (a1Z a6U ⟨_, eD, rfl⟩ a6E (b7g (s := { s with heap := h1.push (seqObj "list" (as.map Value.ref).toArray 0), toks := tk }) (k := fun i => a3g ltl ts (ts.getD i [])) eD (by rw [ln]; exact few) nda (fun i j hi hj z => inj i j (by lia) (by lia) z) (fun h' kp h2 => ?_) fun p h' c ar up e kp => ⟨_, rfl, ?_⟩) (a7T _)))
 ·have I1 : Inv X pins σ H { s with heap := h', toks := tk } := I.kept fun b o z => kp b o (lt1 z) (a0I _ (keep b o z))
  have z := b6x (P := X.prog) (w := X.w) (A := X.A.in1.in1) (s := { s with heap := h', toks := tk }) ln (by lia) (fun i v t e1 e2 => by
   rw [a0E] at e1
   obtain ⟨a, ea, rfl⟩ := a0O.mp e1
   exact ⟨d2e I1.hok (at0.is i a t ea e2), ne t (a0H e2)⟩)
  refine a3D z (fun κ s' hk => ⟨hk.1, fun i j C li lj hC => hk.2 i j C li lj ?_⟩) fun _ _ x => x
  have e := T.asks (a3q (d := ([] : List Nat)) (show i < ts.length by lia)).2 (a3q (d := ([] : List Nat)) (show j < ts.length by lia)).2
  show C (ltl (ts.getD i []) (ts.getD j [])) _
  rw [<- e]
  exact hC
 ·rw [ln] at ar up
  have I1 : Inv X pins σ H { s with heap := h', toks := tk } := I.kept fun b o z => kp b o (lt1 z) (a0I _ (keep b o z))
  have I0 : Inv X pins σ H { s with heap := h1, toks := tk } := I.kept keep
  have hD : H h1.objs.size = none := I0.hok.fresh (a0N _)
  have at1 := at0.pick ar
  obtain ⟨f0, f1, f2, f3, f4, f5⟩ := I0.fpOk (b := h1.objs.size) (H' := H) (a0N _) hD
  have arA : Arr as.length p := by rw [at0.len]; exact ar
  rw [a9j arA] at e
  have fw : ((p.toList.map fun i => as.getD i 0).map V.ref).length <= sizeLine := by
   rw [a0D, a0D, a0L, ar.size]
   exact fit
  exact a0G ⟨_, rfl, .ref h1.objs.size, _, I1.track (o := .lst ((p.toList.map fun i => as.getD i 0).map V.ref)) hD ⟨fw, _, c, a4e _, e⟩ I0.sz f1 f4 f5, rfl, q _ _ _ hD at1 (b1e ar) (a5f T ar up)⟩
end
end L2
namespace L2
open PySem PySem.Spec PyProof.Rows
section
variable {P : Program} {w : World} {A : Around} {E : Value -> Shared -> Prop} {S it l : Addr} {led : Bool} {ns : List Nat} {vs : List Value}
theorem b0m {R : Result -> Shared -> Prop} (hh : A.handled = none) (d1 : S ≠ it) (d2 : S ≠ l) (d3 : it ≠ l) (hv : Vals (ns.map nv) vs) (h5 : ∀ n ∈ ns, n < 5) :
  ∀ (rest : List Nat) (i m : Nat) (s : Shared), ns.drop i = rest -> s.heap.IsTupleIter it l i -> s.heap.IsTuple l vs.toArray -> IsSet5 s.heap S led m ->
   (∀ h' tk, IsSet5 h' S led (a4y m rest) -> (∀ b o, b ≠ S -> b ≠ it -> s.heap.get? b = some o -> h'.get? b = some o) -> R (.ok (.ret .none)) { s with heap := h', toks := tk }) ->
   codeAny (model P w) A (.builtin "set.update.loop" ⟨[.ref S, .ref it], []⟩) R s
 | [], i, m, s, hd, hi, hl, hS, q => by
  have hlen : vs.length <= i := by
   have h1 : vs.length = ns.length := by simpa using hv.length.symm
   have h2 := List.drop_eq_nil_iff.mp hd
   lia
  refine a3J a5P ?_
  rw [a3P a3Y _]
  show wpAny _ A.in1 (pyNext (.ref it) >>= _) _ _ s
  refine a0C (wpAny_pyNext_tuple_end (by simpa using hh) hi hl (by simp; lia) fun h' keep => ?_)
  refine a0G (q h' s.toks ?_ fun b o _ h2 e => keep b o h2 e)
  obtain ⟨hm, es, ep, e, en⟩ := hS
  exact ⟨hm, es, ep, keep _ _ d1 e, en⟩
 | n :: rest, i, m, s, hd, hi, hl, hS, q => by
  have at1 : ns[i]? = some n := by rw [<- List.head?_drop, hd]; rfl
  have next : ns.drop (i + 1) = rest := by rw [<- List.tail_drop, hd]; rfl
  have n5 := h5 n (a0H at1)
  obtain ⟨u, hu, t, rfl⟩ := hv.get (i := i) (x := nv n) (by rw [a0E, at1]; rfl)
  refine a3J a5P ?_
  rw [a3P a3Y _]
  show wpAny _ A.in1 (pyNext (.ref it) >>= _) _ _ s
  refine a0C (wpAny_pyNext_tuple_item hi hl (x := .int (n : Int) t) (by simpa using hu) fun h1 hi1 sb1 => ?_)
  show wpAny _ A.in1 (holding [Value.int (n : Int) t] (setAdd S (.int (n : Int) t)) >>= _) _ _ _
  refine a0C (a1Y ?_)
  unfold setAdd
  refine a1Y (a0C ((intKind P w).pyHash (k := (n : Int)) (a9L _ _ _ _) ?_))
  rw [show (intKind P w).hash (n : Int) = (n : Int) from c5i ⟨n, n5⟩]
  have hS1 : IsSet5 h1 S led m := by
   obtain ⟨hm, es, ep, e, en⟩ := hS
   exact ⟨hm, es, ep, sb1.extBut _ _ d1 e, en⟩
  refine b6o n5 hS1 fun h2 hS2 sb2 => ?_
  refine a0G ⟨a6J a3Y _, b0m hh d1 d2 d3 hv h5 rest (i + 1) (m ||| 2 ^ n) _ next (hi1.extBut sb2.extBut d1.symm) ((hl.extBut sb1.extBut d3.symm).extBut sb2.extBut d2.symm) hS2 fun h' tk hS' keep => ?_⟩
  exact q h' tk hS' fun b o b1 b2 e => keep b o b1 b2 (sb2.extBut _ _ b1 (sb1.extBut _ _ b2 e))
set_option maxHeartbeats 4000000 in
theorem b9a {h : Heap} {gn : Array GenState} {dr : Drawn} {k : Nat} {os : OsState} {R : PySem.Fin -> Shared -> Prop} (hh : A.handled = none) (hl : h.IsTuple l vs.toArray) (hv : Vals (ns.map nv) vs) (h5 : ∀ n ∈ ns, n < 5)
  (q : ∀ h' tk, IsSet5 h' h.objs.size led (a4y 0 ns) -> (∀ b o, h.get? b = some o -> h'.get? b = some o) -> R (.done (.ret .none)) ⟨h', gn, dr, tk, os⟩) :
  wpAny (model P w) A (Builtin.«set.__init__» ⟨[.ref h.objs.size, .ref l], []⟩) R E ⟨h.push (c4j led), gn, dr, k, os⟩ := by
 obtain ⟨⟨cl, dl, dat, sl⟩, e2, c2, n2, d2⟩ := id hl
 simp only at c2 d2
 subst c2 d2
 have e3 : (h.push (c4j led)).get? l = some ⟨.type "tuple", dl, .seq vs.toArray n2, sl⟩ := a0I _ e2
 have e0 : (h.push (c4j led)).get? h.objs.size = some { cls := .type "set", dict := none, data := .set #[] 0 (.fresh 0 0 led) } := a0R _ rfl
 have s1 := F.sub_tuple_set
 have s2 := F.sub_tuple_frozenset
 have ne : (Value.type "tuple" == Value.type "dict") = false := by decide
 unfold Builtin.«set.__init__» noKeywords Builtin.Frozenset.updateFrom
 generalize g : pyIter = iter
 wp_walk
 subst g
 have hl1 : (h.push (c4j led)).IsTuple l vs.toArray := hl.push _
 refine wpAny_pyIter_tuple hl1 (a0C (wpAny_runValue ?_))
 have lt : l < h.objs.size := a0Q e2
 have sz : (h.push (c4j led)).objs.size = h.objs.size + 1 := a6S ..
 refine b0m (vs := vs) (led := led) (by simpa using hh) (by rw [sz]; exact Nat.ne_of_lt (Nat.lt_succ_self _)) (Nat.ne_of_gt lt) (by rw [sz]; exact Nat.ne_of_gt (Nat.lt_succ_of_lt lt)) hv h5 ns 0 0 _ rfl ⟨_, Heap.get?_push_size _ rfl, rfl, rfl⟩ (hl1.push _) ⟨by decide, [], 0, Heap.get?_push_of_some _ e0, .nil⟩ fun h' tk z1 z2 => ?_
 refine a0G (a0G (q h' tk z1 fun b o e => ?_))
 have bl := a0Q e
 exact z2 b o (a1J bl) (by rw [sz]; exact a1J (a7P bl)) (a0I _ (a0I _ e))
theorem b9b {s : Shared} {Q : Value -> Shared -> Prop} (hh : A.handled = none) (hl : s.heap.IsTuple l vs.toArray) (hv : Vals (ns.map nv) vs) (h5 : ∀ n ∈ ns, n < 5)
  (q : ∀ h' tk, IsSet5 h' s.heap.objs.size (!w.params.followText "set-order") (a4y 0 ns) -> (∀ b o, s.heap.get? b = some o -> h'.get? b = some o) -> Q (.ref s.heap.objs.size) { s with heap := h', toks := tk }) :
  wpAny (model P w) A (call (.type "set") [.ref l]) Q E s := by
 have lt : l < s.heap.objs.size := let ⟨_, e, _⟩ := hl; a0Q e
 obtain ⟨c, tl, mro⟩ := a3K.mro
 have made := a3K.made
 have sub := a3K.sub
 have noType := a3K.notType
 have may := a3K.canCreate
 have args := F.typeCall_set_1 (.ref l)
 have look := a3K.init.lookup
 have bnd := a3K.init.bind (.ref s.heap.objs.size)
 generalize eo : a4v [] 0 (a7j (!w.params.followText "set-order") []) = o0
 have e0 : (s.heap.push o0).get? s.heap.objs.size = some o0 := a0R _ (by rw [<- eo]; rfl)
 have ty : Shared.TypeIs { s with heap := s.heap.push o0 } (.ref s.heap.objs.size) "set" := ⟨_, e0, by rw [<- eo]; rfl⟩
 refine b0F (a9Z (show wpAny _ _ (callAny (.type "set") _) _ _ _ from a0G ⟨a9A _ (by decide +kernel), a3J F.entry_type_call ?_⟩))
 rw [Around.under_plain (weight_type_call_type "set" [.ref l] []) rfl]
 repeat (any_goals (first | assumption | wp_step))
 refine a5A (b6p (w := w) (E := E) (Q := fun v s1 => v = .ref s.heap.objs.size /\ s1 = { s with heap := s.heap.push o0 }) (by rw [eo]; exact ⟨rfl, rfl⟩)) fun r s1 z => ?_
 cases r with
 | error _ => exact z
 | ok f =>
  cases f <;> first | exact z.elim | skip
  obtain ⟨e1, e2⟩ := z
  subst e1 e2
  repeat (any_goals (first | assumption | wp_step))
  refine a5A (codeAny_call_builtin (R := wants (fun v s2 => v = .none /\ ∃ h' tk, s2 = { s with heap := h', toks := tk } /\ IsSet5 h' s.heap.objs.size (!w.params.followText "set-order") (a4y 0 ns) /\ ∀ b o, s.heap.get? b = some o -> h'.get? b = some o) E)
   a3K.init.plain F.entry_set_init (check_set_init_1 ty ?_)) fun r s2 z => ?_
  ·subst eo
   exact b9a (A := A.in1.in1) (by simpa using hh) hl hv h5 fun h' tk z1 z2 => ⟨rfl, h', tk, rfl, z1, z2⟩
  ·cases r with
   | error _ => exact z
   | ok f =>
    cases f <;> first | exact z.elim | skip
    obtain ⟨e1, h', tk, e2, z1, z2⟩ := z
    subst e1 e2
    repeat (any_goals (first | assumption | wp_step))
    exact q h' tk z1 z2
end
section
variable {X : Cx}
def rSetT (K : W.Frag) (w : World) : List V -> Hp -> VK -> Prop := fun xs H Q => ∃ p ns, xs = [.ref p] /\ SqT K H p (ns.map nv) /\ (∀ n ∈ ns, n < 5) /\ ∀ a, H a = none -> Q (.ref a) (upd H a (c8x w a (a4y 0 ns)))
theorem c2s (hc : X.calm = true) : CallR X (.type "set") (rSetT X.K X.w) := by
 intro pins s σ H xs us Q I r h
 obtain ⟨p, ns, rfl, hl, h5, q⟩ := h
 obtain ⟨u, rfl, ru⟩ := a4f r
 cases ru
 obtain ⟨its, rv, pl, _⟩ := I.tuple hl
 refine b9b (I.ok.hd hc) pl rv h5 fun h' tk z keep => ?_
 have I1 : Inv X pins σ H { s with heap := h', toks := tk } := I.kept keep
 exact ⟨.ref s.heap.objs.size, _, Inv.trackNew I I1 z.ok, rfl, q _ I.fresh⟩
def rLenS (w : World) : List V -> Hp -> VK -> Prop := fun xs H Q => ∃ a m, xs = [.ref a] /\ H a = some (c8x w a m) /\ Q (.int (a0u m).length) H
theorem c2t : CallR X (.builtin "len") (rLenS X.w) := by
 intro pins s σ H xs us Q I r h
 obtain ⟨a, m, rfl, ha, q⟩ := h
 obtain ⟨u, rfl, ru⟩ := a4f r
 cases ru
 obtain ⟨⟨hm, es, ep, e, en⟩, _⟩ := (show ObjOk X.prog X.w H s.heap a (c8x X.w a m) from I.hok a _ ha)
 have le : es.length = (a0u m).length := (a4T en).symm
 have z5 : (a0u m).length <= 5 := by
  have z : ∀ k : Fin 32, (a0u k).length <= 5 := by decide +kernel
  exact z ⟨m, hm⟩
 refine a2Z kind_len plain_len entry_len (args_len1 _) (wpAny_len_body_set e ⟨rfl, rfl, rfl⟩ rfl ?_ (by rw [a0U]; lia) ?_)
 ·rw [a0U, le]
  have z : ∀ (b : Bool) (k : Fin 32), (a7j b (a0u k)).fits (a0u k).length = true := by decide +kernel
  exact z _ ⟨m, hm⟩
 ·exact ⟨.int (a0u m).length, H, I.tok _, ⟨_, by rw [a0U, le]⟩, q⟩
end
open PySem PySem.Spec PySem.W PyProof.Rows
section
variable {P : Program} {w : World} {A : Around} {E : Value -> Shared -> Prop} {s : Shared}
theorem b9c {Q : Bool -> Shared -> Prop} (q : Q true s) : wpAny (model P w) A (eqIsQuiet 8 .none) Q E s := a0G q
theorem c2u {d : Addr} {o : Obj} {es : Array DictEntry} {ep : Nat} {hn : Int} {Q : Option Nat -> Shared -> Prop} (hu : A.units < cLine) (ho : s.heap.get? d = some o) (hd : o.data = .dict es ep)
  (hk : ∀ e ∈ es, ∃ (b : Addr) (ks : List Key), e.key = .ref b /\ (tupleKind (a1r P w)).is s.heap ks b) (q : Q none s) : wpAny (model P w) A (dictFind d .none hn) Q E s := by
 unfold dictFind
 try with_reducible refine a1Y ?_
 refine a0C (a4E ho hd ?_)
 dsimp only
 generalize hpl : placesWithHash es.size (fun i => es[i]?.map (·.hash)) hn = pl
 generalize hst : pl.filterMap (fun i => es[i]?.map (·.key)) = st
 have inSt : ∀ v ∈ st, ∃ (b : Addr) (ks : List Key), v = .ref b /\ (tupleKind (a1r P w)).is s.heap ks b := fun v hv => by
  rw [<- hst] at hv
  obtain ⟨i, _, hi⟩ := a7D.mp hv
  obtain ⟨e, he, rfl⟩ := a0O.mp hi
  exact hk e (a5F he)
 by_cases hc : ((Value.none :: st).all carriedByValue) = true
 ·rw [if_pos hc]
  have nil : ∀ i ∈ pl, es[i]? = none := fun i hi => by
   cases e : es[i]? with
   | none => rfl
   | some en =>
    have m : en.key ∈ st := by
     rw [<- hst]
     exact a7D.mpr ⟨i, hi, by rw [e]; rfl⟩
    obtain ⟨b, ks, e1, _⟩ := inSt _ m
    have z := a4Z.mp hc _ (a0V _ m)
    rw [e1] at z
    cases z
  unfold dictWalkPlain
  refine a0C ?_
  refine a6X _ (fun rest b s' => s' = s /\ b = (none, ()) /\ ∀ i ∈ rest, es[i]? = none) _ ?_ ?_ _ _ ⟨rfl, rfl, nil⟩
  ·rintro i rest b s' ⟨rfl, rfl, hr⟩
   rw [hr i a0S]
   exact a0G ⟨rfl, rfl, fun j hj => hr j (a0V _ hj)⟩
  ·rintro b s' ⟨rfl, rfl, _⟩
   exact a0G q
 ·rw [if_neg hc]
  have ne : (st == [Value.none]) = false := by
   cases st with
   | nil => rfl
   | cons v r =>
    obtain ⟨b, ks, rfl, _⟩ := inSt _ a0S
    rfl
  rw [if_neg (by rw [ne]; exact a1L)]
  refine a0C ?_
  have tell : ∀ {R : Bool -> Shared -> Prop}, R false s -> wpAny (model P w) A (tableMayTell .none st) R E s := fun {R} r => by
   unfold tableMayTell
   split
   ·exact a0G r
   ·refine a0C (b9c ?_)
    simp only [Bool.not_true, Bool.false_eq_true, if_false]
    refine a0C (a6X _ (fun rest b s' => s' = s /\ b = (none, ()) /\ ∀ v ∈ rest, v ∈ st) _ ?_ ?_ _ _ ⟨rfl, rfl, fun _ h => h⟩)
    ·rintro v rest b s' ⟨rfl, rfl, hr⟩
     obtain ⟨b, ks, rfl, is⟩ := inSt v (hr v a0S)
     refine a0C ((tupleKind (a1r P w)).quiet is ?_)
     simp only [Bool.not_true, Bool.false_eq_true, if_false]
     exact a0G ⟨rfl, rfl, fun j hj => hr j (a0V _ hj)⟩
    ·rintro b s' ⟨rfl, rfl, _⟩
     exact a0G r
  refine tell ?_
  rw [if_neg (by simp)]
  refine a0C (a6X _ (fun _ b s' => s' = s /\ b = (none, none)) _ ?_ ?_ _ _ ⟨rfl, rfl⟩)
  ·rintro i rest b s' ⟨rfl, rfl⟩
   cases e : es[i]? with
   | none => exact a0G ⟨rfl, rfl⟩
   | some en =>
    obtain ⟨b, ks, e1, is⟩ := hk en (a5F e)
    dsimp only
    by_cases hh : (en.hash == hn) = true
    ·rw [if_pos hh, e1]
     obtain ⟨its, tp⟩ : ∃ its, s'.heap.IsTuple b its := by
      obtain ⟨o', its, n, z1, z2, z3, _⟩ := is
      exact ⟨its, o', z1, z2, n, z3⟩
     refine a0C (a4Y ho hd (a0C (SeqAt.EqAt.tuple_none tp hu _ _ _ _ (a0C (a4Y ho hd ?_)))))
     rw [if_neg (by simp)]
     simp only [Bool.false_eq_true, if_false]
     refine a0C (a6K ?_)
     first | rw [if_neg (by simp)] | skip
     first | exact a0G ⟨rfl, rfl⟩ | exact a0C (a0G (a0G ⟨rfl, rfl⟩))
    ·rw [if_neg hh]
     exact a0G ⟨rfl, rfl⟩
  ·rintro b s' ⟨rfl, rfl⟩
   exact a0G q
theorem c9q {d : Addr} {xs : List (List Key × Addr × Value)} {Q : Value -> Shared -> Prop} (hu : A.units + 1 < cLine) (hd : (d == sysModules) = false) (hm : s.heap.DictOfH (tupleKind (a1r P w)) d xs) (h : ∀ k, Q (.bool false) { s with toks := k }) :
  wpAny (model P w) A (compareOp .In .none (.ref d)) Q E s := by
 show wpAny _ _ (do return .bool (<- contains (.ref d) .none)) Q E s
 refine a0C ?_
 unfold contains
 try with_reducible refine a1Y ?_
 refine a0C (a9X hm.typeIs a9H.lookup ?_)
 rw [if_neg (show ¬ (some (Value.builtin "dict.__contains__") == some Value.none) = true by rw [beq_builtin_none]; exact a1L)]
 refine a0C (wpAny_callSpecialUnlessNone?_slot (name := Str.ofString "__contains__") hm.typeIs a9H (a1Z a9H hm.typeIs entry_dict_contains ?_ (args_dict_contains _ _)))
 show wpAny _ _ (dictGet d .none >>= _) _ _ s
 refine a0C ?_
 obtain ⟨o, es, ep, ho, _, hdd, he, his, hn⟩ := hm
 unfold dictGet
 try with_reducible refine a1Y ?_
 refine a0C (pyHash_slot (T := "NoneType") rfl F.slot_NoneType_hash F.entry_NoneType_hash (F.args_NoneType_hash_1 _) (beq_builtin_none _) (.inr (show A.units + 1 < cLine from hu)) (a0C (a0G (a0C (wpAny_mkInt (a0G ⟨_, _, rfl, ?_⟩))))))
 refine a0C (c2u (show A.units + 1 < cLine from hu) ho hdd (fun e hin => ?_) (a0G ?_))
 ·have m : e ∈ xs.map (entryOfKey (tupleKind (a1r P w))) := he ▸ a8J.mpr hin
  obtain ⟨x, hx, rfl⟩ := a0M.mp m
  exact ⟨x.2.1, x.1, rfl, his x hx⟩
 ·show wpAny _ _ (Builtin.Dict.pendingKey? d .none >>= _) _ _ _
  exact a0C (wpAny_pendingKey_other hd (a0G ⟨_, rfl, a4D (a0G (h _))⟩))
end
def tDInN (ty td : TE) : TE := fun σ H Q => ty σ H fun y H1 => td σ H1 fun x H2 => ∃ a kvs, y = .non /\ x = .ref a /\ Rd H2 a (.dT kvs) /\ Q (.bl false) H2
theorem c9r {X : Cx} {o i : Expr} {td ty : TE} (hu : X.A.units + 1 < cLine) (hi : PE X i ty) (ho : PE X o td) : PC X .In i o (tDInN ty td) := by
 intro pins s σ H Q I h
 refine thn (hi pins s σ H _ I h) fun iv s1 ⟨y, H1, I1, ry, q1⟩ => thn (ho pins s1 σ H1 _ I1 q1) fun u s2 ⟨x, H2, I2, rx, a, kvs, ey, ex, g, q2⟩ => ?_
 subst ey ex
 cases (show u = Value.ref a from rx)
 cases (show iv = Value.none from ry)
 obtain ⟨z, hd, xs, rel, dd⟩ := b8h I2.hok g
 exact c9q hu hd dd fun k => ⟨.bl false, H2, I2.tok _, rfl, q2⟩
theorem b3s (l : Addr) (items : Array Value) (n : Nat) (dd : Option Addr) (sl : Array (Option Value)) (x : Value) (e : Value -> Bool) (j : Nat) (hj : j < items.size) (hit : e items[j] = true) (hno : ∀ m (hm : m < items.size), m < j -> e items[m] = false) :
  Meets (Builtin.«tuple.index» ⟨[.ref l, x], []⟩)
   (fun A R s => s.heap.get? l = some { cls := .type "tuple", dict := dd, data := .seq items n, slots := sl } /\ (∀ y, y ∈ items -> SeqAt.EqAt A.in1 s y x (e y)) /\ R (.ok (.ret (.int j s.toks))) { s with toks := s.toks + 1 }) :=
 .of_wp fun prog w A R s h => by
  obtain ⟨hp, g, d, tk, os⟩ := s
  obtain ⟨hl, he, h⟩ := h
  unfold Builtin.«tuple.index»
  simp only [Std.Legacy.Range.forIn_eq_forIn_range']
  have es : ∀ k : Nat, ([:k] : Std.Legacy.Range).size = k := fun k => by simp [Std.Legacy.Range.size]
  wp_walk using a8P hl, a6X _ (fun rest b s' => s' = ⟨hp, g, d, tk, os⟩ /\ b = (none, ()) /\ ∃ i, i <= j /\ rest = List.range' i (items.size - i)) _
  case h => exact ⟨rfl, rfl, 0, a2U _, by rw [es, Nat.min_self]; rfl⟩
  case turn =>
   rintro i rest b s' ⟨rfl, rfl, i0, hi, hr⟩
   have e0 : items.size - i0 = (items.size - (i0 + 1)) + 1 := by lia
   rw [e0, List.range'_succ] at hr
   injection hr with h1 h2
   subst h1
   have li : i < items.size := by lia
   rw [a1P li]
   refine a0C (he _ (Array.getElem_mem li) prog w _ _ ?_)
   by_cases c : i = j
   ·subst c
    rw [hit]
    exact a0C (a0C (wpAny_mkInt (a0G (a0G (a0G ⟨_, rfl, h⟩)))))
   ·rw [hno i li (by lia)]
    exact a0G ⟨rfl, rfl, i + 1, by lia, h2⟩
  case fin =>
   rintro b s' ⟨rfl, rfl, i, hi, hr⟩
   have z := a2C List.length hr
   rw [List.length_range'] at z
   simp at z
   lia
section
variable {X : Cx}
def c2v (K : W.Frag) : V -> List V -> Hp -> VK -> Prop := fun x vs H Q => ∃ (l : Addr) (ns : List Int) (i : Int), x = .ref l /\ vs = [.int i] /\ SqT K H l (ns.map V.int) /\ i ∈ ns /\ Q (.int (ns.idxOf i : Nat)) H
theorem c2w : MtR X "tuple.index" (c2v X.K) := by
 intro pins s σ H x vs v us Q I rx rv h
 obtain ⟨l, ns, i, rfl, rfl, hl, hi, q⟩ := h
 cases rx
 obtain ⟨u, rfl, t, rfl⟩ := rv.one
 obtain ⟨its, r, pl, hz⟩ := I.tuple hl
 obtain ⟨⟨c1, d1, k1, s1⟩, e, ec, n, ed⟩ := pl
 simp only at ec ed
 subst ec ed
 have ia : IntsAre its ns := a7f r
 have il := ia.length
 have hj : ns.idxOf i < ns.length := List.idxOf_lt_length_iff.mpr hi
 refine b0G F.slot_tuple_index ⟨_, e, rfl⟩ F.entry_tuple_index (F.args_tuple_index_2 _ _) (b3s l its.toArray n d1 s1 (.int i t) (isInt i) (ns.idxOf i) (by simp only [List.size_toArray]; lia) ?_ ?_)
  ⟨e, fun y hy => (eq_isInt i t ia y (by simpa using hy)).at _ _, ⟨.int (ns.idxOf i : Nat), H, I.tok _, ⟨_, rfl⟩, q⟩⟩
 ·show isInt i its[ns.idxOf i] = true
  rw [isInt_at i ia _ (by lia) hj]
  simp
 ·intro k hk1 hk2
  show isInt i its[k] = false
  rw [isInt_at i ia _ (by lia) (by lia)]
  exact ne_of_lt_idxOf hk2 _
end
def tBMT (r : V -> List V -> Hp -> VK -> Prop) (to : TE) (t : TA) : TE := fun σ H Q => to σ H fun x H1 => (∃ p xs, x = .ref p /\ H1 p = some (.tup xs)) /\ t σ H1 fun ys H2 => r x ys H2 Q
theorem d2l {X : Cx} {o e : Expr} {es : List Expr} {to : TE} {t : TA} {name : Str} {apos cpos : Pos} {id : String} {r : V -> List V -> Hp -> VK -> Prop} (slot : Slot "tuple" name id) (hty : typeOf (.builtin id) = pure (.type "method_descriptor")) (hm : MtR X id r) (ho : PE X o to) (ha : PA X (e :: es) t)
  (hbase : attributeBase o name X.env (eval o X.env) = eval o X.env := by rfl)
  (hfew : ((backTo cpos (starEach (e :: es) X.env)).all (fun x => !x.1) && (backToKw cpos (keywordEach [] X.env)).all (fun x => x.1.isSome) && decide ((e :: es).length + ([] : List Keyword).length + (if ([] : List Keyword).isEmpty then 0 else 1) < 30)) = true := by rfl)
  (hline : (apos.endLine == cpos.line) = true := by rfl) (hs : starEach (e :: es) X.env = (false, eval e X.env) :: starEach es X.env := by rfl) (hp : (backTo cpos (starEach es X.env)).any (·.1) = false := by rfl) :
  PE X (.Call (.Attribute o name apos) (e :: es) [] cpos) (tBMT r to t) := by
 intro pins s σ H Q I h
 refine wpAny_Call_method_late hbase hfew hline rfl (thn (ho pins s σ H _ I h) fun v s1 ⟨x, H1, I1, r1, ⟨p, xs, ex, hx⟩, q1⟩ => ?_)
 subst ex
 cases (show v = Value.ref p from r1)
 obtain ⟨_, _, _, ob, e1, e2, _, _, e3⟩ := (show ObjOk X.prog X.w H1 s1.heap p (.tup xs) from I1.hok p _ hx)
 refine ⟨"tuple", id, F.plainAttrs_tuple, slot, hty, ⟨ob, e1, e2⟩, fun a ea => ?_, ?_⟩
 ·cases ea
  exact ⟨ob, e1, e3⟩
 have hA := ha cpos pins s1 σ H1 _ I1 q1
 rw [hs] at hA ⊢
 refine a7J (show (false || (backTo cpos (starEach es X.env)).any fun x => x.1) = false by rw [hp]; rfl) (Calls.evalArgs_plain ?_)
 exact thn hA fun us s2 ⟨vs, H2, I2, r2, q2⟩ => hm pins s2 σ H2 (.ref p) vs (.ref p) us Q I2 rfl r2 q2
theorem c6a {X : Cx} {K : W.Frag} {e : Expr} {to : TE} {t : TA} (r : W.Frag -> V -> List V -> Hp -> VK -> Prop) (hK : X.K = K) (h : PE X e (tBMT (r X.K) to t)) : PE X e (tBMT (r K) to t) := hK ▸ h
section
variable {P : Program} {w : World} {A : Around} {E : Value -> Shared -> Prop} {s : Shared} {vs : List Value}
theorem c9s {l : Addr} {ns : List Int} {Q : Value -> Shared -> Prop} (hl : s.heap.IsList l vs.toArray) (are : IntsAre vs ns) (h64 : vs.length < 64)
  (q : ∀ (h1 h' : Heap) out js n, IntsAre out js -> js.Perm ns -> js.Pairwise (· <= ·) -> (∀ b o, s.heap.get? b = some o -> h1.get? b = some o) -> (∀ b o, h1.get? b = some o -> h'.get? b = some o) -> h'.get? h1.objs.size = some { cls := .type "list", data := .seq out.toArray n } -> Q (.ref h1.objs.size) { s with heap := h' }) :
  wpAny (model P w) A (call (.builtin "sorted") [.ref l]) Q E s := by
 refine a2Z a8S a7V a7W (a9B _) ?_
 unfold Builtin.«sorted»
 refine a0C (m := checkCount "sorted" 1 1 _) (a0G ?_)
 refine a0C (collect_list hl ?_ (by rw [a1B]; lia))
 refine a0C (a5E ?_ (by rw [a1B]; lia))
 generalize g : (s.heap.push (seqObj "list" #[] 0)).update s.heap.objs.size (Obj.mapSeq (· ++ vs.toArray)) = h1
 have sz : h1.objs.size = s.heap.objs.size + 1 := by rw [<- g, a9Q, size_push']
 have k1 : ∀ b o, s.heap.get? b = some o -> h1.get? b = some o := fun b o e => by
  rw [<- g, a1N _ _ (a4I (a0Q e))]
  exact a0I _ e
 have eD : (h1.push (seqObj "list" vs.toArray 0)).get? h1.objs.size = some (seqObj "list" vs.toArray 0) := a0R _ rfl
 refine a0C (a1Y (a1Z a6U ⟨_, eD, rfl⟩ a6E (list_sort_tree eD are h64 fun out js o1 o2 o3 => ⟨_, rfl, ?_⟩) (a7T _)))
 obtain ⟨n, eN⟩ := sortedHeap_at (out := out) eD
 refine a0G ⟨_, rfl, q h1 _ out.toList js n o1 o2 o3 k1 (fun b o e1 => ?_) (by simpa using eN)⟩
 have lt := a0Q e1
 rw [sortedHeap_old (a1J lt) (a1E lt (by rw [a6S]; exact a7B _))]
 exact a0I _ e1
end
section
variable {X : Cx}
def c9t (K : W.Frag) : List V -> Hp -> VK -> Prop := fun xs H Q => ∃ (p : Addr) (ns : List Int), xs = [.ref p] /\ SqL K H p (ns.map V.int) /\ ns.length < 64 /\ ∀ (D : Addr) (js : List Int), H D = none -> js.Perm ns -> js.Pairwise (· <= ·) -> Q (.ref D) (upd H D (.lst (js.map V.int)))
theorem b5k (hc : X.calm = true) : CallR X (.builtin "sorted") (c9t X.K) := by
 intro pins s σ H xs us Q I r h
 obtain ⟨p, ns, rfl, hp, h64, q⟩ := h
 obtain ⟨u, rfl, ru⟩ := a4f r
 cases ru
 obtain ⟨its, rv, pl, _⟩ := I.list hp
 have ia := a7f rv
 have il := ia.length
 refine c9s pl.isList ia (by lia) fun h1 h' out js n o1 o2 o3 kp k2 e => ?_
 have J1 : Inv X pins σ H { s with heap := h1 } := I.kept (t' := s.toks) kp
 have J2 : Inv X pins σ H { s with heap := h' } := J1.kept (t' := s.toks) k2
 have lj := o2.length_eq
 have ok : ObjOk X.prog X.w (upd H h1.objs.size (.lst (js.map V.int))) h' h1.objs.size (.lst (js.map V.int)) := ⟨by rw [a0D, a1B]; lia, out, n, c5k o1, e⟩
 exact ⟨.ref h1.objs.size, _, Inv.trackNew J1 J2 ok, rfl, q _ js J1.fresh o2 o3⟩
end
end L2
namespace My
open PySem L2 PyProof.Rows
def top (i : Nat) : Stmt := PySem.Challenge.pw_cascade_k44_whole_words_that_keep_a_face.main.body.getD i (.Pass ⟨0, 0, 0, 0⟩)
abbrev d0f : Stmt := top 4
abbrev a2u : Stmt := top 6
abbrev a3h : Stmt := top 7
abbrev a5s : Stmt := top 9
abbrev a5t : Stmt := top 10
abbrev a6i : Stmt := top 11
abbrev a4q : Stmt := top 12
abbrev a1e : Stmt := top 13
abbrev b0n : Stmt := top 15
abbrev a6j : Stmt := top 16
abbrev a4i : Stmt := top 18
abbrev a4r : Stmt := top 19
abbrev a2v : Stmt := top 20
abbrev a7y : Stmt := top 21
abbrev a2c : Stmt := top 23
abbrev a2w : Stmt := top 24
abbrev a2d : Stmt := top 25
abbrev a4s : Stmt := top 26
abbrev a1f : Stmt := top 27
abbrev a6k : Stmt := top 28
abbrev b9d : Stmt := top 29
abbrev a2i : Stmt := top 30
abbrev a1z : Stmt := top 32
abbrev a1p : Stmt := top 33
abbrev a1j : Stmt := top 34
abbrev a3j : Stmt := top 36
abbrev a5u : Stmt := top 37
abbrev a2j : Stmt := top 38
abbrev a5k : Stmt := top 39
abbrev a2x : Stmt := top 40
abbrev c6b : Stmt := top 41
theorem scLed : FnScope ["machine", "room", "word", "letter"] ["machine", "room", "word"] (a0b d0f) := {}
theorem b3t : FnScope ["things", "most"] ["things", "most"] (a0b a2u) := {}
theorem scReached : FnScope ["start", "letters", "step", "most", "words", "wave", "following", "thing", "letter", "found"] ["start", "letters", "step", "most"] (a0b a3h) := {}
theorem c2x : FnScope ["rooms"] ["rooms"] (a0b a5s) := {}
theorem scInOrder : FnScope ["sets", "once", "rooms"] ["sets"] (a0b a5t) := {}
theorem c6c : FnScope ["one", "other"] ["one", "other"] (a0b a6i) := {}
theorem c2y : FnScope ["machine", "rooms", "word"] ["machine", "rooms", "word"] (a0b a4q) := {}
theorem b1r : FnScope ["machine", "rooms"] ["machine", "rooms"] (a0b a1e) := {}
theorem c9u : FnScope ["rooms"] ["rooms"] (a0b b0n) := {}
theorem c6d : FnScope ["one", "other"] ["one", "other"] (a0b a6j) := {}
theorem scPictures : FnScope ["machine", "words"] ["machine"] (a0b a4i) := {}
theorem scFamily : FnScope ["machine", "singles"] ["machine"] (a0b a4r) := {}
theorem b5l : FnScope ["part", "sets"] ["part", "sets"] (a0b a2v) := {}
theorem scTiles : FnScope ["machine", "rooms", "within"] ["machine", "rooms"] (a0b a7y) := {}
theorem scWordsBetween : FnScope ["machine", "words", "rooms"] ["machine"] (a0b a2c) := {}
theorem b5m : FnScope ["words", "rooms"] ["words", "rooms"] (a0b a2w) := {}
theorem scSetsOfLevels : FnScope ["words", "found", "rooms", "sets"] ["words"] (a0b a2d) := {}
theorem c2z : FnScope ["words", "sets", "waiting"] ["words", "sets", "waiting"] (a0b a4s) := {}
theorem scLevelsInOrder : FnScope ["words", "waiting", "told", "free"] ["words", "waiting"] (a0b a1f) := {}
theorem scLevels : FnScope ["machine", "words", "told", "sets", "face", "ways"] ["machine"] (a0b a6k) := {}
theorem d2m : FnScope ["machine", "level", "k", "j"] ["machine", "level", "k", "j"] (a0b b9d) := {}
theorem b3u : FnScope ["machine", "level", "k"] ["machine", "level", "k"] (a0b a2i) := {}
theorem scTilesTurned : FnScope ["machine", "level", "k", "letter", "there", "ends"] ["machine", "level", "k", "letter"] (a0b a1z) := {}
theorem scAllTilesTurned : FnScope ["machine", "level", "found", "k", "letter", "turn"] ["machine", "level"] (a0b a1p) := {}
theorem scLevelGroup : FnScope ["machine", "level", "makers"] ["machine", "level"] (a0b a1j) := {}
theorem b5n : FnScope ["_law_script", "_law_k"] ["_law_script", "_law_k"] (a0b a3j) := {}
theorem scLawTurn : FnScope ["_law_cell", "_law_rooms", "_law_number", "_law_turn_here", "_law_k", "_law_other", "_law_kept"] ["_law_cell", "_law_rooms"] (a0b a5u) := {}
theorem scLawMachine : FnScope ["_law_script", "_law_rooms", "_law_many"] ["_law_script"] (a0b a2j) := {}
theorem scLawLed : FnScope ["_law_machine_here", "_law_level", "_law_face", "_law_found", "_law_known", "_law_at", "_law_turn_here", "_law_there"] ["_law_machine_here", "_law_level"] (a0b a5k) := {}
theorem scLawTurnOf : FnScope ["_law_level", "_law_one", "_law_face", "_law_found", "_law_rooms", "_law_there"] ["_law_level", "_law_one"] (a0b a2x) := {}
theorem scLaw : FnScope ["_law_script", "_law_machine_here", "_law_level", "_law_due", "_law_one"] ["_law_script"] (a0b c6b) := {}
def b7h (K : W.Frag) : Sp := fun vs H Q _ => ∃ (a : Addr) (ns : List Int) (k : Int), vs = [.ref a, .int k] /\ 0 <= k /\ SqL K H a (ns.map V.int) /\ ∀ c, Q (.int c) H
section
variable {P : Program} {w : World} {K : W.Frag} {mg : Str -> Option Value} {base : Heap} {f : Addr} {fd : FuncData}
theorem b9e (F : Fun K "_law_cell_at" "_law_cell_at" a3j f fd) (m_len : mg "len" = none) : FnOk P w K mg base CX0 1 f fd ["_law_script", "_law_k"] (b7h K) := by
 refine F.ok b5n (fun vs H Q E h => ?_) (fun cdv A outer s H vs Q E hr h => ?_)
 ·obtain ⟨a, ns, k, rfl, _⟩ := h
  rfl
 obtain ⟨a, ns, k, rfl, h0, hS, q⟩ := h
 refine ⟨_, (a0f (a6m (a1s c0a (pv 1) (a0v a0t rfl m_len a6B (a0g (pv 0) a0j)) (a2q _)) (a0i (a1b (a1x a2e (pv 0) (pv 1) (fun _ _ => rfl)))) a3c) (a0i (a1b a0q))), ?_⟩
 refine ⟨_, rfl, _, rfl, a, _, rfl, .inl hS, _, _, rfl, rfl, _, rfl, ?_⟩
 refine c4s (fun c => ?_) (fun c => ?_)
 ·have c' : k < ((ns.map V.int).length : Nat) := a1X c
  rw [a0D] at c'
  have hk : k.toNat < ns.length := by lia
  have e : k = ((k.toNat : Nat) : Int) := by lia
  refine ⟨_, rfl, _, rfl, a, _, _, .int (ns.getD k.toNat 0), rfl, rfl, hS, ?_, q _⟩
  rw [e]
  exact d1k hk
 ·exact q _
end
structure Mach (H : Hp) (m : Addr) (ts : List (List Nat)) (n : Nat) : Prop where
 refs : ∃ rs : List Addr, H m = some (.tup (rs.map V.ref)) /\ rs.length = ts.length /\ ∀ (i : Nat) r t, rs[i]? = some r -> ts[i]? = some t -> H r = some (.tup (t.map nv))
 some1 : 1 <= ts.length
 few : ts.length <= 4
 n1 : 1 <= n
 n5 : n <= 5
 each : ∀ t ∈ ts, t.length = n /\ ∀ x ∈ t, x < n
theorem Mach.same {H H' : Hp} {m : Addr} {ts : List (List Nat)} {n : Nat} (M : Mach H m ts n) (g : Same H H') : Mach H' m ts n :=
 ⟨let ⟨rs, h1, h2, h3⟩ := M.refs; ⟨rs, g _ _ h1, h2, fun i r t e1 e2 => g _ _ (h3 i r t e1 e2)⟩, M.some1, M.few, M.n1, M.n5, M.each⟩
theorem Mach.at {H : Hp} {m : Addr} {ts : List (List Nat)} {n : Nat} (M : Mach H m ts n) {l : Nat} (hl : l < ts.length) :
  ∃ (rs : List Addr) (r : Addr), H m = some (.tup (rs.map V.ref)) /\ rs.length = ts.length /\ atI (rs.map V.ref) (l : Int) = some (.ref r) /\ H r = some (.tup ((ts.getD l []).map nv)) /\ (ts.getD l []).length = n /\ ∀ x ∈ ts.getD l [], x < n := by
 obtain ⟨rs, h1, h2, h3⟩ := M.refs
 have hr : l < rs.length := by lia
 have e : ts.getD l [] = ts[l] := by rw [a0J, a0A hl]; rfl
 rw [e]
 obtain ⟨q1, q2⟩ := M.each ts[l] (a2Y hl)
 exact ⟨rs, rs[l], h1, h2, a2r (by rw [a0E, a0A hr]; rfl), h3 l _ _ (by simp [hr]) (by simp [hl]), q1, q2⟩
def a3d (ts : List (List Nat)) (r : Nat) (word : List Nat) : Nat := word.foldl (fun r l => (ts.getD l []).getD r 0) r
theorem b3v (ts : List (List Nat)) (r : Nat) (word : List Nat) (l : Nat) : a3d ts r (word ++ [l]) = (ts.getD l []).getD (a3d ts r word) 0 := by
 unfold a3d
 rw [a3U]
 rfl
theorem a3s {H : Hp} {m : Addr} {ts : List (List Nat)} {n : Nat} (M : Mach H m ts n) : ∀ (word : List Nat) (r : Nat), r < n -> (∀ l ∈ word, l < ts.length) -> a3d ts r word < n
 | [], _, hr, _ => hr
 | l :: word, r, hr, h => by
  obtain ⟨_, _, _, _, _, _, h5, h6⟩ := M.at (h l (a0S ..))
  exact a3s M word _ (a9b h6 (by lia)) fun x hx => h x (a0V _ hx)
def b9f (ts : List (List Nat)) (n : Nat) (word : List Nat) : List Nat := (List.range n).map fun r => a3d ts r word
theorem c3a (ts : List (List Nat)) (n : Nat) (word : List Nat) : (b9f ts n word).length = n := by simp [b9f]
def c7q : Sp := fun vs H Q _ => ∃ (c : Int) (n : Nat), vs = [.int c, nv n] /\ 1 <= n /\ n <= 5 /\
 ∀ (ys : List Nat) r H', Same H H' -> H' r = some (.tup (ys.map nv)) -> ys.length = n -> (∀ y ∈ ys, y < n) -> Q (.ref r) H'
def b3w (K : W.Frag) : Sp := fun vs H Q _ => ∃ (a : Addr) (ns : List Int), vs = [.ref a] /\ SqL K H a (ns.map V.int) /\ ∀ m ts n H', Same H H' -> Mach H' m ts n -> Q (.ref m) H'
def b7i (H : Hp) (c : Int) (n : Nat) (σ : L2.St) (H' : Hp) : Prop := Same H H' /\ ∃ (l : Addr) (ys : List Nat) (num : Int) (o1 o2 o3 : Option V), σ = [some (.int c), some (nv n), some (.int num), some (.ref l), o1, o2, o3] /\
 H' l = some (.lst (ys.map nv)) /\ H l = none /\ ys.length = n /\ ∀ y ∈ ys, y < n
section
variable {P : Program} {w : World} {K : W.Frag} {mg : Str -> Option Value} {base : Heap} {f : Addr} {fd : FuncData}
theorem c9v (F : Fun K "_law_turn" "_law_turn" a5u f fd) (m_range : mg "range" = none) (m_tuple : mg "tuple" = none) (m_list : mg "list" = none) : FnOk P w K mg base CX0 1 f fd ["_law_cell", "_law_rooms"] c7q := by
 refine F.ok scLawTurn (fun vs H Q E h => ?_) (fun cdv A outer s H vs Q E hr h => ?_)
 ·obtain ⟨c, n, rfl, _⟩ := h
  rfl
 obtain ⟨c, n, rfl, h1, h5, q⟩ := h
 refine ⟨_, (a0f (a0r (i := 2) scLawTurn.nd rfl (Or.inl rfl) (a4l b4m (pv 0) a0q)) (a0f (a0r (i := 3) scLawTurn.nd rfl (Or.inl rfl) (a1a (b0z rfl) rfl m_list boot_list (a0g (a1a a8w rfl m_range boot_range (a0g (pv 1) a0j)) a0j))) (a0f (a3w a2E rfl (a3k rfl m_range (a0g (pv 1) a0j)) (a1y (i := 4) scLawTurn.nd rfl (Or.inl rfl)) (a0f (a0r (i := 5) scLawTurn.nd rfl (Or.inl rfl) (a4l a6o (pv 2) (pv 1))) (a0f (a0r (i := 2) scLawTurn.nd rfl (Or.inl rfl) (a4l b4m (pv 2) (pv 1))) (a0i (a6m (a1s c0a (a4l a6o (pv 0) a0q) a0q (a2q _)) (a0i (b6d (pv 5) (b6c (pv 3) (pv 4) a8f))) (a0i (a6m (a1s c0a (a4l a6o (pv 0) a0q) a0q (a2q _)) (a0f (a0r (i := 6) scLawTurn.nd rfl (Or.inl rfl) (a1x a2e (pv 3) (pv 4) (fun _ _ => rfl))) (a0f (b6d (a1x a2e (pv 3) (pv 5) (fun _ _ => rfl)) (b6c (pv 3) (pv 4) a8f)) (a0i (b6d (pv 6) (b6c (pv 3) (pv 5) a8f))))) (a0i (a6m (PW.pt (b2j (a1s c8h (a4l a6o (pv 0) a0q) a0q (a2q _)) (a8p (a1s c0a (pv 4) a0q (a2q _))))) (a0i (b6d (a4l a6o (pv 2) (pv 1)) (b6c (pv 3) (pv 5) a8f))) a3c))))))))) (a0f (d1j (a6m (a1s c8h (a4l a6o (pv 0) a0q) a0q (a2q _)) (a0i (a0r (i := 3) scLawTurn.nd rfl (Or.inl rfl) (a4l d0z (a3y (a0g (a4l a6o (a4l b4m (pv 0) a0q) (pv 1)) a0j)) (pv 1)))) a3c)) (a0i (a1b (a1a a1d rfl m_tuple a6O (a0g (pv 3) a0j)))))))), ?_⟩
 have np : (0 : Int) < (n : Int) := by lia
 refine ⟨_, rfl, _, _, rfl, rfl, ⟨by decide, by decide⟩, ?_⟩
 refine ⟨_, rfl, (n : Int), rfl, fun p1 hp1 => ⟨p1, (n : Int), rfl, a0a, by lia, by lia, fun l hl => ?_⟩⟩
 have g1 := (a0c hp1 (.rng 0 (n : Int))).trans (a0c hl (.lst (a4g (n : Int).toNat)))
 have s1 : ∀ num, b7i H c n [some (.int c), some (nv n), some (.int num), some (.ref l), none, none, none] (upd (upd H p1 (.rng 0 (n : Int))) l (.lst (a4g (n : Int).toNat))) :=
  fun num => ⟨g1, l, List.range n, num, none, none, none, rfl, by rw [a0a]; rfl, (a0c hp1 _).free hl, by simp, fun y hy => List.mem_range.mp hy⟩
 refine ⟨_, rfl, (n : Int), rfl, by lia, by lia, a6n (fun i σ H' => b7i H c n σ H') (s1 _) (fun i σ H' hi p => ?_) (fun σ H' p => ?_)⟩
 ·obtain ⟨g, l, ys, num, o1, o2, o3, rfl, el, hl, hyl, hy⟩ := p
  have hi' : i < n := by lia
  have e0 : (0 + (i : Int)) = ((i : Nat) : Int) := by lia
  obtain ⟨m1, m2⟩ := c0y num h1
  obtain ⟨m3, m4⟩ := c0y (num / (n : Int)) h1
  refine ⟨_, rfl, _, rfl, _, _, rfl, rfl, np, ?_⟩
  try dsimp only
  rw [m1]
  generalize (num % (n : Int)).toNat = k at m2
  refine ⟨_, rfl, _, rfl, _, _, rfl, rfl, ⟨by lia, by lia⟩, ?_⟩
  refine ⟨_, rfl, _, _, rfl, rfl, (by decide : (0 : Int) < 6), _, _, rfl, rfl, _, rfl, c4s (fun c1 => ?_) (fun c1 => ?_)⟩
  ·refine ⟨_, rfl, _, rfl, _, rfl, l, _, _, i, rfl, rfl, el, (by rw [e0, a0D]; exact b1a (by lia)), ?_⟩
   try dsimp only
   rw [b6l]
   exact ⟨a1t g hl, l, _, _, _, _, _, rfl, a0a, hl, by rw [a5K, hyl], b6m hy m2⟩
  refine ⟨_, rfl, _, _, rfl, rfl, (by decide : (0 : Int) < 6), _, _, rfl, rfl, _, rfl, c4s (fun c2 => ?_) (fun c2 => ?_)⟩
  ·refine ⟨_, rfl, _, rfl, l, _, _, _, rfl, rfl, SqL.of el, (by rw [e0]; exact c0x (by lia)), ?_⟩
   refine ⟨_, rfl, _, rfl, l, _, _, _, rfl, rfl, SqL.of el, c0x (by lia), _, rfl, _, rfl, l, _, _, i, rfl, rfl, el, (by rw [e0, a0D]; exact b1a (by lia)), ?_⟩
   try dsimp only
   rw [b6l]
   refine ⟨_, rfl, _, rfl, _, rfl, l, _, _, k, rfl, rfl, a0a, (by rw [a0D, a5K]; exact b1a (by lia)), ?_⟩
   try dsimp only
   rw [b6l, c7y]
   exact ⟨a1t g hl, l, _, _, _, _, _, rfl, a0a, hl, by rw [a5K, a5K, hyl], b6m (b6m hy (a9b hy (by lia))) (a9b hy (by lia))⟩
  have stay : ∀ o1 o2 o3, b7i H c n [some (.int c), some (nv n), some (.int (num / (n : Int))), some (.ref l), o1, o2, o3] H' := fun o1 o2 o3 => ⟨g, l, ys, _, o1, o2, o3, rfl, el, hl, hyl, hy⟩
  refine ⟨_, rfl, _, _, rfl, rfl, (by decide : (0 : Int) < 6), rfl, _, rfl, c4s (fun c3 => ?_) (fun c3 => a9u (stay _ _ _))⟩
  refine ⟨_, rfl, _, _, rfl, rfl, _, rfl, c4s (fun c4 => ?_) (fun c4 => stay _ _ _)⟩
  refine ⟨_, rfl, _, rfl, _, _, rfl, rfl, np, ?_⟩
  try dsimp only
  rw [m3]
  refine ⟨_, rfl, _, rfl, l, _, _, k, rfl, rfl, el, (by rw [a0D]; exact b1a (by lia)), ?_⟩
  try dsimp only
  rw [b6l]
  exact ⟨a1t g hl, l, _, _, _, _, _, rfl, a0a, hl, by rw [a5K, hyl], b6m hy m4⟩
 ·obtain ⟨g, l, ys, num, o1, o2, o3, rfl, el, hl, hyl, hy⟩ := p
  refine ⟨b7i H c n, ?_, fun σ4 H4 p4 => ?_⟩
  ·refine ⟨_, rfl, _, _, rfl, rfl, (by decide : (0 : Int) < 6), rfl, _, rfl, c4s (fun c5 => ?_) (fun c5 => ⟨g, l, ys, num, o1, o2, o3, rfl, el, hl, hyl, hy⟩)⟩
   obtain ⟨m1, m2⟩ := c0y (c / 6) h1
   refine ⟨_, rfl, _, _, rfl, rfl, ⟨by decide, by decide⟩, _, rfl, _, _, rfl, rfl, np, by show 1 <= sizeLine; decide, fun l2 hl2 => ?_⟩
   have e1 : (n : Int).toNat = n := a2I n
   refine ⟨_, rfl, l2, _, _, rfl, rfl, a0a, by lia, by lia, by rw [e1, a1B]; show 1 * n <= _; lia, fun l3 hl3 => ?_⟩
   have e2 : (List.replicate (n : Int).toNat [V.int (c / 6 % (n : Int))]).flatten = (List.replicate n (c / 6 % (n : Int)).toNat).map nv := by
    rw [e1, m1, List.map_replicate]
    induction n with
    | zero => rfl
    | succ n _ => simp [List.replicate_succ]
   refine ⟨g.trans ((a0c hl2 _).trans (a0c hl3 _)), l3, List.replicate n (c / 6 % (n : Int)).toNat, num, _, _, _, rfl, ?_, ?_, by simp, fun y hy => ?_⟩
   ·rw [a0a]
    exact a2C (fun z => some (HO.lst z)) e2
   ·exact (g.trans (a0c hl2 _)).free hl3
   ·rw [List.eq_of_mem_replicate hy]
    exact m2
  ·obtain ⟨g4, l4, ys4, num, o1, o2, o3, rfl, el4, hl4, hyl4, hy4⟩ := p4
   exact ⟨_, rfl, l4, _, rfl, .inl ⟨SqL.of el4, fun t ht => q ys4 t _ (g4.trans (a0c ht _)) a0a hyl4 hy4⟩⟩
theorem b9g (F : Fun K "_law_machine" "_law_machine" a2j f fd) (c__law_cell_at : a0l P w K mg base "_law_cell_at" 1 ["_law_script", "_law_k"] (b7h K)) (c__law_turn : a0l P w K mg base "_law_turn" 1 ["_law_cell", "_law_rooms"] c7q)
  (m_range : mg "range" = none) (m_tuple : mg "tuple" = none) : FnOk P w K mg base CX0 3 f fd ["_law_script"] (b3w K) := by
 refine F.ok scLawMachine (fun vs H Q E h => ?_) (fun cdv A outer s H vs Q E hr h => ?_)
 ·obtain ⟨a, ns, rfl, _⟩ := h
  rfl
 obtain ⟨a, ns, rfl, hS, q⟩ := h
 refine ⟨_, (a0f (a0r (i := 1) scLawMachine.nd rfl (Or.inr rfl) (a4l b6e a0q (a4l a6o (a0m c__law_cell_at (hr.mono (by decide)) rfl (a2a (a0e (pv 0) (a0e a0q a1c rfl) rfl))) a0q))) (a0f (a0r (i := 2) scLawMachine.nd rfl (Or.inl rfl) (a4l b6e a0q (a4l a6o (a0m c__law_cell_at (hr.mono (by decide)) rfl (a2a (a0e (pv 0) (a0e a0q a1c rfl) rfl))) a0q))) (a0i (a1b (a1a a1d rfl m_tuple a6O (a0g (a1m (CompSc.to (N := ["_law_script", "_law_rooms", "_law_many"]) (osc := a0b a2j) (vs := ["_law_k"]) {}) rfl rfl (a3k rfl m_range (a0g (pv 2) a0j)) (fun _ _ _ _ => a2t) (fun _ _ _ _ => (a0m c__law_turn (hr.mono (by decide)) rfl (a2a (a0e (a0m c__law_cell_at (hr.mono (by decide)) rfl (a2a (a0e (pv 1) (a0e (a4l b6e a0q (pv 0)) a1c rfl) rfl))) (a0e (pv 2) a1c rfl) rfl))))) a0j)))))), ?_⟩
 refine ⟨_, rfl, a, ns, 0, rfl, Int.le_refl 0, hS, fun c => ⟨_, _, rfl, rfl, (by decide : (0 : Int) < 5), _, _, rfl, rfl, ?_⟩⟩
 obtain ⟨n, en, n1, n5⟩ : ∃ n : Nat, (1 + c % 5 : Int) = (n : Int) /\ 1 <= n /\ n <= 5 := ⟨(1 + c % 5).toNat, by lia, by lia, by lia⟩
 try dsimp only
 rw [en]
 refine ⟨_, rfl, a, ns, 1, rfl, by decide, hS, fun c' => ⟨_, _, rfl, rfl, (by decide : (0 : Int) < 4), _, _, rfl, rfl, ?_⟩⟩
 obtain ⟨k, ek, k1, k4⟩ : ∃ n : Nat, (1 + c' % 4 : Int) = (n : Int) /\ 1 <= n /\ n <= 4 := ⟨(1 + c' % 4).toNat, by lia, by lia, by lia⟩
 try dsimp only
 rw [ek]
 refine ⟨_, rfl, (k : Int), rfl, by lia, by lia, a7i (fun i zs H' => Same H H' /\ ∃ (rs : List Addr) (ts : List (List Nat)), zs = rs.map V.ref /\ rs.length = i /\ ts.length = i /\ (∀ (j : Nat) r t, rs[j]? = some r -> ts[j]? = some t -> H' r = some (.tup (t.map nv))) /\ ∀ t ∈ ts, t.length = n /\ ∀ x ∈ t, x < n)
  (small (by lia)) ⟨Same.refl _, [], [], rfl, rfl, rfl, (fun j r t e => absurd e (by simp)), (fun t ht => absurd ht (by simp))⟩ (fun i zs H' _ p => ?_) (fun i zs H' hi p => ?_) (fun zs H' p l hl => ?_)⟩
 ·obtain ⟨_, rs, ts, rfl, e, _⟩ := p
  rw [a0D]
  lia
 ·obtain ⟨g, rs, ts, rfl, hrl, htl, hrt, ht⟩ := p
  refine ⟨a1w, a6q ?_⟩
  refine ⟨_, rfl, _, rfl, _, _, rfl, rfl, a, ns, _, rfl, by lia, g.seq hS, fun c => ⟨_, rfl, c, n, rfl, n1, n5, fun ys r H2 g2 e2 hyl hy => ?_⟩⟩
  refine ⟨g.trans g2, rs ++ [r], ts ++ [ys], by simp, by simp [hrl], by simp [htl], fun j r' t' e3 e4 => ?_, fun t ht' => ?_⟩
  ·by_cases hj : j < i
   ·rw [a0P (by lia)] at e3 e4
    exact g2 _ _ (hrt j r' t' e3 e4)
   ·have hj' : j = i := by
     have := (a0B.mp e3).1
     rw [a0Z, hrl] at this
     have : j < i + 1 := this
     lia
    subst hj'
    rw [a0T (by lia), hrl, a9C] at e3
    rw [a0T (by lia), htl, a9C] at e4
    cases e3
    cases e4
    exact e2
  ·rcases a0K.mp ht' with z | z
   ·exact ht t z
   ·have e : t = ys := by simpa using z
    rw [e]
    exact ⟨hyl, hy⟩
 ·obtain ⟨g, rs, ts, rfl, hrl, htl, hrt, ht⟩ := p
  have g1 := a0c hl (.lst (rs.map V.ref))
  refine ⟨l, _, rfl, .inl ⟨SqL.of a0a, fun m hm => ?_⟩⟩
  have g2 := g1.trans (a0c hm (.tup (rs.map V.ref)))
  have hk : (k : Int).toNat = k := a2I k
  exact q m ts n _ (g.trans g2) ⟨⟨rs, a0a, by lia, fun i r t e1 e2 => g2 _ _ (hrt i r t e1 e2)⟩, by lia, by lia, n1, n5, ht⟩
end
def d2n (K : W.Frag) : Sp := fun vs H Q _ => ∃ (m b : Addr) (ts : List (List Nat)) (n r : Nat) (word : List Nat), vs = [.ref m, nv r, .ref b] /\ Mach H m ts n /\ r < n /\ SqL K H b (word.map nv) /\ (∀ l ∈ word, l < ts.length) /\ Q (nv (a3d ts r word)) H
section
variable {P : Program} {w : World} {K : W.Frag} {mg : Str -> Option Value} {base : Heap} {f : Addr} {fd : FuncData}
theorem d2o (F : Fun K "led" "led" d0f f fd) : FnOk P w K mg base CX0 1 f fd ["machine", "room", "word"] (d2n K) := by
 refine F.ok scLed (fun vs H Q E h => ?_) (fun cdv A outer s H vs Q E hr h => ?_)
 ·obtain ⟨m, b, ts, n, r, word, rfl, _⟩ := h
  rfl
 obtain ⟨m, b, ts, n, r, word, rfl, M, hr', hS, hw, q⟩ := h
 refine ⟨_, (a0f (a3w a2E rfl (a1v (pv 2)) (a1y (i := 3) scLed.nd rfl (Or.inl rfl)) (a0i (a0r (i := 1) scLed.nd rfl (Or.inl rfl) (a1x a2k (a1x a2k (pv 0) (pv 3) (fun _ _ => rfl)) (pv 1) (fun _ _ => rfl))))) (a0i (a1b (pv 1)))), ?_⟩
 refine ⟨_, rfl, b, rfl, ⟨_, hS⟩, a3x (xs := word.map nv) (fun i σ H' => H' = H /\ ∃ o, σ = [some (.ref m), some (nv (a3d ts r (word.take i))), some (.ref b), o]) ⟨rfl, none, rfl⟩ (fun i σ H' _ p => by obtain ⟨rfl, _⟩ := p; exact hS) (fun i x σ H' hx p => ?_) (fun σ H' p => ?_)⟩
 ·obtain ⟨rfl, o, rfl⟩ := p
  rw [a0E] at hx
  cases e : word[i]? with
  | none => rw [e] at hx; cases hx
  | some l =>
   rw [e] at hx
   cases hx
   obtain ⟨rs, rr, h1, h2, h3, h4, h5, h6⟩ := M.at (hw l (a0H e))
   refine ⟨_, rfl, _, rfl, m, _, _, _, rfl, rfl, SqT.of h1, h3, _, rfl, rr, _, _, _, rfl, rfl, SqT.of h4, c0x ?_, rfl, some (nv l), ?_⟩
   ·rw [h5]
    exact a3s M _ _ hr' fun x hx => hw x (a4S hx)
   ·rw [a2O, e]
    show _ = [some (.ref m), some (nv (a3d ts r (word.take i ++ [l]))), some (.ref b), some (nv l)]
    rw [b3v]
    rfl
 ·obtain ⟨rfl, o, rfl⟩ := p
  refine ⟨_, rfl, ?_⟩
  rw [a0D, a2B]
  exact q
end
def a7z (ts : List (List Nat)) (rooms word : List Nat) : List Nat := rooms.map fun r => a3d ts r word
theorem b9h {n : Nat} {xs : List Nat} (n5 : n <= 5) (h : ∀ x ∈ xs, x < n) : a1o xs = (List.range n).filter fun i => xs.contains i := by
 unfold a1o
 have e : List.range 5 = List.range n ++ (List.range (5 - n)).map (n + ·) := by rw [<- List.range_add]; congr 1; lia
 rw [e, a6C]
 have no : ((List.range (5 - n)).map (n + ·)).filter (fun i => xs.contains i) = [] := by
  rw [List.filter_eq_nil_iff]
  intro y hy z
  obtain ⟨k, _, rfl⟩ := a0M.mp hy
  have := h _ (a1G.mp z)
  lia
 rw [no, a2J]
theorem a5v {xs : List Nat} {x : Nat} (h : x ∈ a1o xs) : x ∈ xs := a1G.mp (a1F.mp h).2
theorem b1s {xs : List Nat} {x : Nat} (h : x ∈ xs) (h5 : x < 5) : x ∈ a1o xs := a1F.mpr ⟨a2G.mpr h5, a1G.mpr h⟩
theorem c6e (xs : List Nat) : (a1o xs).length <= 5 := a1A (a1R _ _) (by simp)
theorem in_nv (i : Nat) (xs : List Nat) : inV (nv i) (xs.map nv) = xs.contains i := by
 unfold inV
 rw [b0B]
 induction xs with
 | nil => rfl
 | cons x xs ih =>
  rw [a7E, List.contains_cons, ih]
  congr 1
  show eqV (.int (x : Int)) (.int (i : Int)) = (i == x)
  by_cases h : x = i
  ·subst h
   show ((x : Int) == (x : Int)) = (x == x)
   simp
  ·have h2 : ¬ (x : Int) = (i : Int) := by lia
   have h3 : ¬ i = x := by lia
   show ((x : Int) == (i : Int)) = (i == x)
   rw [a4X.mpr h2, a4X.mpr h3]
theorem c9w (xs : List Nat) : (xs.map nv).all a5a = true := by
 rw [List.all_map, a4Z]
 intro x _
 rfl
def a5l (K : W.Frag) : Sp := fun vs H Q _ => ∃ (m p b : Addr) (ts : List (List Nat)) (n : Nat) (rooms word : List Nat), vs = [.ref m, .ref p, .ref b] /\ Mach H m ts n /\ SqT K H p (rooms.map nv) /\ rooms.length <= 5 /\ (∀ r ∈ rooms, r < n) /\ SqL K H b (word.map nv) /\ (∀ l ∈ word, l < ts.length) /\
 d1i H ((a1o (a7z ts rooms word)).map nv) Q
section
variable {P : Program} {w : World} {K : W.Frag} {mg : Str -> Option Value} {base : Heap} {f : Addr} {fd : FuncData}
theorem b9i (F : Fun K "carried" "carried" a4q f fd) (c_led : a0l P w K mg base "led" 1 ["machine", "room", "word"] (d2n K)) (m_tuple : mg "tuple" = none) (m_sorted : mg "sorted" = none) (m_set : mg "set" = none) : FnOk P w K mg base CX0 3 f fd ["machine", "rooms", "word"] (a5l K) := by
 refine F.ok c2y (fun vs H Q E h => ?_) (fun cdv A outer s H vs Q E hr h => ?_)
 ·obtain ⟨m, p, b, ts, n, rooms, word, rfl, _⟩ := h
  rfl
 obtain ⟨m, p, b, ts, n, rooms, word, rfl, M, hR, hl5, hr', hS, hw, q⟩ := h
 refine ⟨_, (a0i (a1b (a1a a1d rfl m_tuple a6O (a0g (a0v (b8q rfl) rfl m_sorted a8W (a0g (a1a (c1m rfl) rfl m_set PyProof.Rows.boot_set (a0g (a1m (CompSc.to (N := ["machine", "rooms", "word"]) (osc := a0b a4q) (vs := ["room"]) {}) rfl rfl (b0b (pv 1)) (fun _ _ _ _ => a2t) (fun _ _ _ _ => (a0m c_led (hr.mono (by decide)) rfl (a2a (a0e (pv 1) (a0e (pv 0) (a0e (pv 3) a1c rfl) rfl) rfl))))) a0j)) a0j)) a0j)))), ?_⟩
 have n5 := M.n5
 refine ⟨_, rfl, p, rfl, ⟨_, hR⟩, a8v (f := fun v => match v with | .int i => nv (a3d ts i.toNat word) | v => v) (by rw [a0D]; exact small (by lia)) hR (fun v Q hv q => ?_) (fun l hl => ?_)⟩
 ·obtain ⟨r, h1, rfl⟩ := a0M.mp hv
  exact ⟨_, rfl, _, rfl, _, rfl, m, b, ts, n, r, word, rfl, M, hr' r h1, hS, hw, q⟩
 ·have e : (rooms.map nv).map (fun v => match v with | .int i => nv (a3d ts i.toNat word) | v => v) = (a7z ts rooms word).map nv := by
   unfold a7z
   rw [a1T, a1T]
   rfl
  try dsimp only
  rw [e]
  have g1 := a0c hl (.lst ((a7z ts rooms word).map nv))
  refine ⟨l, _, rfl, SqL.of a0a, fun x hx => ?_, fun a ha => ⟨a, _, rfl, a0a, fun o ho => ?_⟩⟩
  ·obtain ⟨r, h1, rfl⟩ := a0M.mp hx
   have := a3s M word r (hr' r h1) hw
   lia
  ·try dsimp only
   rw [a9d]
   exact ⟨o, _, rfl, .inl ⟨SqL.of a0a, fun t ht => q t _ (g1.trans ((a0c ha _).trans ((a0c ho _).trans (a0c ht _)))) a0a⟩⟩
end
def a5m (P : Program) (w : World) (K : W.Frag) (mg : Str -> Option Value) (base : Heap) : Sp := fun vs H Q _ => ∃ (a st : Addr) (fd : FuncData) (ps : List Str) (x0 : List Nat) (L : Nat) (U : List (List Nat)) (g : List Nat -> Nat -> List Nat),
 vs = [.ref a, nv L, .ref st, .non] /\ H a = some (.tup (x0.map nv)) /\ H st = some (b1b st fd) /\ x0 ∈ U /\ (∀ x ∈ U, ∀ l, l < L -> g x l ∈ U) /\ U.length <= 4000 /\ L <= 4000 /\ FnOk P w K mg base CX0 5 st fd ps (a7v (Same H) U L g) /\ Binds K fd ps [] /\
 ∀ D ws as H', Same H H' -> WordsAt H' D ws as -> (∀ b ∈ D :: as, H b = none) -> Told g L x0 ws -> Q (.ref D) H'
section
variable {P : Program} {w : World} {K : W.Frag} {mg : Str -> Option Value} {base : Heap} {f : Addr} {fd : FuncData}
theorem a9y (F : Fun K "refuse_more" "refuse_more" a2u f fd) (m_len : mg "len" = none) : FnOk P w K mg base CX0 1 f fd ["things", "most"] a8j := by
 refine F.ok b3t (fun vs H Q E h => ?_) (fun cdv A outer s H vs Q E hr h => ?_)
 ·obtain ⟨d, rfl, _⟩ := h
  rfl
 obtain ⟨d, rfl, q⟩ := h
 refine ⟨_, (a0i (a6m (PW.pt (b2j (a1s c0b (pv 1) b2h (a2q _)) (a8p (a1s d0u (a0v c0z rfl m_len a6B (a0g (pv 0) a0j)) (pv 1) (a2q _))))) (a0i c4m) a3c)), ?_⟩
 exact ⟨_, rfl, rfl, _, rfl, q⟩
theorem b9j {fdv cv : Value} (F : DefAt K "reached" a3h f fd fdv cv) (c_refuse_more : a0l P w K mg base "refuse_more" 1 ["things", "most"] a8j) (m_range : mg "range" = none) : FnOk P w K mg base CX0 8 f fd ["start", "letters", "step", "most"] (a5m P w K mg base) := by
 refine F.fnOk scReached (fun vs H Q E h => ?_) (fun A outer s H vs Q E h hr => ?_)
 ·obtain ⟨a, st, fd, ps, x0, L, U, g, rfl, _⟩ := h
  rfl
 obtain ⟨a, st, sd, ps, x0, L, U, g, rfl, ha, hst, h0, hU, few, fewL, hF, hB, q⟩ := h
 have hu1 := a8r hr
 exact ⟨_, b8t (hr.mono (by decide)) ha hst h0 hU few fewL hF hB q, (a0f (a0r (i := 4) scReached.nd rfl (Or.inl rfl) (b6r hu1 (pv 0) (a3y a0j))) (a0f (a4k (a0m c_refuse_more (hr.mono (by decide)) rfl (a2a (a0e (pv 4) (a0e (pv 3) a1c rfl) rfl)))) (a0f (a0r (i := 5) scReached.nd rfl (Or.inl rfl) (a3y (a0g (pv 0) a0j))) (a0f (b0v a2E (b6f (pv 5) (fun _ => rfl)) (a0f (a0r (i := 6) scReached.nd rfl (Or.inl rfl) (a3y a0j)) (a0f (a3w a2E rfl (a1v (pv 5)) (a1y (i := 7) scReached.nd rfl (Or.inl rfl)) (a0i (a3w a2E rfl (a3k rfl m_range (a0g (pv 1) a0j)) (a1y (i := 8) scReached.nd rfl (Or.inl rfl)) (a0f (a0r (i := 9) scReached.nd rfl (Or.inl rfl) (c5l 2 (pv 2) (a2a (a0e (pv 7) (a0e (pv 8) a1c rfl) rfl)))) (a0i (a6m (b2i (b2t hu1 (pv 9) (pv 4))) (a0f (a8t hu1 (pv 4) (pv 9) (a4l c1a (a7g hu1 (pv 4) (pv 7) (fun _ _ => rfl)) (a3y (a0g (pv 8) a0j))) rfl) (a0f (a4k (a0m c_refuse_more (hr.mono (by decide)) rfl (a2a (a0e (pv 4) (a0e (pv 3) a1c rfl) rfl)))) (a0i (a4k (a9t a2F a3E a3F a3l (pv 6) (a0g (pv 9) a0j)))))) a3c)))))) (a0i (a0r (i := 5) scReached.nd rfl (Or.inl rfl) (pv 6)))))) (a0i (a1b (pv 4)))))))⟩
end
def tabsL : List (Str × Pos × Addr) := [("sets_reached.<locals>.<lambda>", (⟨46, 40, 46, 93⟩ : Pos), 94), ("level_group.<locals>.<lambda>", (⟨118, 61, 118, 110⟩ : Pos), 193)]
theorem c9x : (tabsL.map (·.2.2)).Nodup := by decide
def Tabs (H : Hp) : Prop := ∀ q ∈ tabsL, TabOk q.1 q.2.1 H q.2.2
theorem _root_.L2.TabOk.most {qual : Str} {pos : Pos} {H H' : Hp} {T : Addr} (t : TabOk qual pos H T) (g : ∀ b u, (∀ kvs, u ≠ HO.dT kvs) -> (∀ xs, u ≠ HO.lst xs) -> H b = some u -> H' b = some u) : TabOk qual pos H' T := by
 rcases t with t | ⟨cc, t1, t2⟩
 ·exact .inl (g _ _ (fun _ e => nomatch e) (fun _ e => nomatch e) t)
 ·exact .inr ⟨cc, g _ _ (fun _ e => nomatch e) (fun _ e => nomatch e) t1, g _ _ (fun _ e => nomatch e) (fun _ e => nomatch e) t2⟩
theorem Tabs.same {H H' : Hp} (t : Tabs H) (g : Same H H') : Tabs H' := fun q hq => (t q hq).same g
theorem Tabs.most {H H' : Hp} (t : Tabs H) (g : ∀ b u, (∀ kvs, u ≠ HO.dT kvs) -> (∀ xs, u ≠ HO.lst xs) -> H b = some u -> H' b = some u) : Tabs H' := fun q hq => (t q hq).most g
def KeepsBut (T : Addr) (H H' : Hp) : Prop := ∀ b o, b ≠ T -> H b = some o -> H' b = some o
theorem KeepsBut.keeps {T : Addr} {H H' : Hp} {ps : Array Value} (g : KeepsBut T H H') (hT : H T = some (.tbl ps)) : Keeps H H' := fun b o hb => by
 obtain ⟨z, nt⟩ := b3g hb
 exact g b o (a1n z hT fun e => nt _ e) z
theorem b7j : ∀ {l : List (Str × Pos × Addr)} {p q : Str × Pos × Addr}, (l.map (·.2.2)).Nodup -> p ∈ l -> q ∈ l -> p.2.2 = q.2.2 -> p = q
 | [], _, _, _, hp, _, _ => nomatch hp
 | r :: l, p, q, nd, hp, hq, e => by
  obtain ⟨n1, n2⟩ := a2X.mp nd
  rcases a1H.mp hp with ep | hp
  ·rcases a1H.mp hq with eq | hq
   ·rw [ep, eq]
   ·exact absurd (a0M.mpr ⟨q, hq, by rw [<- ep]; exact e.symm⟩) n1
  ·rcases a1H.mp hq with eq | hq
   ·exact absurd (a0M.mpr ⟨p, hp, by rw [<- eq]; exact e⟩) n1
   ·exact b7j n2 hp hq e
theorem Tabs.but {qual : Str} {pos : Pos} {T : Addr} {H H' : Hp} {ps : Array Value} (hq : (qual, pos, T) ∈ tabsL) (t : Tabs H) (hT : H T = some (.tbl ps)) (g : KeepsBut T H H') (h1 : TabOk qual pos H' T) : Tabs H' := fun q' hq' => by
 by_cases e : q'.2.2 = T
 ·have := b7j c9x hq' hq e
  subst this
  exact h1
 ·rcases t q' hq' with t | ⟨cc, t1, t2⟩
  ·exact .inl (g _ _ e t)
  ·exact .inr ⟨cc, g _ _ e t1, g _ _ (a1n t2 hT fun z => nomatch z) t2⟩
theorem d2p {H : Hp} {T fl cc : Addr} (pos : Pos) (qual : Str) (hT : H T = some (.tbl #[])) (hfl : H fl = none) (hcc : H cc = none) (ne : fl ≠ cc) (lo : HO) : KeepsBut T H (upd (upd (upd H T (.tbl (a3o pos cc))) cc (a6f cc qual)) fl lo) /\
  (upd (upd (upd H T (.tbl (a3o pos cc))) cc (a6f cc qual)) fl lo) T = some (.tbl (a3o pos cc)) /\ (upd (upd (upd H T (.tbl (a3o pos cc))) cc (a6f cc qual)) fl lo) cc = some (a6f cc qual) := by
 refine ⟨fun b o nb z => ?_, ?_, ?_⟩
 ·rw [a0d (a0h z hfl), a0d (a0h z hcc), a0d nb]
  exact z
 ·rw [a0d (a0h hT hfl), a0d (a0h hT hcc), a0a]
 ·rw [a0d (a3R ne), a0a]
def a0k (ts : List (List Nat)) (x : List Nat) (l : Nat) : List Nat := a1o (a7z ts x [l])
def a1g (n : Nat) : List (List Nat) := ((List.range 32).map a0u).filter fun x => x.all fun r => decide (r < n)
def a4t (T : Addr) (pos : Pos) : Sp := fun vs H Q _ => ∃ (m p : Addr) (ts : List (List Nat)) (n : Nat) (rooms : List Nat), vs = [.ref m, .ref p] /\ Mach H m ts n /\ H p = some (.tup (rooms.map nv)) /\ rooms ∈ a1g n /\ Tabs H /\
 ∀ D ws as H', Keeps H H' -> Tabs H' -> WordsAt H' D ws as -> (∀ b ∈ D :: as, noT H b = none) -> Told (a0k ts) ts.length rooms ws -> Q (.ref D) H'
theorem mem_setsU {n : Nat} {x : List Nat} : x ∈ a1g n ↔ a1o x = x /\ ∀ r ∈ x, r < n := by
 unfold a1g
 rw [a1F, a0M, a4Z]
 constructor
 ·rintro ⟨⟨k, hk, rfl⟩, h⟩
  refine ⟨?_, fun r hr => a1X (h r hr)⟩
  have z : ∀ k : Fin 32, a1o (a0u k) = a0u k := by decide +kernel
  exact z ⟨k, a2G.mp hk⟩
 ·rintro ⟨h1, h2⟩
  refine ⟨⟨a4y 0 (a1o x), a2G.mpr ?_, by rw [a9d, h1]; exact h1⟩, fun r hr => a0Y (h2 r hr)⟩
  have z : ∀ (ns : List Nat) (k : Nat), (∀ n ∈ ns, n < 5) -> k < 32 -> a4y k ns < 32 := by
   intro ns
   induction ns with
   | nil => intro k _ hk; exact hk
   | cons n ns ih => intro k h hk; exact ih _ (fun y hy => h y (a0V _ hy)) (c1d ⟨k, hk⟩ ⟨n, h n (a0S ..)⟩)
  exact z _ 0 (fun n hn => a2G.mp (a1F.mp hn).1) (by decide)
theorem b3x (xs : List Nat) : a1o (a1o xs) = a1o xs := by
 unfold a1o
 refine a6P fun i hi => ?_
 rw [a2W, a1G, a1G, a1F, a1G]
 exact ⟨fun h => h.2, fun h => ⟨hi, h⟩⟩
theorem Mach.noT {H : Hp} {m : Addr} {ts : List (List Nat)} {n : Nat} (M : Mach H m ts n) : Mach (L2.noT H) m ts n :=
 ⟨let ⟨rs, h1, h2, h3⟩ := M.refs; ⟨rs, a0y h1 (fun _ e => nomatch e), h2, fun i r t e1 e2 => a0y (h3 i r t e1 e2) fun _ e => nomatch e⟩, M.some1, M.few, M.n1, M.n5, M.each⟩
theorem Mach.keeps {H H' : Hp} {m : Addr} {ts : List (List Nat)} {n : Nat} (M : Mach H m ts n) (g : Keeps H H') : Mach H' m ts n := M.noT.same g
theorem Mach.drop {H : Hp} {m c : Addr} {ts : List (List Nat)} {n : Nat} {φ : Heap -> Prop} (M : Mach H m ts n) (hc : H c = some (.ext φ)) : Mach (L2.drop H c) m ts n := by
 obtain ⟨rs, h1, h2, h3⟩ := M.refs
 refine ⟨⟨rs, ?_, h2, fun i r t e1 e2 => ?_⟩, M.some1, M.few, M.n1, M.n5, M.each⟩
 ·rw [a0x (a1n h1 hc fun e => nomatch e)]
  exact h1
 ·have z := h3 i r t e1 e2
  rw [a0x (a1n z hc fun e => nomatch e)]
  exact z
section
variable {P : Program} {w : World} {K : W.Frag} {mg : Str -> Option Value} {base : Heap} {f : Addr} {fd : FuncData}
theorem b7k {fl c m cc : Addr} {oc : Obj} {ts : List (List Nat)} {n : Nat} {Hc : Hp} {pm ct : Value} {params : Arguments} {body : Expr} {scope : Scope} {fx a1 a2 : Expr} {kw : List Keyword} {lp cp rp : Pos} (e : a0n a1e = [.Return (some (.Call fx [a1, a2, .Lambda params body scope lp] kw cp)) rp])
  (c_carried : a0l P w K mg base "carried" 3 ["machine", "rooms", "word"] (a5l K)) (M : Mach Hc m ts n) (h1 : Hc fl = some (b1b fl (a3u "sets_reached.<locals>.<lambda>" params body scope "machine" c pm (.ref cc) ct))) (h2 : Hc c = some (a3n c m oc)) (h3 : Hc cc = some (a6f cc "sets_reached.<locals>.<lambda>")) :
  FnOk P w K mg base CX0 5 fl (a3u "sets_reached.<locals>.<lambda>" params body scope "machine" c pm (.ref cc) ct) ["here", "letter"] (a7v (Same Hc) (a1g n) ts.length (a0k ts)) /\ Binds K (a3u "sets_reached.<locals>.<lambda>" params body scope "machine" c pm (.ref cc) ct) ["here", "letter"] [] := by
 cases e
 refine ⟨c7f (k := 4) (m := m) (oc := oc) ⟨rfl, rfl, rfl, by decide +kernel, by decide +kernel, rfl, by decide +kernel⟩ (fun vs H Q E h => ?_) (fun vs H Q E h => ?_) (fun A outer s H vs Q E hr h => ?_), .all fun us hl => match us, hl with | [_, _], _ => rfl⟩
 ·obtain ⟨t, x, l, rfl, _⟩ := h
  rfl
 ·obtain ⟨t, x, l, rfl, g, _⟩ := h
  exact ⟨g _ _ h1, g _ _ h2, g _ _ h3⟩
 ·obtain ⟨t, x, l, rfl, g, ht, hx, hl, q⟩ := h
  refine ⟨_, (a0m c_carried (hr.mono (by decide)) rfl (a2a (a0e (pv 2) (a0e (pv 0) (a0e (a3y (a0g (pv 1) a0j)) a1c rfl) rfl) rfl))), ?_⟩
  obtain ⟨x1, x2⟩ := mem_setsU.mp hx
  have hc := g _ _ h2
  refine ⟨_, rfl, _, rfl, _, rfl, by show 1 <= sizeLine; decide, fun b hb => ?_⟩
  have kb := a0c hb (.lst [nv l])
  have M1 := ((M.same g).drop hc).same kb
  have ht1 : (upd (L2.drop H c) b (.lst [nv l])) t = some (.tup (x.map nv)) := kb _ _ (by rw [a0x (a1n ht hc fun e => nomatch e)]; exact ht)
  refine ⟨m, t, b, ts, n, x, [l], rfl, M1, SqT.of ht1, by rw [<- x1]; exact c6e x, x2, SqL.of a0a, fun z hz => by rw [a0F.mp hz]; exact hl, fun r H3 g3 e3 free => q r _ (fun y o ho => ?_) ?_⟩
  ·by_cases hy : y = c
   ·subst hy
    rw [hc] at ho
    cases ho
    exact a0a
   ·rw [a0d hy]
    exact g3 _ _ (kb _ _ (by rw [a0x hy]; exact ho))
  ·rw [a0d (a0h e3 free)]
   exact e3
theorem a9k {cd T : Addr} (F : DefAt K "sets_reached" a1e f fd .none (.ref cd)) (hC : PySem.W.CodeHd base cd T) (bm : b1c mg base) (hq : (("sets_reached.<locals>.<lambda>" : Str), (⟨46, 40, 46, 93⟩ : Pos), T) ∈ tabsL) (c_carried : a0l P w K mg base "carried" 3 ["machine", "rooms", "word"] (a5l K))
  (c_reached : b1d P w K mg base "reached" 8 ["start", "letters", "step", "most"] (a5m P w K mg base) [.non]) (m_len : mg "len" = none) : FnOk P w K mg base CX0 10 f fd ["machine", "rooms"] (a4t T (⟨46, 40, 46, 93⟩ : Pos)) := by
 refine F.fnOk b1r (fun vs H Q E h => ?_) (fun A outer s H vs Q E h hr => ?_)
 ·obtain ⟨m, p, ts, n, rooms, rfl, _⟩ := h
  rfl
 obtain ⟨m, p, ts, n, rooms, rfl, M, hp, hU, hT, q⟩ := h
 refine ⟨_, ?_, (a0i (a1b (b3h c_reached (hr.mono (by decide)) rfl (j := 0) rfl rfl rfl rfl (a2a (a0e (pv 1) (a0e (a0v a0t rfl m_len a6B (a0g (pv 0) a0j)) (a0e (c7j (qual := "sets_reached.<locals>.<lambda>") rfl hC bm (fun _ _ _ _ _ => rfl) rfl rfl) a1c rfl) rfl) rfl)))))⟩
 obtain ⟨rs, hm, hrl, _⟩ := M.refs
 refine ⟨_, rfl, _, rfl, m, _, rfl, .inr (SqT.of hm), ?_⟩
 try dsimp only
 rw [a0D, hrl]
 have go : ∀ (fl cc : Addr) (ct : Value) (H1 : Hp) (tps : Array Value), H T = some (.tbl tps) -> KeepsBut T H H1 -> H1 T = some (.tbl (a3o (⟨46, 40, 46, 93⟩ : Pos) cc)) -> H1 cc = some (a6f cc "sets_reached.<locals>.<lambda>") -> ∀ (params : Arguments) (body : Expr) (scope : Scope) (pm : Value) (c : Addr), H1 fl = some (b1b fl (a3u "sets_reached.<locals>.<lambda>" params body scope "machine" c pm (.ref cc) ct)) ->
   ∀ oc, H1 c = none -> (FnOk P w K mg base CX0 5 fl (a3u "sets_reached.<locals>.<lambda>" params body scope "machine" c pm (.ref cc) ct) ["here", "letter"] (a7v (Same (upd H1 c (a3n c m oc))) (a1g n) ts.length (a0k ts))) -> Binds K (a3u "sets_reached.<locals>.<lambda>" params body scope "machine" c pm (.ref cc) ct) ["here", "letter"] [] ->
   a5m P w K mg base [.ref p, nv ts.length, .ref fl, .non] (upd H1 c (a3n c m oc)) (fun r H2 => H2 c = some (a3n c m oc) /\ Q r (L2.drop H2 c)) E0 := fun fl cc ct H1 tps hT0 kb h1 h2 params body scope pm c h3 oc hc hF hB => by
  have k1 := kb.keeps hT0
  have kc := a0c hc (a3n c m oc)
  have n5 := M.n5
  refine ⟨p, fl, _, _, rooms, ts.length, a1g n, a0k ts, rfl, kc _ _ (k1 _ _ (a0y hp fun _ e => nomatch e)), kc _ _ h3, hU, fun x hx l hl => ?_, ?_, ?_, hF, hB, fun D ws as H2 g2 W nw TT => ⟨g2 _ _ a0a, q D ws as _ (fun b o hb => ?_) (hT.but hq hT0 (fun b o nb hb => ?_) (.inr ⟨cc, ?_, ?_⟩)) ⟨W.len, ?_, fun j a r e1 e2 => ?_⟩ (fun b hb => ?_) TT⟩⟩
  ·obtain ⟨x1, x2⟩ := mem_setsU.mp hx
   refine mem_setsU.mpr ⟨b3x _, fun r hr => ?_⟩
   obtain ⟨y, h4, rfl⟩ := a0M.mp (a5v hr)
   exact a3s M [l] y (x2 y h4) fun z hz => by rw [a0F.mp hz]; exact hl
  ·exact a1A (a1R _ _) (by rw [a0D, a4W]; decide)
  ·have := M.few
   lia
  ·have z := k1 b o hb
   rw [a0x (a0h z hc)]
   exact g2 _ _ (kc _ _ z)
  ·have z := kb b o nb hb
   rw [a0x (a0h z hc)]
   exact g2 _ _ (kc _ _ z)
  ·rw [a0x (a0h h1 hc)]
   exact g2 _ _ (kc _ _ h1)
  ·rw [a0x (a0h h2 hc)]
   exact g2 _ _ (kc _ _ h2)
  ·rw [a0x (a1n W.dict (g2 _ _ a0a) fun e => nomatch e)]
   exact W.dict
  ·have z := W.list j a r e1 e2
   rw [a0x (a1n z (g2 _ _ a0a) fun e => nomatch e)]
   exact z
  ·have z := nw b hb
   cases y : L2.noT H b with
   | none => rfl
   | some o =>
    have z2 := kc _ _ (k1 _ _ y)
    rw [z] at z2
    cases z2
 rcases hT _ hq with hT1 | ⟨cc, hT1, hcc⟩
 ·refine .inl ⟨hT1, fun fl cc ct hfl hcc ne => ⟨m, rfl, fun oc hc => ?_⟩⟩
  obtain ⟨k1, hT2, hc1⟩ := d2p (⟨46, 40, 46, 93⟩ : Pos) "sets_reached.<locals>.<lambda>" hT1 hfl hcc ne _
  have kc := a0c hc (a3n (s.heap.objs.size + 1) m oc)
  obtain ⟨F1, F2⟩ := b7k rfl c_carried ((M.keeps (k1.keeps hT1)).same kc) (kc _ _ a0a) a0a (kc _ _ hc1)
  exact go fl cc ct _ _ hT1 k1 hT2 hc1 _ _ _ _ _ a0a oc hc F1 F2
 ·refine .inr ⟨cc, hT1, hcc, fun fl ct hfl => ⟨m, rfl, fun oc hc => ?_⟩⟩
  have k1 : ∀ lo, Same H (upd H fl lo) := fun lo => a0c hfl lo
  have kc := a0c hc (a3n (s.heap.objs.size + 1) m oc)
  obtain ⟨F1, F2⟩ := b7k rfl c_carried ((M.same (k1 _)).same kc) (kc _ _ a0a) a0a (kc _ _ (k1 _ _ _ hcc))
  exact go fl cc ct _ _ hT1 (fun b o _ hb => k1 _ _ _ hb) (k1 _ _ _ hT1) (k1 _ _ _ hcc) _ _ _ _ _ a0a oc hc F1 F2
end
def b5o : Sp := fun vs H Q _ => ∃ n : Nat, vs = [nv n] /\ n <= 1000 /\ d1i H ((List.range n).map nv) Q
section
variable {P : Program} {w : World} {K : W.Frag} {mg : Str -> Option Value} {base : Heap} {f : Addr} {fd : FuncData}
theorem c6f (F : Fun K "still" "still" b0n f fd) (m_tuple : mg "tuple" = none) (m_range : mg "range" = none) : FnOk P w K mg base CX0 1 f fd ["rooms"] b5o := by
 refine F.ok c9u (fun vs H Q E h => ?_) (fun cdv A outer s H vs Q E hr h => ?_)
 ·obtain ⟨n, rfl, _⟩ := h
  rfl
 obtain ⟨n, rfl, hn, q⟩ := h
 refine ⟨_, (a0i (a1b (a1a (b2x rfl) rfl m_tuple a6O (a0g (a1a a8w rfl m_range boot_range (a0g (pv 0) a0j)) a0j)))), ?_⟩
 refine ⟨_, rfl, (n : Int), rfl, fun p hp => ⟨p, (n : Int), rfl, a0a, by lia, by lia, fun t ht => ?_⟩⟩
 exact q t _ ((a0c hp _).trans (a0c ht _)) a0a
end
def beh (xs ys : List Nat) : List Nat := xs.map fun x => ys.getD x 0
def b1t : Sp := fun vs H Q _ => ∃ (a b : Addr) (xs ys : List Nat), vs = [.ref a, .ref b] /\ H a = some (.tup (xs.map nv)) /\ H b = some (.tup (ys.map nv)) /\ (∀ x ∈ xs, x < ys.length) /\ xs.length <= 1000 /\ d1i H ((beh xs ys).map nv) Q
section
variable {P : Program} {w : World} {K : W.Frag} {mg : Str -> Option Value} {base : Heap} {f : Addr} {fd : FuncData}
theorem c3b (F : Fun K "behind" "behind" a6j f fd) (m_tuple : mg "tuple" = none) : FnOk P w K mg base CX0 1 f fd ["one", "other"] b1t := by
 refine F.ok c6d (fun vs H Q E h => ?_) (fun cdv A outer s H vs Q E hr h => ?_)
 ·obtain ⟨a, b, xs, ys, rfl, _⟩ := h
  rfl
 obtain ⟨a, b, xs, ys, rfl, ha, hb, hlt, hz, q⟩ := h
 refine ⟨_, (a0i (a1b (a1a a1d rfl m_tuple a6O (a0g (a1m (CompSc.to (N := ["one", "other"]) (osc := a0b a6j) (vs := ["room"]) {}) rfl rfl (b0b (pv 0)) (fun _ _ _ _ => a2t) (fun _ _ _ _ => (a1x (IxR.k (K := K) rIxT a2k rfl) (pv 2) (pv 0) (fun _ _ => rfl)))) a0j)))), ?_⟩
 have e : (xs.map nv).map (fun v => match v with | .int i => nv (ys.getD i.toNat 0) | v => v) = (beh xs ys).map nv := by
  unfold beh
  rw [a1T, a1T]
  rfl
 refine ⟨_, rfl, a, rfl, ⟨_, SqT.of ha⟩, a8v (f := fun v => match v with | .int i => nv (ys.getD i.toNat 0) | v => v) (by rw [a0D]; exact small hz) (SqT.of ha) (fun v Q hv q => ?_) (fun p hp => ?_)⟩
 ·obtain ⟨x, hx, rfl⟩ := a0M.mp hv
  exact ⟨_, rfl, _, rfl, b, _, _, _, rfl, rfl, SqT.of hb, c0x (hlt x hx), q⟩
 ·rw [e]
  exact ⟨p, _, rfl, .inl ⟨SqL.of a0a, fun t ht => q t _ ((a0c hp _).trans (a0c ht _)) a0a⟩⟩
end
def a5z (n : Nat) : Nat -> List (List Nat)
 | 0 => [[]]
 | k + 1 => (a5z n k).flatMap fun x => (List.range n).map fun r => x ++ [r]
theorem mem_mapsU {n : Nat} : ∀ {k : Nat} {x : List Nat}, x ∈ a5z n k ↔ x.length = k /\ ∀ r ∈ x, r < n
 | 0, x => by
  show x ∈ [[]] ↔ _
  rw [a0F]
  constructor
  ·rintro rfl
   exact ⟨rfl, fun r hr => nomatch hr⟩
  ·rintro ⟨h, _⟩
   exact a2V.mp h
 | k + 1, x => by
  show x ∈ (a5z n k).flatMap _ ↔ _
  rw [List.mem_flatMap]
  constructor
  ·rintro ⟨y, hy, hx⟩
   obtain ⟨r, hr, rfl⟩ := a0M.mp hx
   obtain ⟨h1, h2⟩ := mem_mapsU.mp hy
   refine ⟨by simp [h1], fun z hz => ?_⟩
   rcases a0K.mp hz with m | m
   ·exact h2 z m
   ·rw [a0F.mp m]
    exact a2G.mp hr
  ·rintro ⟨h1, h2⟩
   have ne : x ≠ [] := fun z => by rw [z] at h1; cases h1
   refine ⟨x.dropLast, mem_mapsU.mpr ⟨by rw [List.length_dropLast, h1]; rfl, fun r hr => h2 r (List.dropLast_subset _ hr)⟩, a0M.mpr ⟨x.getLast ne, a2G.mpr (h2 _ (List.getLast_mem ne)), a8L ne⟩⟩
theorem a9l {n : Nat} : ∀ k, (a5z n k).length = n ^ k
 | 0 => rfl
 | k + 1 => by
  show ((a5z n k).flatMap _).length = _
  rw [List.length_flatMap]
  have z : ∀ l : List (List Nat), (l.map fun x => ((List.range n).map fun r => x ++ [r]).length).sum = l.length * n := by
   intro l
   induction l with
   | nil => simp
   | cons a l ih => rw [a2M, List.sum_cons, ih, a0D, a4W, a4O, Nat.succ_mul, a9T]
  rw [z, a9l k, Nat.pow_succ]
theorem c3c {n : Nat} (h : n <= 5) : (a5z n n).length <= 4000 := by
 rw [a9l]
 have z : ∀ k : Fin 6, (k : Nat) ^ (k : Nat) <= 4000 := by decide
 exact z ⟨n, by lia⟩
theorem b5p (n : Nat) : List.range n ∈ a5z n n := mem_mapsU.mpr ⟨a4W, fun r hr => a2G.mp hr⟩
def gl (t : List Nat) : Int := -((t.length : Nat) : Int)
def a4w (acc : List (List Nat)) (t : List Nat) : List (List Nat) := if acc.contains t then acc else acc ++ [t]
def uniq (ts : List (List Nat)) : List (List Nat) := ts.foldl a4w []
theorem c3d (ts : List (List Nat)) (t : List Nat) : uniq (ts ++ [t]) = a4w (uniq ts) t := by
 unfold uniq
 rw [a3U]
 rfl
theorem b9k {acc : List (List Nat)} {t x : List Nat} : x ∈ a4w acc t ↔ x ∈ acc ∨ x = t := by
 unfold a4w
 by_cases h : acc.contains t = true
 ·rw [if_pos h]
  constructor
  ·exact .inl
  ·rintro (h1 | rfl)
   ·exact h1
   ·exact a1G.mp h
 ·rw [if_neg h, a0K, a0F]
theorem b3y {acc : List (List Nat)} {t : List Nat} (nd : acc.Nodup) : (a4w acc t).Nodup := by
 unfold a4w
 by_cases h : acc.contains t = true
 ·rw [if_pos h]
  exact nd
 ·rw [if_neg h, a6L]
  refine ⟨nd, by simp, fun x hx y hy z => h (List.contains_iff_mem.mpr ?_)⟩
  rw [<- a0F.mp hy, <- z]
  exact hx
theorem b5q (ts : List (List Nat)) : (uniq ts).Nodup /\ ∀ x, x ∈ uniq ts ↔ x ∈ ts := by
 have go : ∀ (ts acc : List (List Nat)), acc.Nodup -> (ts.foldl a4w acc).Nodup /\ ∀ x, x ∈ ts.foldl a4w acc ↔ x ∈ acc ∨ x ∈ ts := by
  intro ts
  induction ts with
  | nil => intro acc nd; exact ⟨nd, fun x => by simp⟩
  | cons t ts ih =>
   intro acc nd
   obtain ⟨h1, h2⟩ := ih (a4w acc t) (b3y nd)
   refine ⟨h1, fun x => ?_⟩
   rw [a9S, h2 x, b9k, a1H, or_assoc]
 obtain ⟨h1, h2⟩ := go ts [] a9J
 exact ⟨h1, fun x => by rw [show uniq ts = ts.foldl a4w [] from rfl, h2 x]; simp⟩
theorem c3e {kvs : List (List Key × V)} {us : List (List Nat)} {t : List Nat} {v : V} (h : kvs.map (·.1) = us.map nk) : (b2f kvs (nk t) v).map (·.1) = (a4w us t).map nk := by
 have e : (kvs.any fun kv => decide (kv.1 = nk t)) = us.contains t := by
  rw [a2W, a8C, a1G]
  constructor
  ·rintro ⟨kv, h1, h2⟩
   have m : kv.1 ∈ us.map nk := by rw [<- h]; exact a0M.mpr ⟨kv, h1, rfl⟩
   obtain ⟨u, hu, eu⟩ := a0M.mp m
   have z := b0g (eu.trans (a1X h2))
   rw [<- z]
   exact hu
  ·intro ht
   have m : nk t ∈ kvs.map (·.1) := by rw [h]; exact a0M.mpr ⟨t, ht, rfl⟩
   obtain ⟨kv, h1, h2⟩ := a0M.mp m
   exact ⟨kv, h1, a0Y h2⟩
 unfold b2f a4w
 rw [e]
 by_cases c : us.contains t = true
 ·rw [if_pos c, if_pos c, <- h, a1T]
  refine a2D fun kv _ => ?_
  show (if kv.1 = nk t then (kv.1, v) else kv).1 = kv.1
  split <;> rfl
 ·rw [if_neg c, if_neg c, a1M, a1M, h]
  rfl
theorem a4u {α : Type} {lt : α -> α -> Bool} (ir : ∀ x, lt x x = false) (tr : ∀ x y z, lt x y = true -> lt y z = true -> lt x z = true) : ∀ {us vs : List α}, us.Pairwise (fun x y => lt x y = true) -> vs.Pairwise (fun x y => lt x y = true) -> (∀ x, x ∈ us ↔ x ∈ vs) -> us = vs
 | [], [], _, _, _ => rfl
 | [], q :: vs, _, _, h => absurd ((h q).mpr (a0S ..)) (by simp)
 | p :: us, [], _, _, h => absurd ((h p).mp (a0S ..)) (by simp)
 | p :: us, q :: vs, h1, h2, h => by
  obtain ⟨p1, p2⟩ := List.pairwise_cons.mp h1
  obtain ⟨q1, q2⟩ := List.pairwise_cons.mp h2
  have no : ∀ {x y : α}, lt x y = true -> lt y x = true -> False := fun {x y} a b => by
   have := tr _ _ _ a b
   rw [ir] at this
   cases this
  have pq : p = q := by
   rcases a1H.mp ((h p).mp (a0S ..)) with e | e
   ·exact e
   ·rcases a1H.mp ((h q).mpr (a0S ..)) with e' | e'
    ·exact e'.symm
    ·exact (no (q1 p e) (p1 q e')).elim
  subst pq
  have rest : us = vs := a4u ir tr p2 q2 fun r => by
   constructor
   ·intro hr
    rcases a1H.mp ((h r).mp (a0V _ hr)) with e | e
    ·subst e
     have := p1 r hr
     rw [ir] at this
     cases this
    ·exact e
   ·intro hr
    rcases a1H.mp ((h r).mpr (a0V _ hr)) with e | e
    ·subst e
     have := q1 r hr
     rw [ir] at this
     cases this
    ·exact e
  rw [rest]
def b3z : Sp := fun vs H Q _ => ∃ (l : Addr) (as : List Addr) (ts U : List (List Nat)), vs = [.ref l] /\ H l = some (.lst (as.map .ref)) /\ TupsAt H as ts /\ (∀ t ∈ ts, t ∈ U) /\ U.length < 64 /\ ts.length <= 4000 /\
 ∀ D bs us H', Same H H' -> H D = none -> H' D = some (.lst (bs.map .ref)) -> TupsAt H' bs us -> (∀ x, x ∈ us ↔ x ∈ ts) -> us.Pairwise (fun x y => a5j gl x y = true) -> Q (.ref D) H'
section
variable {P : Program} {w : World} {K : W.Frag} {mg : Str -> Option Value} {base : Heap} {f : Addr} {fd : FuncData}
theorem c6g (F : Fun K "place_of" "place_of" a5s f fd) (m_len : mg "len" = none) : FnOk P w K mg base CX0 1 f fd ["rooms"] (b8x gl) := by
 refine F.ok c2x (fun vs H Q E h => ?_) (fun cdv A outer s H vs Q E hr h => ?_)
 ·obtain ⟨a, t, rfl, _⟩ := h
  rfl
 obtain ⟨a, t, rfl, ha, q⟩ := h
 refine ⟨_, (a0i (a1b (c0c (a2a (a0e (pe_un d0s (a0v a0t rfl m_len a6B (a0g (pv 0) a0j))) (a0e (pv 0) a1c rfl) rfl))))), ?_⟩
 refine ⟨_, rfl, a, _, rfl, .inr (SqT.of ha), _, rfl, _, rfl, by show 2 <= sizeLine; decide, fun κ hκ => ?_⟩
 refine q κ _ (a0c hκ _) ?_
 rw [a0a, a0D]
 rfl
theorem b5r (F : Fun K "in_order" "in_order" a5t f fd) (c_place_of : a0l P w K mg base "place_of" 1 ["rooms"] (b8x gl)) (m_sorted : mg "sorted" = none) : FnOk P w K mg base CX0 5 f fd ["sets"] b3z := by
 refine F.ok scInOrder (fun vs H Q E h => ?_) (fun cdv A outer s H vs Q E hr h => ?_)
 ·obtain ⟨l, as, ts, U, rfl, _⟩ := h
  rfl
 obtain ⟨l, as, ts, U, rfl, hl, T, inU, few, few2, q⟩ := h
 have hu := hr.units
 have hu1 := a8r hr
 refine ⟨_, (a0f (a0r (i := 1) scInOrder.nd rfl (Or.inl rfl) b0y) (a0f (a3w a2E rfl (a1v (pv 0)) (a1y (i := 2) scInOrder.nd rfl (Or.inl rfl)) (a0i (a8t hu1 (pv 1) (pv 2) b8c rfl))) (a0i (a1b (c5y rfl hu c_place_of (hr.mono (by decide)) rfl m_sorted rfl (pv 1)))))), ?_⟩
 intro d hd
 have kd := a0c hd (.dT [])
 have la := T.len
 obtain ⟨un, um⟩ := b5q ts
 refine ⟨_, rfl, l, rfl, ⟨_, SqL.of (kd _ _ hl)⟩, a3x (xs := as.map .ref) (fun i σ H' => Same H H' /\ ∃ kvs o, H' d = some (.dT kvs) /\ kvs.map (·.1) = (uniq (ts.take i)).map nk /\ σ = [some (.ref l), some (.ref d), o]) ⟨kd, [], none, a0a, rfl, rfl⟩ (fun i σ H' _ p => SqL.of (p.1 _ _ hl)) (fun i x σ H' hx p => ?_) (fun σ H' p => ?_)⟩
 ·obtain ⟨g, kvs, o, ed, ek, rfl⟩ := p
  rw [a0E] at hx
  obtain ⟨a, ea, rfl⟩ := a0O.mp hx
  have li := (a0B.mp ea).1
  obtain ⟨t, et⟩ : ∃ t, ts[i]? = some t := ⟨_, a0A (by lia)⟩
  have ha := g _ _ (T.is i a t ea et)
  have lk : kvs.length <= ts.length := by
   rw [<- a0D (f := (·.1)) (as := kvs), ek, a0D]
   refine a1A (a6t (b5q _).1 (U := ts) fun x hx => ?_) (a0N _)
   exact a4S (((b5q _).2 x).mp hx)
  refine ⟨_, rfl, _, rfl, d, _, rfl, DPut.t ed (by rw [a5y]; exact ha) (by rw [a1B]; lia), ?_⟩
  refine ⟨a1t g hd, _, _, a0a, ?_, rfl⟩
  rw [c3e ek, a2O, et]
  show _ = (uniq (ts.take i ++ [t])).map nk
  rw [c3d]
 ·obtain ⟨g, kvs, o, ed, ek, rfl⟩ := p
  rw [a0D, la, a2B] at ek
  have lu : (uniq ts).length < 64 := a5Z (a6t un fun x hx => inU x ((um x).mp hx)) few
  refine ⟨_, rfl, d, rfl, d, kvs, uniq ts, rfl, ed, ek, lu, fun D bs us H2 g2 hD eD T2 perm pw => ?_⟩
  exact q D bs us H2 (g.trans g2) (g.free hD) eD T2 (fun x => (perm.mem_iff).trans (um x)) pw
end
def PicsAt (H : Hp) (l : Addr) (as : List Addr) (ws : TW) : Prop := H l = some (.lst (as.map .ref)) /\ as.length = ws.length /\ ∀ (j : Nat) (a : Addr) (p : List Nat × List Nat), as[j]? = some a -> ws[j]? = some p -> ∃ b c, c ≠ l /\ H a = some (.tup [.ref b, .ref c]) /\ H b = some (.tup (p.1.map nv)) /\ H c = some (.lst (p.2.map nv))
def b0o (T : Addr) (pos : Pos) : Sp := fun vs H Q _ => ∃ (m : Addr) (ts : List (List Nat)) (n : Nat), vs = [.ref m] /\ Mach H m ts n /\ Tabs H /\
 ∀ l as ws H', Keeps H H' -> Tabs H' -> PicsAt H' l as ws -> Told (a0k ts) ts.length (List.range n) ws -> Q (.ref l) H'
def dtN (xs : List Nat) : List Dt := (xs.map fun (n : Nat) => (n : Int)).map Dt.int
theorem b5s {xs ys : List Nat} (h : dtN xs = dtN ys) : xs = ys := dt_natsT.mp (a2C Dt.tup h)
theorem a9m {n : Nat} (h : n <= 5) : List.range n ∈ a1g n := by
 have z : ∀ k : Fin 6, a1o (List.range k) = List.range k := by decide +kernel
 exact mem_setsU.mpr ⟨z ⟨n, by lia⟩, fun r hr => a2G.mp hr⟩
section
variable {P : Program} {w : World} {K : W.Frag} {mg : Str -> Option Value} {base : Heap} {f : Addr} {fd : FuncData}
theorem b5t {T : Addr} (F : Fun K "pictures" "pictures" a4i f fd) (c_still : a0l P w K mg base "still" 1 ["rooms"] b5o) (c_sets_reached : a0l P w K mg base "sets_reached" 10 ["machine", "rooms"] (a4t T (⟨46, 40, 46, 93⟩ : Pos))) (m_len : mg "len" = none) (m_list : mg "list" = none) :
  FnOk P w K mg base CX0 12 f fd ["machine"] (b0o T (⟨46, 40, 46, 93⟩ : Pos)) := by
 refine F.ok scPictures (fun vs H Q E h => ?_) (fun cdv A outer s H vs Q E hr h => ?_)
 ·obtain ⟨m, ts, n, rfl, _⟩ := h
  rfl
 obtain ⟨m, ts, n, rfl, M, hT, q⟩ := h
 have t1 := M.some1
 have n5 := M.n5
 obtain ⟨_, r0, b1, b2, b3, b4, b5, b6⟩ := M.at (l := 0) (by lia)
 refine ⟨_, (a0f (a0r (i := 1) scPictures.nd rfl (Or.inl rfl) (a0m c_sets_reached (hr.mono (by decide)) rfl (a2a (a0e (pv 0) (a0e (a0m c_still (hr.mono (by decide)) rfl (a0g (a0v a0t rfl m_len a6B (a0g (a1x a2k (pv 0) a0q (fun _ _ => rfl)) a0j)) a0j)) a1c rfl) rfl)))) (a0i (a1b (a1a (a9e rfl) rfl m_list boot_list (a0g (d0y PySem.F.plainAttrs_dict PySem.F.slot_dict_items PySem.F.type_dict_items c5r (pv 1)) a0j))))), ?_⟩
 refine ⟨_, rfl, _, rfl, m, _, _, _, rfl, rfl, SqT.of b1, b3, r0, _, rfl, .inr (SqT.of b4), ?_⟩
 try dsimp only
 rw [a0D, b5]
 refine ⟨n, rfl, by lia, fun st H1 g1 e1 => ⟨m, st, ts, n, List.range n, rfl, M.same g1, e1, a9m n5, hT.same g1, fun D ws as H2 k2 T2 W _ TT => ?_⟩⟩
 refine ⟨_, rfl, .inr (.inr (.inl ⟨rfl, .inr ⟨_, W.dict⟩⟩)), rfl, D, _, rfl, W.dict, fun v hv => ?_⟩
 have kv := a0c hv (c1x v D)
 refine ⟨v, D, _, rfl, a0a, kv _ _ W.dict, fun l ps H3 Ls => ?_⟩
 have k3 : Same (upd H2 v (c1x v D)) H3 := fun b o hb => by
  rw [Ls.rest b (a0h hb Ls.new) fun z => by rw [Ls.news b z] at hb; cases hb]
  exact hb
 have kk : Same H2 H3 := kv.trans k3
 refine q l ps ws H3 ((g1.keeps.trans k2).trans kk.keeps) (T2.same kk) ⟨Ls.lst, by rw [Ls.len, c1y W.len], fun j a p e1 e2 => ?_⟩ TT
 obtain ⟨k, x, b, f1, f2, f3⟩ := Ls.is j a e1
 obtain ⟨hj, _⟩ := a0B.mp e2
 obtain ⟨c, ec⟩ : ∃ c, as[j]? = some c := ⟨_, a0A (by rw [W.len]; exact hj)⟩
 rw [d1v e2 ec] at f1
 cases f1
 have hc := kv _ _ (W.list j c p ec e2)
 rw [a5y] at f2
 exact ⟨b, c, a0h hc Ls.new, f3, k3 _ _ f2, k3 _ _ hc⟩
end
theorem b4a {xs ys : List Nat} (h : ∀ r, r ∈ xs ↔ r ∈ ys) : a1o xs = a1o ys := by
 unfold a1o
 refine a6P fun i _ => ?_
 rw [a2W, a1G, a1G]
 exact h i
theorem a7p {H : Hp} {m : Addr} {ts : List (List Nat)} {n : Nat} (M : Mach H m ts n) {x : List Nat} {l : Nat} (hx : x ∈ a1g n) (hl : l < ts.length) : a0k ts x l ∈ a1g n := by
 obtain ⟨x1, x2⟩ := mem_setsU.mp hx
 refine mem_setsU.mpr ⟨b3x _, fun r hr => ?_⟩
 obtain ⟨y, h4, rfl⟩ := a0M.mp (a5v hr)
 exact a3s M [l] y (x2 y h4) fun z hz => by rw [a0F.mp hz]; exact hl
theorem a3t {H : Hp} {m : Addr} {ts : List (List Nat)} {n : Nat} (M : Mach H m ts n) : ∀ (word : List Nat) (x : List Nat), x ∈ a1g n -> (∀ l ∈ word, l < ts.length) -> a0z (a0k ts) x word = a1o (a7z ts x word)
 | [], x, hx, _ => by
  show x = a1o (x.map fun r => a3d ts r [])
  rw [show (fun r => a3d ts r []) = id from rfl, List.map_id]
  exact (mem_setsU.mp hx).1.symm
 | l :: word, x, hx, h => by
  have hl := h l (a0S ..)
  have n5 := M.n5
  show a0z (a0k ts) (a0k ts x l) word = _
  rw [a3t M word _ (a7p M hx hl) fun y hy => h y (a0V _ hy)]
  refine b4a fun r => ?_
  unfold a7z
  rw [a0M, a0M]
  constructor
  ·rintro ⟨y, hy, rfl⟩
   obtain ⟨z, hz, rfl⟩ := a0M.mp (a5v hy)
   exact ⟨z, hz, rfl⟩
  ·rintro ⟨z, hz, rfl⟩
   have zl := a3s M [l] z ((mem_setsU.mp hx).2 z hz) fun y hy => by rw [a0F.mp hy]; exact hl
   exact ⟨a3d ts z [l], b1s (a0M.mpr ⟨z, hz, rfl⟩) (by lia), rfl⟩
theorem a6l {α : Type} {P : Nat -> α -> Prop} : ∀ {n : Nat}, (∀ j, j < n -> ∃ x, P j x) -> ∃ xs : List α, xs.length = n /\ ∀ (j : Nat) (x : α), xs[j]? = some x -> P j x
 | 0, _ => ⟨[], rfl, fun j x e => by simp at e⟩
 | n + 1, h => by
  obtain ⟨xs, h1, h2⟩ := a6l (n := n) fun j hj => h j (by lia)
  obtain ⟨x, hx⟩ := h n (by lia)
  refine ⟨xs ++ [x], by simp [h1], fun j y e => ?_⟩
  by_cases hj : j < n
  ·rw [a0P (by lia)] at e
   exact h2 j y e
  ·rw [a0T (by lia)] at e
   have z : j - xs.length = 0 := by
    have := (a0B.mp e).1
    simp at this
    lia
   rw [z] at e
   cases e
   have jn : j = n := by lia
   subst jn
   exact hx
structure Prs (H : Hp) (l : Addr) (as : List Addr) (bc : List (Addr × Addr)) (ws : TW) : Prop where
 lst : H l = some (.lst (as.map .ref))
 la : as.length = ws.length
 lb : bc.length = ws.length
 is : ∀ (j : Nat) (a : Addr) (q : Addr × Addr) (p : List Nat × List Nat), as[j]? = some a -> bc[j]? = some q -> ws[j]? = some p -> q.2 ≠ l /\ H a = some (.tup [.ref q.1, .ref q.2]) /\ H q.1 = some (.tup (p.1.map nv)) /\ H q.2 = some (.lst (p.2.map nv))
theorem PicsAt.prs {H : Hp} {l : Addr} {as : List Addr} {ws : TW} (h : PicsAt H l as ws) : ∃ bc, Prs H l as bc ws := by
 obtain ⟨h1, h2, h3⟩ := h
 obtain ⟨bc, e1, e2⟩ := a6l (n := ws.length) (P := fun j (q : Addr × Addr) => ∀ a p, as[j]? = some a -> ws[j]? = some p -> q.2 ≠ l /\ H a = some (.tup [.ref q.1, .ref q.2]) /\ H q.1 = some (.tup (p.1.map nv)) /\ H q.2 = some (.lst (p.2.map nv))) fun j hj => by
  obtain ⟨a, ea⟩ : ∃ a, as[j]? = some a := ⟨_, a0A (by lia)⟩
  obtain ⟨p, ep⟩ : ∃ p, ws[j]? = some p := ⟨_, a0A hj⟩
  obtain ⟨b, c, f0, f1, f2, f3⟩ := h3 j a p ea ep
  refine ⟨(b, c), fun a' p' ea' ep' => ?_⟩
  rw [ea] at ea'
  rw [ep] at ep'
  cases ea'
  cases ep'
  exact ⟨f0, f1, f2, f3⟩
 exact ⟨bc, h1, h2, e1, fun j a q p ea eb ep => e2 j q eb a p ea ep⟩
theorem Prs.at {H : Hp} {l : Addr} {as : List Addr} {bc : List (Addr × Addr)} {ws : TW} (h : Prs H l as bc ws) {j : Nat} (hj : j < ws.length) : ∃ a q p, as[j]? = some a /\ bc[j]? = some q /\ ws[j]? = some p /\ q.2 ≠ l /\ H a = some (.tup [.ref q.1, .ref q.2]) /\ H q.1 = some (.tup (p.1.map nv)) /\ H q.2 = some (.lst (p.2.map nv)) := by
 have h1 := h.la
 have h2 := h.lb
 obtain ⟨a, ea⟩ : ∃ a, as[j]? = some a := ⟨_, a0A (by lia)⟩
 obtain ⟨q, eq⟩ : ∃ q, bc[j]? = some q := ⟨_, a0A (by lia)⟩
 obtain ⟨p, ep⟩ : ∃ p, ws[j]? = some p := ⟨_, a0A hj⟩
 exact ⟨a, q, p, ea, eq, ep, h.is j a q p ea eq ep⟩
def Pic (ts : List (List Nat)) (n : Nat) (x : List Nat) : Prop := ∃ word : List Nat, (∀ l ∈ word, l < ts.length) /\ a0z (a0k ts) (List.range n) word = x
structure FamOf (ts : List (List Nat)) (n : Nat) (us : List (List Nat)) : Prop where
 up : us.Pairwise fun x y => a5j gl x y = true
 mem : ∀ x, x ∈ us ↔ (Pic ts n x ∨ ∃ r, r < n /\ x = [r])
theorem FamOf.uniq {ts : List (List Nat)} {n : Nat} {us vs : List (List Nat)} (h1 : FamOf ts n us) (h2 : FamOf ts n vs) : us = vs := a4u (a3a gl us).irr (a3a gl us).trans h1.up h2.up fun x => (h1.mem x).trans (h2.mem x).symm
theorem b1u {ts : List (List Nat)} {n : Nat} {ws : TW} (T : Told (a0k ts) ts.length (List.range n) ws) (x : List Nat) : x ∈ ws.map (·.1) ↔ Pic ts n x := by
 constructor
 ·intro h
  obtain ⟨p, hp, rfl⟩ := a0M.mp h
  obtain ⟨r1, r2⟩ := T.run p hp
  exact ⟨p.2, r1, r2⟩
 ·rintro ⟨word, h1, rfl⟩
  obtain ⟨u, h2, _⟩ := T.least _ word rfl h1
  exact a0M.mpr ⟨_, h2, rfl⟩
theorem b4b {n r : Nat} (n5 : n <= 5) (h : r < n) : [r] ∈ a1g n := by
 have z : ∀ k : Fin 5, a1o [(k : Nat)] = [(k : Nat)] := by decide +kernel
 exact mem_setsU.mpr ⟨z ⟨r, by lia⟩, fun x hx => by rw [a0F.mp hx]; exact h⟩
theorem c3f {H : Hp} {m : Addr} {ts : List (List Nat)} {n : Nat} (M : Mach H m ts n) {x : List Nat} (h : Pic ts n x) : x ∈ a1g n := by
 obtain ⟨word, h1, rfl⟩ := h
 exact a6g (a9m M.n5) (fun y hy l hl => a7p M hy hl) word h1
theorem a9n (n : Nat) : (a1g n).length <= 32 := a1A (a1R _ _) (by rw [a0D, a4W]; decide)
theorem FamOf.inU {H : Hp} {m : Addr} {ts : List (List Nat)} {n : Nat} {us : List (List Nat)} (M : Mach H m ts n) (h : FamOf ts n us) {x : List Nat} (hx : x ∈ us) : x ∈ a1g n := by
 rcases (h.mem x).mp hx with z | ⟨r, hr, rfl⟩
 ·exact c3f M z
 ·exact b4b M.n5 hr
theorem FamOf.few {H : Hp} {m : Addr} {ts : List (List Nat)} {n : Nat} {us : List (List Nat)} (M : Mach H m ts n) (h : FamOf ts n us) : us.length <= 32 := by
 refine a1A (a6t (U := a1g n) ?_ fun x hx => h.inU M hx) (a9n n)
 exact h.up.imp fun {a b} z e => by
  subst e
  rw [(a3a gl us).irr] at z
  cases z
theorem a3b {n : Nat} (n5 : n <= 5) {x : List Nat} (h : x ∈ a1g n) : x.length <= n := by
 obtain ⟨x1, x2⟩ := mem_setsU.mp h
 rw [<- x1, b9h n5 x2]
 exact a1A (a1R _ _) (by simp)
theorem a7b {H : Hp} {d : Addr} {o o' : HO} {bs : List Addr} {us : List (List Nat)} (T : TupsAt H bs us) (h : H d = some o) (no : ∀ xs, o ≠ .tup xs) : TupsAt (upd H d o') bs us := ⟨T.len, fun i b u e1 e2 => by
 have z := T.is i b u e1 e2
 rw [a0d (a1n z h fun e => no _ e.symm)]
 exact z⟩
theorem a4j {H : Hp} {bs : List Addr} {us : List (List Nat)} {p : Addr} {u : List Nat} (h : TupsAt H bs us) (hp : H p = some (.tup (u.map nv))) : TupsAt H (bs ++ [p]) (us ++ [u]) := by
 refine ⟨by simp [h.len], fun i b v e1 e2 => ?_⟩
 have l := h.len
 by_cases hi : i < us.length
 ·rw [a0P (by lia)] at e1 e2
  exact h.is i b v e1 e2
 ·rw [a0T (by lia)] at e1 e2
  have z : i - us.length = 0 := by
   have := (a0B.mp e2).1
   simp at this
   lia
  rw [l, z] at e1
  rw [z] at e2
  cases e1
  cases e2
  exact hp
theorem c6h {H : Hp} {bs cs : List Addr} {us vs : List (List Nat)} (h : TupsAt H bs us) (h' : TupsAt H cs vs) : TupsAt H (bs ++ cs) (us ++ vs) := by
 refine ⟨by simp [h.len, h'.len], fun i b v e1 e2 => ?_⟩
 have l := h.len
 by_cases hi : i < us.length
 ·rw [a0P (by lia)] at e1 e2
  exact h.is i b v e1 e2
 ·rw [a0T (by lia)] at e1 e2
  rw [l] at e1
  exact h'.is _ b v e1 e2
theorem b7l {K : W.Frag} {H : Hp} {l : Addr} {bs : List Addr} {us : List (List Nat)} (h1 : H l = some (.lst (bs.map .ref))) (T : TupsAt H bs us) : Rep K H 2 (.lst (us.map fun u => .tup (dtN u))) (.ref l) := by
 refine .lst (SqL.of h1) (by rw [a0D, a0D, T.len]) fun i d v e1 e2 => ?_
 rw [a0E] at e1 e2
 obtain ⟨p, ep, rfl⟩ := a0O.mp e1
 obtain ⟨a, ea, rfl⟩ := a0O.mp e2
 exact a4x (SqT.of (T.is i a p ea ep))
theorem c3g {us vs : List (List Nat)} (h : (Dt.lst (us.map fun u => .tup (dtN u))) = Dt.lst (vs.map fun u => .tup (dtN u))) : us = vs := by
 injection h with h
 exact a6c (fun a b e => by injection e with e; exact b5s e) h
def b1v (T : Addr) (pos : Pos) : Sp := fun vs H Q _ => ∃ (m : Addr) (ts : List (List Nat)) (n : Nat), vs = [.ref m] /\ Mach H m ts n /\ Tabs H /\
 ∀ D bs us H', Keeps H H' -> Tabs H' -> L2.noT H D = none -> H' D = some (.lst (bs.map .ref)) -> TupsAt H' bs us -> FamOf ts n us -> Q (.ref D) H'
section
variable {P : Program} {w : World} {K : W.Frag} {mg : Str -> Option Value} {base : Heap} {f : Addr} {fd : FuncData}
theorem c3h {T : Addr} (F : Fun K "family" "family" a4r f fd) (c_pictures : a0l P w K mg base "pictures" 12 ["machine"] (b0o T (⟨46, 40, 46, 93⟩ : Pos))) (c_in_order : a0l P w K mg base "in_order" 5 ["sets"] b3z) (m_len : mg "len" = none) (m_range : mg "range" = none) : FnOk P w K mg base CX0 14 f fd ["machine"] (b1v T (⟨46, 40, 46, 93⟩ : Pos)) := by
 refine F.ok scFamily (fun vs H Q E h => ?_) (fun cdv A outer s H vs Q E hr h => ?_)
 ·obtain ⟨m, ts, n, rfl, _⟩ := h
  rfl
 obtain ⟨m, ts, n, rfl, M, hT, q⟩ := h
 have t1 := M.some1
 have n1 := M.n1
 have n5 := M.n5
 obtain ⟨_, r0, b1, b2, b3, b4, b5, b6⟩ := M.at (l := 0) (by lia)
 refine ⟨_, (a0f (b6j (CompSc.to (N := ["machine", "singles"]) (osc := a0b a4r) (vs := ["room"]) {}) rfl rfl scFamily.nd (j := 1) rfl rfl (a3k rfl m_range (a0g (a0v a0t rfl m_len a6B (a0g (a1x a2k (pv 0) a0q (fun _ _ => rfl)) a0j)) a0j)) (fun _ _ _ _ => a2t) (fun _ _ _ _ => (c0c (a0g (pv 0) a0j)))) (a0i (a1b (a0m c_in_order (hr.mono (by decide)) rfl (a0g (a4l c1a (c0u (CompSc.to (N := ["machine", "singles"]) (osc := a0b a4r) (vs := ["rooms", "word"]) {}) rfl (a1v (a0m c_pictures (hr.mono (by decide)) rfl (a0g (pv 0) a0j))) (c9b (CompSc.to (N := ["machine", "singles"]) (osc := a0b a4r) (vs := ["rooms", "word"]) {}) rfl rfl rfl) (fun _ _ _ _ => a2t) (fun _ _ _ _ => (pv 0))) (pv 1)) a0j))))), ?_⟩
 refine ⟨_, rfl, m, _, _, _, rfl, rfl, SqT.of b1, b3, r0, _, rfl, .inr (SqT.of b4), (n : Int), by rw [a0D, b5], by lia, by lia, a7i (fun i ys H' => Same H H' /\ ∃ rs, ys = rs.map V.ref /\ rs.length = i /\ TupsAt H' rs ((List.range i).map fun r => [r])) (by rw [a2I]; exact small (by lia)) ⟨Same.refl _, [], rfl, rfl, rfl, fun i b u e => by simp at e⟩ (fun i ys H' _ p => ?_) (fun i ys H' hi p => ?_) (fun ys H1 p sg hsg => ?_)⟩
 ·obtain ⟨_, rs, rfl, e, _⟩ := p
  rw [a0D]
  lia
 ·obtain ⟨g, rs, rfl, e, T1⟩ := p
  have e0 : V.int (0 + (i : Int)) = nv i := by show V.int (0 + (i : Int)) = V.int (i : Int); rw [b0E]
  refine ⟨a1w, a6q ⟨_, rfl, by show 1 <= sizeLine; decide, fun p hp => ?_⟩⟩
  have k := a0c hp (.tup [V.int (0 + (i : Int))])
  refine ⟨g.trans k, rs ++ [p], by simp, by simp [e], ?_⟩
  rw [List.range_succ, a1M]
  refine a4j (T1.same k) ?_
  rw [a0a, e0]
  rfl
 obtain ⟨g1, rs, rfl, er, T1⟩ := p
 rw [a2I] at T1 er
 have k1 := a0c hsg (.lst (rs.map V.ref))
 have esg : upd H1 sg (.lst (rs.map V.ref)) sg = some (.lst (rs.map V.ref)) := a0a
 have T2 := T1.same k1
 have g2 := g1.trans k1
 generalize upd H1 sg (.lst (rs.map V.ref)) = H2 at k1 esg T2 g2 ⊢
 refine ⟨_, rfl, m, ts, n, rfl, M.same g2, hT.same g2, fun l as ws H3 k3 T3 pic TT => ?_⟩
 obtain ⟨bc, pr⟩ := pic.prs
 have fine := (M.same g2)
 have few : ws.length <= 32 := by
  rw [<- a0D (f := (·.1)) (as := ws)]
  exact a1A (a6t TT.keys fun x hx => c3f M ((b1u TT x).mp hx)) (a9n n)
 refine ⟨l, rfl, ⟨_, SqL.of pr.lst⟩, a2f (xs := as.map .ref) (fun i ys H' => H' = H3 /\ ∃ bs, ys = bs.map V.ref /\ bs.length = i /\ TupsAt H3 bs ((ws.take i).map (·.1))) (by rw [a0D, pr.la, a1B]; lia) ⟨rfl, [], rfl, rfl, rfl, fun i b u e => by simp at e⟩ (fun i ys H' _ p => ?_) (fun i v ys H' hv p => ?_) (fun ys H' p c1 hc1 => ?_)⟩
 ·obtain ⟨rfl, bs, rfl, e, _⟩ := p
  exact ⟨SqL.of pr.lst, by rw [a0D]; lia⟩
 ·obtain ⟨rfl, bs, rfl, e, T4⟩ := p
  rw [a0E] at hv
  obtain ⟨a1, ea, rfl⟩ := a0O.mp hv
  obtain ⟨a', q', p', ea', eq', ep', f0, f1, f2, f3⟩ := pr.at (j := i) (by have := (a0B.mp ea).1; rw [<- pr.la]; exact this)
  rw [ea] at ea'
  cases ea'
  refine ⟨a1, _, rfl, SqT.of f1, rfl, _, _, rfl, _, _, rfl, rfl, c4v, a6q ⟨_, rfl, rfl, bs ++ [q'.1], by simp, by simp [e], ?_⟩⟩
  rw [a2O, ep', a1M]
  exact a4j T4 f2
 obtain ⟨rfl, bs, rfl, e, T4⟩ := p
 rw [a0D, pr.la, a2B] at T4
 have kc := a0c hc1 (.lst (bs.map V.ref))
 have esg3 := kc _ _ (k3 _ _ (a0y esg fun _ e => nomatch e))
 have T5 : TupsAt (upd H' c1 (.lst (bs.map V.ref))) rs ((List.range n).map fun r => [r]) := ⟨T2.len, fun i b u e1 e2 => kc _ _ (k3 _ _ (a0y (T2.is i b u e1 e2) fun _ e => nomatch e))⟩
 have lb : bs.length = ws.length := by rw [T4.len, a0D]
 refine ⟨_, rfl, c1, sg, _, _, rfl, rfl, SqL.of a0a, SqL.of esg3, by rw [a0D, a0D, lb, er, a1B]; lia, fun l2 hl2 => ?_⟩
 have k2 := a0c hl2 (.lst (bs.map V.ref ++ rs.map V.ref))
 have T6 := (c6h (T4.same kc) T5).same k2
 refine ⟨l2, bs ++ rs, _, a1g n, rfl, by rw [a0a, a1M], T6, fun t ht => ?_, a5Z (a9n n) (by decide), by rw [a0Z, a0D, a0D, a4W]; lia, fun D ds us H5 g5 hD eD T7 mem up => ?_⟩
 ·rcases a0K.mp ht with z | z
  ·exact c3f M ((b1u TT t).mp z)
  ·obtain ⟨r, hr', rfl⟩ := a0M.mp z
   exact b4b n5 (a2G.mp hr')
 ·have kk : Keeps H H5 := ((g2.keeps.trans k3).trans (kc.trans k2).keeps).trans g5.keeps
  refine q D ds us H5 kk (T3.same ((kc.trans k2).trans g5)) ?_ eD T7 ⟨up, fun x => ?_⟩
  ·cases y : L2.noT H D with
   | none => rfl
   | some o =>
    have z := (kc.trans k2) _ _ ((g2.keeps.trans k3) _ _ y)
    rw [hD] at z
    cases z
  ·rw [mem x, a0K, b1u TT x]
   refine or_congr Iff.rfl ?_
   rw [a0M]
   constructor
   ·rintro ⟨r, h1, rfl⟩
    exact ⟨r, a2G.mp h1, rfl⟩
   ·rintro ⟨r, h1, rfl⟩
    exact ⟨r, a2G.mpr h1, rfl⟩
end
def sub (x y : List Nat) : Bool := x.all fun r => y.contains r
def c9y : Sp := fun vs H Q _ => ∃ (a b : Addr) (x y : List Nat), vs = [.ref a, .ref b] /\ H a = some (.tup (x.map nv)) /\ H b = some (.tup (y.map nv)) /\ x.length <= 5 /\ ∀ H', Same H H' -> Q (.bl (sub x y)) H'
def a2m (fam : List (List Nat)) (x : List Nat) : List (List Nat) := fam.filter fun u => decide (u ≠ x) && sub u x
def a3e (us : List (List Nat)) (u : List Nat) : Bool := us.any fun v => decide (v ≠ u) && sub u v
def a1k (fam : List (List Nat)) (x : List Nat) : List (List Nat) := (a2m fam x).filter fun u => !a3e (a2m fam x) u
def d2q : Sp := fun vs H Q _ => ∃ (a l : Addr) (x : List Nat) (bs : List Addr) (us : List (List Nat)), vs = [.ref a, .ref l] /\ H a = some (.tup (x.map nv)) /\ H l = some (.lst (bs.map .ref)) /\ TupsAt H bs us /\ x.length <= 5 /\ us.length <= 32 /\ ∀ H', Same H H' -> Q (.bl (a3e us x)) H'
def c3i (T : Addr) (pos : Pos) : Sp := fun vs H Q _ => ∃ (m p : Addr) (ts : List (List Nat)) (n : Nat) (x : List Nat), vs = [.ref m, .ref p] /\ Mach H m ts n /\ H p = some (.tup (x.map nv)) /\ Tabs H /\
 ∀ D bs us fam H', Keeps H H' -> Tabs H' -> L2.noT H D = none -> H' D = some (.lst (bs.map .ref)) -> TupsAt H' bs us -> FamOf ts n fam -> us = a1k fam x -> Q (.ref D) H'
theorem a5n {H : Hp} {cs : List Addr} {us : List (List Nat)} {f : List Nat -> Bool} {i : Nat} {a : Addr} {t : List Nat} (T : TupsAt H cs ((us.take i).filter f)) (et : us[i]? = some t) (ha : H a = some (.tup (t.map nv))) : if f t = true then TupsAt H (cs ++ [a]) ((us.take (i + 1)).filter f) else TupsAt H cs ((us.take (i + 1)).filter f) := by
 have nx : (us.take (i + 1)).filter f = (us.take i).filter f ++ (if f t = true then [t] else []) := by
  rw [a2O, et, a6C]
  cases c : f t with
  | true => simp [c]
  | false => simp [c]
 rw [nx]
 cases c : f t with
 | true => exact a4j T ha
 | false =>
  rw [if_neg (by decide), if_neg (by decide), a2J]
  exact T
section
variable {P : Program} {w : World} {K : W.Frag} {mg : Str -> Option Value} {base : Heap} {f : Addr} {fd : FuncData}
theorem b9l (F : Fun K "lies_in" "lies_in" a6i f fd) (m_all : mg "all" = none) : FnOk P w K mg base CX0 1 f fd ["one", "other"] c9y := by
 refine F.ok c6c (fun vs H Q E h => ?_) (fun cdv A outer s H vs Q E hr h => ?_)
 ·obtain ⟨a, b, x, y, rfl, _⟩ := h
  rfl
 obtain ⟨a, b, x, y, rfl, ha, hb, l5, q⟩ := h
 refine ⟨_, (a0i (a1b (a0v (c1b rfl) rfl m_all boot_all (a0g (a1m (CompSc.to (N := ["one", "other"]) (osc := a0b a6i) (vs := ["room"]) {}) rfl rfl (b0b (pv 0)) (fun _ _ _ _ => a2t) (fun _ _ _ _ => (b4n (OpR.k (K := K) (fun K => rIn K false) c0h rfl) (pv 0) (pv 2) (by with_unfolding_all rfl)))) a0j)))), ?_⟩
 refine ⟨_, rfl, a, rfl, ⟨_, SqT.of ha⟩, a8v (f := fun v => match v with | .int i => .bl (y.contains i.toNat) | v => v) (by rw [a0D]; exact small (by lia)) (SqT.of ha) (fun v Q hv q => ?_) (fun l hl => ?_)⟩
 ·obtain ⟨r, h1, rfl⟩ := a0M.mp hv
  refine ⟨_, rfl, _, rfl, b, _, rfl, .inr (SqT.of hb), rfl, c9w _, ?_⟩
  try dsimp only
  rw [in_nv]
  exact q
 ·have e : (x.map nv).map (fun v => match v with | .int i => V.bl (y.contains i.toNat) | v => v) = (x.map fun r => y.contains r).map V.bl := by
   rw [a1T, a1T]
   rfl
  try dsimp only
  rw [e]
  refine ⟨l, _, rfl, SqL.of a0a, ?_⟩
  have e2 : (x.map fun r => y.contains r).all id = sub x y := by
   unfold sub
   rw [List.all_map]
   rfl
  try dsimp only
  rw [e2]
  exact q _ (a0c hl _)
theorem b9m (F : Fun K "is_covered" "is_covered" a2v f fd) (c_lies_in : a0l P w K mg base "lies_in" 1 ["one", "other"] c9y) (m_any : mg "any" = none) : FnOk P w K mg base CX0 3 f fd ["part", "sets"] d2q := by
 refine F.ok b5l (fun vs H Q E h => ?_) (fun cdv A outer s H vs Q E hr h => ?_)
 ·obtain ⟨a, l, x, bs, us, rfl, _⟩ := h
  rfl
 obtain ⟨a, l, x, bs, us, rfl, ha, hl, T, l5, few, q⟩ := h
 have hu := hr.units
 have lb := T.len
 refine ⟨_, (a0i (a1b (a0v (b3c rfl) rfl m_any boot_any (a0g (a1m (CompSc.to (N := ["part", "sets"]) (osc := a0b a2v) (vs := ["other"]) {}) rfl rfl (a1v (pv 1)) (fun _ _ _ _ => a2t) (fun _ _ _ _ => (c6t (b4n (OpR.k (K := K) (fun K => c8r K true) (b2w hu) rfl) (pv 0) (pv 1) (a2q _)) (c6s (a0m c_lies_in (hr.mono (by decide)) rfl (a2a (a0e (pv 1) (a0e (pv 0) a1c rfl) rfl))))))) a0j)))), ?_⟩
 refine ⟨_, rfl, l, rfl, ⟨_, SqL.of hl⟩, a2f (xs := bs.map .ref) (fun i ys H' => Same H H' /\ ys = ((us.take i).map fun v => decide (v ≠ x) && sub x v).map V.bl) (by rw [a0D, a1B]; lia) ⟨Same.refl _, rfl⟩ (fun i ys H' hi p => ?_) (fun i v ys H' hv p => ?_) (fun ys H' p c1 hc1 => ?_)⟩
 ·obtain ⟨g, rfl⟩ := p
  exact ⟨SqL.of (g _ _ hl), by simp; lia⟩
 ·obtain ⟨g, rfl⟩ := p
  rw [a0E] at hv
  obtain ⟨b, eb, rfl⟩ := a0O.mp hv
  have li := (a0B.mp eb).1
  obtain ⟨u, eu⟩ : ∃ u, us[i]? = some u := ⟨_, a0A (by lia)⟩
  have hb := g _ _ (T.is i b u eb eu)
  have hx := g _ _ ha
  have nx : ((us.take (i + 1)).map fun v => decide (v ≠ x) && sub x v).map V.bl = ((us.take i).map fun v => decide (v ≠ x) && sub x v).map V.bl ++ [V.bl (decide (u ≠ x) && sub x u)] := by
   rw [a2O, eu, a1M, a1M]
   rfl
  refine ⟨a1w, a6q ?_⟩
  refine ⟨_, rfl, _, rfl, b, a, 0, _, _, rfl, rfl, a4x (SqT.of hb), a4x (SqT.of hx), by decide, fun c hc => ?_⟩
  by_cases e : u = x
  ·have hc' : c = true := hc.mpr (dt_natsT.mpr e)
   subst hc'
   refine ⟨_, rfl, a9u ⟨g, ?_⟩⟩
   rw [nx, a1I (fun z => z e)]
   rfl
  ·have hc' : c = false := by
    cases c with
    | false => rfl
    | true => exact absurd (dt_natsT.mp (hc.mp rfl)) e
   subst hc'
   refine ⟨_, rfl, b2e ⟨_, rfl, _, rfl, a, b, x, u, rfl, hx, hb, l5, fun H4 g4 => ⟨g.trans g4, ?_⟩⟩⟩
   rw [nx, a0Y e, a9N]
 ·obtain ⟨g, rfl⟩ := p
  rw [a0D, lb, a2B]
  have e2 : (us.map fun v => decide (v ≠ x) && sub x v).any id = a3e us x := by
   unfold a3e
   rw [b0B]
   rfl
  refine ⟨c1, _, rfl, SqL.of a0a, ?_⟩
  try dsimp only
  rw [e2]
  exact q _ (g.trans (a0c hc1 _))
theorem c6i {T : Addr} (F : Fun K "tiles" "tiles" a7y f fd) (c_family : a0l P w K mg base "family" 14 ["machine"] (b1v T (⟨46, 40, 46, 93⟩ : Pos))) (c_lies_in : a0l P w K mg base "lies_in" 1 ["one", "other"] c9y) (c_is_covered : a0l P w K mg base "is_covered" 3 ["part", "sets"] d2q) : FnOk P w K mg base CX0 16 f fd ["machine", "rooms"] (c3i T (⟨46, 40, 46, 93⟩ : Pos)) := by
 refine F.ok scTiles (fun vs H Q E h => ?_) (fun cdv A outer s H vs Q E hr h => ?_)
 ·obtain ⟨m, p, ts, n, x, rfl, _⟩ := h
  rfl
 obtain ⟨m, p, ts, n, x, rfl, M, hp, hT, q⟩ := h
 have hu := hr.units
 have n5 := M.n5
 refine ⟨_, (a0f (a0r (i := 2) scTiles.nd rfl (Or.inr rfl) (a1m (CompSc.to (N := ["machine", "rooms", "within"]) (osc := a0b a7y) (vs := ["part"]) {}) rfl rfl (a1v (a0m c_family (hr.mono (by decide)) rfl (a0g (pv 0) a0j))) (fun _ _ _ _ => a7h (PW.pt (b2j (a1s (OpR.k (K := K) (fun K => c8r K true) (b2w hu) rfl) (pv 0) (pv 2) (a2q _)) (a8p (b9x (a0m c_lies_in (hr.mono (by decide)) rfl (a2a (a0e (pv 0) (a0e (pv 2) a1c rfl) rfl)))))))) (fun _ _ _ _ => (pv 0)))) (a0i (a1b (a1m (CompSc.to (N := ["machine", "rooms", "within"]) (osc := a0b a7y) (vs := ["part"]) {}) rfl rfl (a1v (pv 2)) (fun _ _ _ _ => a7h (c6r (b9x (a0m c_is_covered (hr.mono (by decide)) rfl (a2a (a0e (pv 0) (a0e (pv 3) a1c rfl) rfl)))))) (fun _ _ _ _ => (pv 0)))))), ?_⟩
 refine ⟨_, rfl, m, ts, n, rfl, M, hT, fun l bs fam H1 k1 T1 nl el Tf ff => ?_⟩
 have few := ff.few M
 have lb := Tf.len
 have hp1 := k1 _ _ (a0y hp fun _ e => nomatch e)
 have l5 : ∀ u ∈ fam, u.length <= 5 := fun u h => a1A (a3b n5 (ff.inU M h)) n5
 refine ⟨l, rfl, ⟨_, SqL.of el⟩, a2f (xs := bs.map .ref) (fun i ys H' => Same H1 H' /\ ∃ cs, ys = cs.map V.ref /\ cs.length <= i /\ TupsAt H' cs ((fam.take i).filter fun u => decide (u ≠ x) && sub u x)) (by rw [a0D, a1B]; lia) ⟨Same.refl _, [], rfl, a0N _, rfl, fun i b u e => by simp at e⟩ (fun i ys H' hi p => ?_) (fun i v ys H' hv p => ?_) (fun ys H2 p wl hwl => ?_)⟩
 ·obtain ⟨g, cs, rfl, e, _⟩ := p
  exact ⟨SqL.of (g _ _ el), by rw [a0D]; exact e⟩
 ·obtain ⟨g, cs, rfl, e, Tc⟩ := p
  rw [a0E] at hv
  obtain ⟨b, eb, rfl⟩ := a0O.mp hv
  have li := (a0B.mp eb).1
  obtain ⟨u, eu⟩ : ∃ u, fam[i]? = some u := ⟨_, a0A (by lia)⟩
  have hb := g _ _ (Tf.is i b u eb eu)
  have hx := g _ _ hp1
  refine ⟨a1w, _, rfl, _, rfl, b, _, 0, _, _, rfl, rfl, a4x (SqT.of hb), a4x (SqT.of hx), by decide, fun c hc => ⟨_, rfl, ?_⟩⟩
  by_cases ex : u = x
  ·have hc' : c = true := hc.mpr (dt_natsT.mpr ex)
   subst hc'
   have z := a5n Tc eu hb
   rw [a1I (fun z => z ex), Bool.false_and, if_neg (by decide)] at z
   refine a9u (a9u ⟨g, cs, rfl, by lia, z⟩)
  ·have hc' : c = false := by
    cases c with
    | false => rfl
    | true => exact absurd (dt_natsT.mp (hc.mp rfl)) ex
   subst hc'
   refine b2e ⟨_, rfl, _, rfl, b, _, u, x, rfl, hb, hx, l5 u (a0H eu), fun H4 g4 => ⟨_, rfl, ?_⟩⟩
   have z := a5n (Tc.same g4) eu (g4 _ _ hb)
   rw [a0Y ex, a9N] at z
   cases c2 : sub u x with
   | true =>
    rw [c2, if_pos rfl] at z
    exact b2e ⟨_, rfl, g.trans g4, cs ++ [b], by simp, by simp; exact e, z⟩
   | false =>
    rw [c2, if_neg (by decide)] at z
    exact a9u ⟨g.trans g4, cs, rfl, by lia, z⟩
 obtain ⟨g2, cs, rfl, _, Tc⟩ := p
 rw [a0D, lb, a2B] at Tc
 have Tw : TupsAt H2 cs (a2m fam x) := Tc
 have kw := a0c hwl (.lst (cs.map V.ref))
 have ewl : upd H2 wl (.lst (cs.map V.ref)) wl = some (.lst (cs.map V.ref)) := a0a
 have Tw3 := Tw.same kw
 have g3 := g2.trans kw
 generalize upd H2 wl (.lst (cs.map V.ref)) = H3 at kw ewl Tw3 g3 ⊢
 have lw : (a2m fam x).length <= 32 := a1A (a1R _ _) few
 have lc := Tw.len
 have wfam : ∀ u ∈ a2m fam x, u ∈ fam := fun u h => (a1F.mp h).1
 refine ⟨_, rfl, wl, rfl, ⟨_, SqL.of ewl⟩, a2f (xs := cs.map .ref) (fun i ys H' => Same H3 H' /\ ∃ ds, ys = ds.map V.ref /\ ds.length <= i /\ TupsAt H' ds (((a2m fam x).take i).filter fun u => !a3e (a2m fam x) u)) (by rw [a0D, a1B]; lia) ⟨Same.refl _, [], rfl, a0N _, rfl, fun i b u e => by simp at e⟩ (fun i ys H' hi p => ?_) (fun i v ys H' hv p => ?_) (fun ys H4 p D hD => ?_)⟩
 ·obtain ⟨g, ds, rfl, e, _⟩ := p
  exact ⟨SqL.of (g _ _ ewl), by rw [a0D]; exact e⟩
 ·obtain ⟨g, ds, rfl, e, Td⟩ := p
  rw [a0E] at hv
  obtain ⟨b, eb, rfl⟩ := a0O.mp hv
  have li := (a0B.mp eb).1
  obtain ⟨u, eu⟩ : ∃ u, (a2m fam x)[i]? = some u := ⟨_, a0A (by lia)⟩
  have hb := g _ _ (Tw3.is i b u eb eu)
  refine ⟨a1w, _, rfl, _, rfl, b, wl, u, cs, a2m fam x, rfl, hb, g _ _ ewl, Tw3.same g, l5 u (wfam u (a0H eu)), lw, fun H5 g5 => ⟨_, rfl, ?_⟩⟩
  have z := a5n (Td.same g5) eu (g5 _ _ hb)
  cases c2 : a3e (a2m fam x) u with
  | true =>
   rw [c2, if_neg (by decide)] at z
   exact a9u ⟨g.trans g5, ds, rfl, by lia, z⟩
  | false =>
   rw [c2, if_pos (by decide)] at z
   exact b2e ⟨_, rfl, g.trans g5, ds ++ [b], by simp, by simp; exact e, z⟩
 obtain ⟨g4, ds, rfl, _, Td⟩ := p
 rw [a0D, lc, a2B] at Td
 have kD := a0c hD (.lst (ds.map V.ref))
 have gg := g3.trans (g4.trans kD)
 refine q D ds _ fam _ (k1.trans gg.keeps) (T1.same gg) ?_ a0a (Td.same kD) ff rfl
 cases y : L2.noT H D with
 | none => rfl
 | some o =>
  have z := (g3.trans g4) _ _ (k1 _ _ y)
  rw [hD] at z
  cases z
end
def Rch (ts : List (List Nat)) (x y : List Nat) : Prop := ∃ word : List Nat, (∀ l ∈ word, l < ts.length) /\ a0z (a0k ts) x word = y
open Classical in
noncomputable def rch (ts : List (List Nat)) (x y : List Nat) : Bool := decide (Rch ts x y)
theorem rch_iff {ts : List (List Nat)} {x y : List Nat} : rch ts x y = true ↔ Rch ts x y := by
 unfold rch
 exact @decide_eq_true_iff _ (Classical.propDecidable _)
theorem Rch.refl (ts : List (List Nat)) (x : List Nat) : Rch ts x x := ⟨[], fun _ h => (nomatch h), rfl⟩
theorem Rch.trans {ts : List (List Nat)} {x y z : List Nat} (a : Rch ts x y) (b : Rch ts y z) : Rch ts x z := by
 obtain ⟨u, h1, rfl⟩ := a
 obtain ⟨v, h2, rfl⟩ := b
 refine ⟨u ++ v, fun l hl => (a0K.mp hl).elim (h1 l) (h2 l), ?_⟩
 unfold a0z
 rw [a3U]
theorem b1w {ts : List (List Nat)} {x : List Nat} {ws : TW} (T : Told (a0k ts) ts.length x ws) (y : List Nat) : y ∈ ws.map (·.1) ↔ Rch ts x y := by
 constructor
 ·intro h
  obtain ⟨p, hp, rfl⟩ := a0M.mp h
  obtain ⟨r1, r2⟩ := T.run p hp
  exact ⟨p.2, r1, r2⟩
 ·rintro ⟨word, h1, rfl⟩
  obtain ⟨u, h2, _⟩ := T.least _ word rfl h1
  exact a0M.mpr ⟨_, h2, rfl⟩
abbrev WE := Addr × TW × List Addr
def kvW (xs : List (List Nat)) (ys : List WE) : List (List Key × V) := a3p (xs.map fun x => (x, [])) (ys.map (·.1))
structure WB (H : Hp) (D : Addr) (ts : List (List Nat)) (xs : List (List Nat)) (ys : List WE) : Prop where
 len : ys.length = xs.length
 each : ∀ (i : Nat) (x : List Nat) (y : WE), xs[i]? = some x -> ys[i]? = some y -> WordsAt H y.1 y.2.1 y.2.2 /\ Told (a0k ts) ts.length x y.2.1 /\ y.1 ≠ D
 nd : xs.Nodup
theorem WB.same {H H' : Hp} {D : Addr} {ts xs : List (List Nat)} {ys : List WE} (h : WB H D ts xs ys) (g : Same H H') : WB H' D ts xs ys := ⟨h.len, fun i x y e1 e2 => let ⟨a, b⟩ := h.each i x y e1 e2; ⟨a.same g, b⟩, h.nd⟩
theorem b5u {H H' : Hp} {D : Addr} {ws : TW} {as : List Addr} (W : WordsAt H D ws as) (g : Keeps H H') : WordsAt H' D ws as := ⟨W.len, g _ _ (a0y W.dict fun _ e => nomatch e), fun j a p h1 h2 => g _ _ (a0y (W.list j a p h1 h2) fun _ e => nomatch e)⟩
theorem WB.keeps {H H' : Hp} {D : Addr} {ts xs : List (List Nat)} {ys : List WE} (h : WB H D ts xs ys) (g : Keeps H H') : WB H' D ts xs ys := ⟨h.len, fun i x y e1 e2 => let ⟨a, b⟩ := h.each i x y e1 e2; ⟨b5u a g, b⟩, h.nd⟩
theorem a7c {xs : List (List Nat)} {ys : List WE} (h : ys.length = xs.length) : (kvW xs ys).map (·.1) = xs.map nk := by
 unfold kvW L2.a3p
 induction xs generalizing ys with
 | nil => rfl
 | cons x xs ih =>
  cases ys with
  | nil => simp at h
  | cons y ys =>
   have z := ih (ys := ys) (by simpa using h)
   simp only [List.map_cons, List.zipWith_cons_cons]
   rw [z]
theorem WB.off {H : Hp} {D : Addr} {ts xs : List (List Nat)} {ys : List WE} {kvs : List (List Key × V)} {o : HO} (h : WB H D ts xs ys) (hD : H D = some (.dT kvs)) : WB (upd H D o) D ts xs ys := by
 refine ⟨h.len, fun i x y e1 e2 => ?_, h.nd⟩
 obtain ⟨a, b, c⟩ := h.each i x y e1 e2
 refine ⟨⟨a.len, by rw [a0d c]; exact a.dict, fun j l p h1 h2 => ?_⟩, b, c⟩
 have z := a.list j l p h1 h2
 rw [a0d (a1n z hD fun e => nomatch e)]
 exact z
theorem c3j (xs : List (List Nat)) : ((xs.map fun x => ((x, []) : List Nat × List Nat)).map (·.1)) = xs := by
 rw [a1T]
 exact List.map_id' xs
theorem WB.get {H : Hp} {D b : Addr} {ts xs : List (List Nat)} {ys : List WE} {x : List Nat} (h : WB H D ts xs ys) (hD : Rd H D (.dT (kvW xs ys))) (hx : x ∈ xs) (hb : H b = some (.tup (x.map nv))) : ∃ W ws as, DGet H D (.ref b) (some (.ref W)) /\ WordsAt H W ws as /\ Told (a0k ts) ts.length x ws /\ ∃ i : Nat, xs[i]? = some x /\ ys[i]? = some (W, ws, as) := by
 obtain ⟨i, ei⟩ := a1C.mp hx
 have li := (a0B.mp ei).1
 have hl := h.len
 obtain ⟨y, ey⟩ : ∃ y, ys[i]? = some y := ⟨_, a0A (by lia)⟩
 obtain ⟨a, t, _⟩ := h.each i x y ei ey
 have v : a9v (kvW xs ys) (nk x) = some (.ref y.1) := c1z (p := (x, [])) (by rw [c3j]; exact h.nd) (by rw [a0E, ei]; rfl) (by rw [a0E, ey]; rfl)
 exact ⟨y.1, y.2.1, y.2.2, .inr ⟨_, _, b, hD, rfl, by rw [a5y]; exact hb, v.symm⟩, a, t, i, ei, ey⟩
theorem b1x {H : Hp} {W c : Addr} {ts : List (List Nat)} {ws : TW} {as : List Addr} {x y : List Nat} (a : WordsAt H W ws as) (t : Told (a0k ts) ts.length x ws) (hc : H c = some (.tup (y.map nv))) : ∃ o, DGet H W (.ref c) o /\ o.isSome = rch ts x y := by
 refine ⟨_, .inr ⟨_, nk y, c, .inl a.dict, rfl, by rw [a5y]; exact hc, rfl⟩, ?_⟩
 by_cases m : y ∈ ws.map (·.1)
 ·rw [rch_iff.mpr ((b1w t y).mp m)]
  obtain ⟨p, hp, rfl⟩ := a0M.mp m
  obtain ⟨l, e, _⟩ := a.word t.keys hp
  rw [e]
  rfl
 ·rw [b3f m]
  cases z : rch ts x y with
  | false => rfl
  | true => exact absurd ((b1w t y).mpr (rch_iff.mp z)) m
noncomputable def alike (ts xs : List (List Nat)) (x : List Nat) : List (List Nat) := xs.filter fun y => rch ts x y && rch ts y x
noncomputable def classes (ts xs : List (List Nat)) : List (List (List Nat)) := (xs.filter fun x => (alike ts xs x).head? == some x).map (alike ts xs)
def big (fam : List (List Nat)) : List (List Nat) := fam.filter fun x => decide (1 < x.length)
def a6b (T : Addr) (pos : Pos) : Sp := fun vs H Q _ => ∃ (m : Addr) (ts : List (List Nat)) (n : Nat), vs = [.ref m] /\ Mach H m ts n /\ Tabs H /\
 ∀ D fam ys H', Keeps H H' -> Tabs H' -> L2.noT H D = none -> FamOf ts n fam -> H' D = some (.dT (kvW (big fam) ys)) -> WB H' D ts (big fam) ys -> (∀ y ∈ ys, ∀ b ∈ y.2.2, L2.noT H b = none) -> ys.Pairwise (fun p q => ∀ b ∈ p.2.2, b ∉ q.2.2) -> Q (.ref D) H'
def c3k : Sp := fun vs H Q _ => ∃ (D p : Addr) (o : Obj) (ts xs : List (List Nat)) (ys : List WE) (x : List Nat), vs = [.ref D, .ref p] /\ H D = some (.frz o (.dT (kvW xs ys))) /\ WB H D ts xs ys /\ H p = some (.tup (x.map nv)) /\ x ∈ xs /\ xs.length <= 32 /\
 ∀ l bs H', Same H H' -> H l = none -> H' l = some (.lst (bs.map .ref)) -> TupsAt H' bs (alike ts xs x) -> Q (.ref l) H'
section
variable {P : Program} {w : World} {K : W.Frag} {mg : Str -> Option Value} {base : Heap} {f : Addr} {fd : FuncData}
theorem a8e {T : Addr} (F : Fun K "words_between" "words_between" a2c f fd) (c_family : a0l P w K mg base "family" 14 ["machine"] (b1v T (⟨46, 40, 46, 93⟩ : Pos))) (c_sets_reached : a0l P w K mg base "sets_reached" 10 ["machine", "rooms"] (a4t T (⟨46, 40, 46, 93⟩ : Pos))) (m_len : mg "len" = none) : FnOk P w K mg base CX0 16 f fd ["machine"] (a6b T (⟨46, 40, 46, 93⟩ : Pos)) := by
 refine F.ok scWordsBetween (fun vs H Q E h => ?_) (fun cdv A outer s H vs Q E hr h => ?_)
 ·obtain ⟨m, ts, n, rfl, _⟩ := h
  rfl
 obtain ⟨m, ts, n, rfl, M, hT, q⟩ := h
 have hu := hr.units
 have hu1 := a8r hr
 refine ⟨_, (a0f (a0r (i := 1) scWordsBetween.nd rfl (Or.inl rfl) b0y) (a0f (a3w a2E rfl (a1v (a0m c_family (hr.mono (by decide)) rfl (a0g (pv 0) a0j))) (a1y (i := 2) scWordsBetween.nd rfl (Or.inl rfl)) (a0i (a6m (a1s d0u (a0v a0t rfl m_len a6B (a0g (pv 2) a0j)) a0q (a2q _)) (a0i (a8t hu1 (pv 1) (pv 2) (a0m c_sets_reached (hr.mono (by decide)) rfl (a2a (a0e (pv 0) (a0e (pv 2) a1c rfl) rfl))) rfl)) a3c))) (a0i (a1b (pv 1))))), ?_⟩
 intro D hD
 have kD := a0c hD (.dT [])
 refine ⟨_, rfl, m, ts, n, rfl, M.same kD, hT.same kD, fun so fs fam H1 k1 T1 nso eso Tf ff => ?_⟩
 have eD1 := k1 _ _ (a0y (a0a : upd H D (.dT []) D = _) fun _ e => nomatch e)
 have k01 := kD.keeps.trans k1
 have lf := Tf.len
 have few := ff.few M
 have fnd : fam.Nodup := ff.up.imp fun {a b} z e => by
  subst e
  rw [(a3a gl fam).irr] at z
  cases z
 have nDT := c5s hD
 let Pv : Nat -> L2.St -> Hp -> Prop := fun i σ H' => Keeps H H' /\ Tabs H' /\ H' so = some (.lst (fs.map .ref)) /\ TupsAt H' fs fam /\ ∃ ys o2, H' D = some (.dT (kvW (big (fam.take i)) ys)) /\ WB H' D ts (big (fam.take i)) ys /\ (∀ y ∈ ys, ∀ b ∈ y.2.2, L2.noT H b = none) /\ ys.Pairwise (fun p q => ∀ b ∈ p.2.2, b ∉ q.2.2) /\ σ = [some (.ref m), some (.ref D), o2]
 refine ⟨so, rfl, ⟨_, SqL.of eso⟩, a3x (xs := fs.map .ref) Pv ⟨k01, T1, eso, Tf, [], none, eD1, ⟨rfl, fun i x y e => by simp [big] at e, List.nodup_nil⟩, fun _ h => (nomatch h), .nil, rfl⟩ (fun i σ H' _ p => SqL.of p.2.2.1) (fun i v σ H2 hv p => ?_) (fun σ H2 p => ?_)⟩
 ·obtain ⟨k2, T2, es2, Tf2, ys, o2, eD2, wb, nw, ap, rfl⟩ := p
  rw [a0E] at hv
  obtain ⟨b, eb, rfl⟩ := a0O.mp hv
  have li := (a0B.mp eb).1
  obtain ⟨x, ex⟩ : ∃ x, fam[i]? = some x := ⟨_, a0A (by lia)⟩
  have hb := Tf2.is i b x eb ex
  have mx := a0H ex
  have nx : big (fam.take (i + 1)) = big (fam.take i) ++ (if 1 < x.length then [x] else []) := by
   unfold big
   rw [a2O, ex, a6C]
   by_cases c : 1 < x.length
   ·rw [if_pos c]
    simp [c]
   ·rw [if_neg c]
    simp [c]
  refine ⟨_, rfl, b, _, rfl, .inr (SqT.of hb), _, _, rfl, rfl, _, rfl, c4s (fun c => ?_) (fun c => ?_)⟩
  ·have c1 : 1 < x.length := by
    have z := a1X c
    rw [a0D] at z
    lia
   rw [if_pos c1] at nx
   refine ⟨_, rfl, _, rfl, m, b, ts, n, x, rfl, M.keeps k2, hb, ff.inU M mx, T2, fun W ws as H3 k3 T3 Wd nw3 TT => ?_⟩
   have eD3 := k3 _ _ (a0y eD2 fun _ e => nomatch e)
   have hb3 := k3 _ _ (a0y hb fun _ e => nomatch e)
   have wb3 := wb.keeps k3
   have WD : W ≠ D := fun z => by
    subst z
    have z2 := nw3 W (a0S ..)
    rw [a0y eD2 fun _ e => nomatch e] at z2
    cases z2
   have xn : x ∉ big (fam.take i) := fun h => by
    have h1 := (a1F.mp h).1
    obtain ⟨j, ej⟩ := a1C.mp h1
    have lj := (a0B.mp ej).1
    rw [a1U] at lj
    rw [List.getElem?_take_of_lt (by lia)] at ej
    have := (a2P (by lia) fnd).mp (ej.trans ex.symm)
    lia
   have vn : a9v (kvW (big (fam.take i)) ys) (nk x) = none := b3f (by rw [c3j]; exact xn)
   have lk : (kvW (big (fam.take i)) ys).length < sizeLine := by
    rw [<- a0D (f := (·.1)), a7c wb.len, a0D, a1B]
    have z1 : (big (fam.take i)).length <= (fam.take i).length := a1R _ _
    rw [a1U] at z1
    lia
   refine ⟨_, rfl, _, rfl, D, _, rfl, DPut.t eD3 (by rw [a5y]; exact hb3) lk, ?_⟩
   have es3 := k3 _ _ (a0y es2 fun _ e => nomatch e)
   have Tf3 : TupsAt H3 fs fam := ⟨Tf2.len, fun i b u e1 e2 => k3 _ _ (a0y (Tf2.is i b u e1 e2) fun _ e => nomatch e)⟩
   have ek : b2f (kvW (big (fam.take i)) ys) (nk x) (.ref W) = kvW (big (fam.take (i + 1))) (ys ++ [(W, ws, as)]) := by
    rw [b0x _ vn, nx]
    unfold kvW
    rw [a1M, a1M]
    exact (b6q (ws := (big (fam.take i)).map fun x => (x, [])) (as := ys.map (·.1)) (p := (x, [])) (a := W) (by simp [wb.len])).symm
   have wo := wb3.off (o := .dT (kvW (big (fam.take (i + 1))) (ys ++ [(W, ws, as)]))) eD3
   have Wo : WordsAt (upd H3 D (.dT (kvW (big (fam.take (i + 1))) (ys ++ [(W, ws, as)])))) W ws as := ⟨Wd.len, by rw [a0d WD]; exact Wd.dict, fun j l p h1 h2 => by
    have z := Wd.list j l p h1 h2
    rw [a0d (a1n z eD3 fun e => nomatch e)]
    exact z⟩
   rw [ek]
   refine ⟨fun b' o hb' => ?_, ?_, ?_, ?_, ys ++ [(W, ws, as)], _, a0a, ⟨?_, fun j x' y' e1 e2 => ?_, ?_⟩, ?_, ?_, rfl⟩
   ·rw [a0d fun z => ?_]
    ·exact (k2.trans k3) _ _ hb'
    ·subst z
     rw [nDT] at hb'
     cases hb'
   ·exact T3.most fun b' u nd _ hb' => by rw [a0d (a1n hb' eD3 fun e => nd _ e)]; exact hb'
   ·rw [a0d (a1n es3 eD3 fun e => nomatch e)]
    exact es3
   ·exact a7b Tf3 eD3 fun _ e => nomatch e
   ·rw [nx, a0Z, a0Z, wb.len]
    rfl
   ·rw [nx] at e1
    have hl := wb.len
    by_cases hj : j < ys.length
    ·rw [a0P (by lia)] at e1
     rw [a0P hj] at e2
     exact wo.each j x' y' e1 e2
    ·rw [a0T (by lia)] at e1 e2
     have z : j - ys.length = 0 := by
      have := (a0B.mp e2).1
      simp at this
      lia
     rw [<- hl, z] at e1
     rw [z] at e2
     cases e1
     cases e2
     exact ⟨Wo, TT, WD⟩
   ·rw [nx, a6L]
    refine ⟨wb.nd, by simp, fun a ha c hc e => xn ?_⟩
    rw [a0F.mp hc] at e
    rw [<- e]
    exact ha
   ·intro y hy b' hb'
    rcases a0K.mp hy with h | h
    ·exact nw y h b' hb'
    ·rw [a0F.mp h] at hb'
     have z := nw3 b' (.tail _ hb')
     cases y2 : L2.noT H b' with
     | none => rfl
     | some o =>
      have z3 := k2 _ _ y2
      rw [a0y z3 (b3g y2).2] at z
      cases z
   ·rw [a1O]
    refine ⟨ap, a2R _ _, fun p hp q' hq b' hb' hb2 => ?_⟩
    rw [a0F.mp hq] at hb2
    have z := nw3 b' (.tail _ hb2)
    obtain ⟨j, ej⟩ := a1C.mp hp
    have lj := (a0B.mp ej).1
    have hl := wb.len
    obtain ⟨x', ex'⟩ : ∃ x', (big (fam.take i))[j]? = some x' := ⟨_, a0A (by lia)⟩
    obtain ⟨a', _⟩ := wb.each j x' p ex' ej
    obtain ⟨j2, ej2⟩ := a1C.mp hb'
    have lj2 := (a0B.mp ej2).1
    have z2 := a'.list j2 b' _ ej2 (a0A (by rw [<- a'.len]; exact lj2))
    rw [a0y z2 fun _ e => nomatch e] at z
    cases z
  ·have c1 : ¬ 1 < x.length := by
    have z := of_decide_eq_false (Bool.eq_false_iff.mpr c)
    rw [a0D] at z
    lia
   rw [if_neg c1, a2J] at nx
   refine ⟨k2, T2, es2, Tf2, ys, _, ?_, ?_, nw, ap, rfl⟩
   ·rw [nx]
    exact eD2
   ·rw [nx]
    exact wb
 ·obtain ⟨k2, T2, es2, Tf2, ys, o2, eD2, wb, nw, ap, rfl⟩ := p
  rw [a0D, lf, a2B] at eD2 wb
  exact ⟨_, rfl, q D fam ys H2 k2 T2 nDT ff eD2 wb nw ap⟩
theorem c6j (F : Fun K "alike_sets" "alike_sets" a2w f fd) : FnOk P w K mg base CX0 1 f fd ["words", "rooms"] c3k := by
 refine F.ok b5m (fun vs H Q E h => ?_) (fun cdv A outer s H vs Q E hr h => ?_)
 ·obtain ⟨D, p, o, ts, xs, ys, x, rfl, _⟩ := h
  rfl
 obtain ⟨D, p, o, ts, xs, ys, x, rfl, hD, wb, hp, hx, few, q⟩ := h
 have hu := hr.units
 have hu1 := a8r hr
 refine ⟨_, (a0i (a1b (a1m (CompSc.to (N := ["words", "rooms"]) (osc := a0b a2w) (vs := ["other"]) {}) rfl rfl (c2p (pv 0)) (fun _ _ _ _ => a7h (PW.pt (b2j (b2i (c0r hu1 (pv 0) (a7g hu1 (pv 1) (pv 2) (fun _ _ => rfl)))) (a8p (b2i (c0r hu1 (pv 2) (a7g hu1 (pv 1) (pv 0) (fun _ _ => rfl)))))))) (fun _ _ _ _ => (pv 0))))), ?_⟩
 refine ⟨_, rfl, D, _, xs, rfl, a7c wb.len, .inr ⟨o, hD⟩, fun o' H2 fz => ?_⟩
 have e2 : o' = o /\ H2 = H := by
  rcases fz with ⟨e, rfl⟩ | ⟨e, _⟩
  ·rw [hD] at e
   injection e with e
   injection e with e _
   exact ⟨e.symm, rfl⟩
  ·rw [hD] at e
   cases e
 obtain ⟨rfl, rfl⟩ := e2
 have rd : Rd H2 D (.dT (kvW xs ys)) := .inr ⟨_, hD⟩
 refine c2q (a7c wb.len) (fun i ys' H' => H' = H2 /\ ∃ cs, ys' = cs.map V.ref /\ cs.length <= i /\ TupsAt H2 cs ((xs.take i).filter fun y => rch ts x y && rch ts y x)) (by rw [a1B]; lia) ⟨rfl, [], rfl, a0N _, rfl, fun i b u e => by simp at e⟩ (fun i ys' H' _ p' => ?_) (fun i a t ys' H' et ha p' => ?_) (fun ys' H' p' c1 hc1 => ?_)
 ·obtain ⟨rfl, cs, rfl, e, _⟩ := p'
  exact ⟨hD, by rw [a0D]; exact e⟩
 ·obtain ⟨rfl, cs, rfl, e, Tc⟩ := p'
  have z := a5n (f := fun y => rch ts x y && rch ts y x) Tc et ha
  obtain ⟨W, ws, as, dg, wa, tt, _⟩ := wb.get rd hx hp
  obtain ⟨o1, d1, s1⟩ := b1x wa tt ha
  have ht := a0H et
  obtain ⟨W2, ws2, as2, dg2, wa2, tt2, _⟩ := wb.get rd ht ha
  obtain ⟨o2, d2, s2⟩ := b1x wa2 tt2 hp
  refine ⟨a1w, _, rfl, _, rfl, _, rfl, D, _, rfl, dg, W, o1, rfl, d1, _, rfl, ?_⟩
  rw [s1]
  cases c1 : rch ts x t with
  | false =>
   rw [c1, Bool.false_and, if_neg (by decide)] at z
   exact a9u (a9u ⟨rfl, cs, rfl, by lia, z⟩)
  | true =>
   rw [c1, a9N] at z
   refine b2e ⟨_, rfl, _, rfl, _, rfl, D, _, rfl, dg2, W2, o2, rfl, d2, _, rfl, ?_⟩
   rw [s2]
   cases c2 : rch ts t x with
   | true =>
    rw [c2, if_pos rfl] at z
    exact b2e ⟨_, rfl, rfl, cs ++ [a], by simp, by simp; exact e, z⟩
   | false =>
    rw [c2, if_neg (by decide)] at z
    exact a9u ⟨rfl, cs, rfl, by lia, z⟩
 ·obtain ⟨rfl, cs, rfl, _, Tc⟩ := p'
  rw [a2B] at Tc
  have kc := a0c hc1 (.lst (cs.map V.ref))
  exact q c1 cs _ kc hc1 a0a (Tc.same kc)
end
structure LsAt (H : Hp) (as : List Addr) (cs : List (List (List Nat))) : Prop where
 len : as.length = cs.length
 is : ∀ (i : Nat) (a : Addr) (c : List (List Nat)), as[i]? = some a -> cs[i]? = some c -> ∃ bs : List Addr, H a = some (.lst (bs.map .ref)) /\ TupsAt H bs c
theorem LsAt.same {H H' : Hp} {as : List Addr} {cs : List (List (List Nat))} (h : LsAt H as cs) (g : Same H H') : LsAt H' as cs := ⟨h.len, fun i a c e1 e2 => let ⟨bs, h1, h2⟩ := h.is i a c e1 e2; ⟨bs, g _ _ h1, h2.same g⟩⟩
theorem LsAt.off {H : Hp} {l : Addr} {xs : List V} {o : HO} {as : List Addr} {cs : List (List (List Nat))} (h : LsAt H as cs) (hl : H l = some (.lst xs)) (no : l ∉ as) : LsAt (upd H l o) as cs := ⟨h.len, fun i a c e1 e2 => by
 obtain ⟨bs, h1, h2⟩ := h.is i a c e1 e2
 refine ⟨bs, ?_, a7b h2 hl fun _ e => nomatch e⟩
 rw [a0d fun (z : a = l) => no (by rw [<- z]; exact a0H e1)]
 exact h1⟩
theorem LsAt.snoc {H : Hp} {as : List Addr} {cs : List (List (List Nat))} {a : Addr} {c : List (List Nat)} {bs : List Addr} (h : LsAt H as cs) (ha : H a = some (.lst (bs.map .ref))) (T : TupsAt H bs c) : LsAt H (as ++ [a]) (cs ++ [c]) := by
 refine ⟨by simp [h.len], fun i b v e1 e2 => ?_⟩
 have l := h.len
 by_cases hi : i < cs.length
 ·rw [a0P (by lia)] at e1 e2
  exact h.is i b v e1 e2
 ·rw [a0T (by lia)] at e1 e2
  have z : i - cs.length = 0 := by
   have := (a0B.mp e2).1
   simp at this
   lia
  rw [l, z] at e1
  rw [z] at e2
  cases e1
  cases e2
  exact ⟨bs, ha, T⟩
theorem b0p {ts xs : List (List Nat)} {x : List Nat} (hx : x ∈ xs) : x ∈ alike ts xs x := a1F.mpr ⟨hx, by rw [rch_iff.mpr (Rch.refl ts x)]; rfl⟩
def b7m : Sp := fun vs H Q _ => ∃ (D : Addr) (ts xs : List (List Nat)) (ys : List WE), vs = [.ref D] /\ H D = some (.dT (kvW xs ys)) /\ WB H D ts xs ys /\ xs.length <= 32 /\
 ∀ l o as H', Same (upd H D (.frz o (.dT (kvW xs ys)))) H' -> H l = none -> H' l = some (.lst (as.map .ref)) -> LsAt H' as (classes ts xs) -> (∀ a ∈ as, H a = none) -> Q (.ref l) H'
section
variable {P : Program} {w : World} {K : W.Frag} {mg : Str -> Option Value} {base : Heap} {f : Addr} {fd : FuncData}
theorem b9n (F : Fun K "sets_of_levels" "sets_of_levels" a2d f fd) (c_alike_sets : a0l P w K mg base "alike_sets" 1 ["words", "rooms"] c3k) : FnOk P w K mg base CX0 3 f fd ["words"] b7m := by
 refine F.ok scSetsOfLevels (fun vs H Q E h => ?_) (fun cdv A outer s H vs Q E hr h => ?_)
 ·obtain ⟨D, ts, xs, ys, rfl, _⟩ := h
  rfl
 obtain ⟨D, ts, xs, ys, rfl, hD, wb, few, q⟩ := h
 have hu := hr.units
 have hu1 := a8r hr
 refine ⟨_, (a0f (a0r (i := 1) scSetsOfLevels.nd rfl (Or.inl rfl) (a3y a0j)) (a0f (a3w a2E rfl (c2p (pv 0)) (a1y (i := 2) scSetsOfLevels.nd rfl (Or.inl rfl)) (a0f (a0r (i := 3) scSetsOfLevels.nd rfl (Or.inl rfl) (a0m c_alike_sets (hr.mono (by decide)) rfl (a2a (a0e (pv 0) (a0e (pv 2) a1c rfl) rfl)))) (a0i (a6m (a1s (c7d hu) (a1x a2e (pv 3) a0q (fun _ _ => rfl)) (pv 2) (a2q _)) (a0i (a4k (a9t a2F a3E a3F a3l (pv 1) (a0g (pv 3) a0j)))) a3c)))) (a0i (a1b (pv 1))))), ?_⟩
 refine ⟨by show 0 <= sizeLine; decide, fun fo hfo => ?_⟩
 have kf := a0c hfo (.lst [])
 have hD1 := kf _ _ hD
 have foD : fo ≠ D := (a0h hD hfo).symm
 refine ⟨_, rfl, D, _, xs, rfl, a7c wb.len, .inl hD1, fun o H2 fz => ?_⟩
 have e2 : H2 = upd (upd H fo (.lst [])) D (.frz o (.dT (kvW xs ys))) := by
  rcases fz with ⟨e, _⟩ | ⟨_, e⟩
  ·rw [hD1] at e
   cases e
  ·exact e
 have gz : Same (upd H D (.frz o (.dT (kvW xs ys)))) H2 := fun b u hb => by
  rw [e2]
  by_cases z : b = D
  ·subst z
   rw [a0a] at hb ⊢
   exact hb
  ·rw [a0d z] at hb ⊢
   exact kf _ _ hb
 have wz : WB (upd H D (.frz o (.dT (kvW xs ys)))) D ts xs ys := wb.off hD
 have foz : H2 fo = some (.lst []) := by rw [e2, a0d foD, a0a]
 have nfo : upd H D (.frz o (.dT (kvW xs ys))) fo = none := by rw [a0d foD]; exact hfo
 clear e2 fz
 let Pv : Nat -> L2.St -> Hp -> Prop := fun i σ H' => Same (upd H D (.frz o (.dT (kvW xs ys)))) H' /\ ∃ as o2 o3, H' fo = some (.lst (as.map .ref)) /\ fo ∉ as /\ (∀ a ∈ as, H a = none) /\ as.length <= i /\ LsAt H' as (((xs.take i).filter fun x => (alike ts xs x).head? == some x).map (alike ts xs)) /\ σ = [some (.ref D), some (.ref fo), o2, o3]
 refine c5z (a7c wb.len) Pv ⟨gz, [], none, none, foz, by simp, (fun _ h => nomatch h), Nat.le_refl _, ⟨rfl, fun i a c e => by simp at e⟩, rfl⟩ (fun i σ H' _ p => p.1 _ _ a0a) (fun i a x σ H3 ex ha p => ?_) (fun σ H3 p => ?_)
 ·obtain ⟨g3, as, o2, o3, fo3, nfa, fr3, lim, L3, rfl⟩ := p
  have mx := a0H ex
  refine ⟨_, rfl, _, rfl, D, a, o, ts, xs, ys, x, rfl, g3 _ _ a0a, wz.same g3, ha, mx, few, fun l bs H4 g4 nl el Tl => ?_⟩
  have lb := Tl.len
  have self := b0p (ts := ts) mx
  obtain ⟨y, rest, ea⟩ : ∃ y rest, alike ts xs x = y :: rest := by
   cases z : alike ts xs x with
   | nil => rw [z] at self; cases self
   | cons y rest => exact ⟨y, rest, rfl⟩
  have b1 : 0 < bs.length := by
   rw [lb, ea]
   simp
  obtain ⟨b, eb⟩ : ∃ b, bs[0]? = some b := ⟨_, a0A b1⟩
  have hb : H4 b = some (.tup (y.map nv)) := Tl.is 0 b y eb (by rw [ea]; rfl)
  have hat : atI (bs.map V.ref) ((0 : Nat) : Int) = some (.ref b) := a2r (by rw [a0E, eb]; rfl)
  have nx : ((xs.take (i + 1)).filter fun x => (alike ts xs x).head? == some x).map (alike ts xs) = ((xs.take i).filter fun x => (alike ts xs x).head? == some x).map (alike ts xs) ++ (if y = x then [alike ts xs x] else []) := by
   rw [a2O, ex, a6C, a1M]
   by_cases c : y = x
   ·rw [if_pos c]
    simp [ea, c]
   ·rw [if_neg c]
    simp [ea, c]
  refine ⟨_, rfl, l, _, _, _, rfl, rfl, SqL.of el, hat, _, rfl, b, a, 0, _, _, rfl, rfl, a4x (SqT.of hb), a4x (SqT.of (g4 _ _ ha)), by decide, fun c hc => ⟨_, rfl, ?_⟩⟩
  have fo4 := g4 _ _ fo3
  have lfo : l ≠ fo := (a0h fo3 nl).symm
  have nlH : H l = none := by
   cases z : H l with
   | none => rfl
   | some u =>
    by_cases e : l = D
    ·have z2 := g3 _ _ (a0a (H := H) (a := D) (o := .frz o (.dT (kvW xs ys))))
     rw [<- e, nl] at z2
     cases z2
    ·have z2 := g3 l u (by rw [a0d e]; exact z)
     rw [nl] at z2
     cases z2
  by_cases e : y = x
  ·have hc' : c = true := hc.mpr (dt_natsT.mpr e)
   subst hc'
   rw [if_pos e] at nx
   refine b2e ⟨_, rfl, .inl ⟨rfl, _, SqL.of fo4⟩, _, rfl, fo, _, _, rfl, rfl, fo4, by rw [a0D, a1B]; have := (a0B.mp ex).1; lia, ?_⟩
   have L4 := (L3.same g4).snoc el Tl
   have na : fo ∉ as ++ [l] := fun z => (a0K.mp z).elim nfa fun z => lfo (a0F.mp z).symm
   refine ⟨a1t (g3.trans g4) nfo, as ++ [l], _, _, by rw [a0a, a1M]; rfl, na, (fun a ha => (a0K.mp ha).elim (fr3 a) fun z => by rw [a0F.mp z]; exact nlH), by rw [a0Z]; simp; lia, ?_, rfl⟩
   rw [nx]
   exact L4.off fo4 na
  ·have hc' : c = false := by
    cases c with
    | false => rfl
    | true => exact absurd (dt_natsT.mp (hc.mp rfl)) e
   subst hc'
   rw [if_neg e, a2J] at nx
   refine a9u ⟨g3.trans g4, as, _, _, fo4, nfa, fr3, by lia, ?_, rfl⟩
   rw [nx]
   exact L3.same g4
 ·obtain ⟨g3, as, o2, o3, fo3, nfa, fr3, lim, L3, rfl⟩ := p
  rw [a2B] at L3
  exact ⟨_, rfl, q fo o as H3 g3 hfo fo3 L3 fr3⟩
end
noncomputable def ledTo (ts : List (List Nat)) (cs : List (List (List Nat))) (c : List (List Nat)) : Bool := cs.any fun d => decide (d ≠ c) && rch ts (d.headD []) (c.headD [])
theorem a8n {K : W.Frag} {H : Hp} {a : Addr} {bs : List Addr} {c : List (List Nat)} {n : Nat} (h1 : H a = some (.lst (bs.map .ref))) (T : TupsAt H bs c) : Rep K H (n + 2) (.lst (c.map fun u => .tup (dtN u))) (.ref a) := by
 refine .lst (SqL.of h1) (by rw [a0D, a0D, T.len]) fun i d v e1 e2 => ?_
 rw [a0E] at e1 e2
 obtain ⟨p, ep, rfl⟩ := a0O.mp e1
 obtain ⟨a, ea, rfl⟩ := a0O.mp e2
 exact a4x (SqT.of (T.is i a p ea ep))
theorem b1y {H : Hp} {bs : List Addr} {c : List (List Nat)} (T : TupsAt H bs c) (ne : c ≠ []) : ∃ b, atI (bs.map V.ref) 0 = some (.ref b) /\ H b = some (.tup ((c.headD []).map nv)) /\ c.headD [] ∈ c := by
 have lb := T.len
 obtain ⟨y, rest, ea⟩ : ∃ y rest, c = y :: rest := by
  cases c with
  | nil => exact absurd rfl ne
  | cons y rest => exact ⟨y, rest, rfl⟩
 subst ea
 obtain ⟨b, eb⟩ : ∃ b, bs[0]? = some b := ⟨_, a0A (by rw [lb]; simp)⟩
 have z : atI (bs.map V.ref) ((0 : Nat) : Int) = some (.ref b) := a2r (by rw [a0E, eb]; rfl)
 exact ⟨b, z, T.is 0 b y eb rfl, a0S ..⟩
def c3l : Sp := fun vs H Q _ => ∃ (D a l : Addr) (ts xs : List (List Nat)) (ys : List WE) (c : List (List Nat)) (cs : List (List (List Nat))) (bs as : List Addr), vs = [.ref D, .ref a, .ref l] /\ Rd H D (.dT (kvW xs ys)) /\ WB H D ts xs ys /\ H a = some (.lst (bs.map .ref)) /\ TupsAt H bs c /\ H l = some (.lst (as.map .ref)) /\ LsAt H as cs /\ c ≠ [] /\ (∀ d ∈ cs, d ≠ [] /\ ∀ x ∈ d, x ∈ xs) /\ cs.length <= 32 /\
 ∀ H', Same H H' -> Q (.bl (ledTo ts cs c)) H'
section
variable {P : Program} {w : World} {K : W.Frag} {mg : Str -> Option Value} {base : Heap} {f : Addr} {fd : FuncData}
theorem b4c (F : Fun K "is_led_to" "is_led_to" a4s f fd) (m_any : mg "any" = none) : FnOk P w K mg base CX0 1 f fd ["words", "sets", "waiting"] c3l := by
 refine F.ok c2z (fun vs H Q E h => ?_) (fun cdv A outer s H vs Q E hr h => ?_)
 ·obtain ⟨D, a, l, ts, xs, ys, c, cs, bs, as, rfl, _⟩ := h
  rfl
 obtain ⟨D, a, l, ts, xs, ys, c, cs, bs, as, rfl, rd, wb, ha, Ta, hl, L, cne, csx, few, q⟩ := h
 have hu := hr.units
 have hu1 := a8r hr
 have la := L.len
 obtain ⟨b0, at0, hb0, _⟩ := b1y Ta cne
 refine ⟨_, (a0i (a1b (a0v (b3c rfl) rfl m_any boot_any (a0g (a1m (CompSc.to (N := ["words", "sets", "waiting"]) (osc := a0b a4s) (vs := ["other"]) {}) rfl rfl (a1v (pv 2)) (fun _ _ _ _ => a2t) (fun _ _ _ _ => (c6t (b4n (OpR.k (K := K) (fun K => c8r K true) (b2w hu) rfl) (pv 0) (pv 2) (a2q _)) (c6s (d0l (c0r hu1 (a1x (IxR.k (K := K) rIxL a2e rfl) (pv 2) a0q (fun _ _ => rfl)) (a7g hu1 (pv 1) (a1x (IxR.k (K := K) rIxL a2e rfl) (pv 0) a0q (fun _ _ => rfl)) (fun _ _ => rfl)))))))) a0j)))), ?_⟩
 refine ⟨_, rfl, l, rfl, ⟨_, SqL.of hl⟩, a2f (xs := as.map .ref) (fun i ys' H' => H' = H /\ ys' = ((cs.take i).map fun d => decide (d ≠ c) && rch ts (d.headD []) (c.headD [])).map V.bl) (by rw [a0D, a1B]; lia) ⟨rfl, rfl⟩ (fun i ys' H' hi p => ?_) (fun i v ys' H' hv p => ?_) (fun ys' H' p c1 hc1 => ?_)⟩
 ·obtain ⟨rfl, rfl⟩ := p
  exact ⟨SqL.of hl, by simp; lia⟩
 ·obtain ⟨rfl, rfl⟩ := p
  rw [a0E] at hv
  obtain ⟨e, ee, rfl⟩ := a0O.mp hv
  have li := (a0B.mp ee).1
  obtain ⟨d, ed⟩ : ∃ d, cs[i]? = some d := ⟨_, a0A (by lia)⟩
  obtain ⟨ds, he, Td⟩ := L.is i e d ee ed
  obtain ⟨dne, dx⟩ := csx d (a0H ed)
  obtain ⟨b1, at1, hb1, m1⟩ := b1y Td dne
  have nx : ((cs.take (i + 1)).map fun d => decide (d ≠ c) && rch ts (d.headD []) (c.headD [])).map V.bl = ((cs.take i).map fun d => decide (d ≠ c) && rch ts (d.headD []) (c.headD [])).map V.bl ++ [V.bl (decide (d ≠ c) && rch ts (d.headD []) (c.headD []))] := by
   rw [a2O, ed, a1M, a1M]
   rfl
  refine ⟨a1w, a6q ?_⟩
  refine ⟨_, rfl, _, rfl, e, a, 1, _, _, rfl, rfl, a8n he Td, a8n ha Ta, by decide, fun cc hc => ?_⟩
  by_cases ec : d = c
  ·have hc' : cc = true := hc.mpr (by rw [ec])
   subst hc'
   refine ⟨_, rfl, a9u ⟨rfl, ?_⟩⟩
   rw [nx, a1I (fun z => z ec)]
   rfl
  ·have hc' : cc = false := by
    cases cc with
    | false => rfl
    | true => exact absurd (c3g (hc.mp rfl)) ec
   subst hc'
   obtain ⟨W, ws, wa, dg, wt, tt, _⟩ := wb.get rd (dx _ m1) hb1
   obtain ⟨o1, d1, s1⟩ := b1x wt tt hb0
   refine ⟨_, rfl, b2e ⟨_, rfl, a, _, _, _, rfl, rfl, SqL.of ha, at0, _, rfl, _, rfl, e, _, _, _, rfl, rfl, SqL.of he, at1, D, _, rfl, dg, W, o1, rfl, d1, rfl, ?_⟩⟩
   rw [nx, a0Y ec, a9N, s1]
 ·obtain ⟨rfl, rfl⟩ := p
  rw [a0D, la, a2B]
  have e2 : (cs.map fun d => decide (d ≠ c) && rch ts (d.headD []) (c.headD [])).any id = ledTo ts cs c := by
   unfold ledTo
   rw [b0B]
   rfl
  refine ⟨c1, _, rfl, SqL.of a0a, ?_⟩
  try dsimp only
  rw [e2]
  exact q _ (a0c hc1 _)
end
inductive Ord (ts : List (List Nat)) : List (List (List Nat)) -> List (List (List Nat)) -> Prop
 | nil : Ord ts [] []
 | cons {cs told : List (List (List Nat))} {s : List (List Nat)} (h : (cs.filter fun c => !ledTo ts cs c).head? = some s) (r : Ord ts (cs.filter fun c => decide (c ≠ s)) told) : Ord ts cs (s :: told)
def b7n (ts : List (List Nat)) (cs : List (List (List Nat))) : Prop := ∀ c ∈ cs, ∀ d ∈ cs, rch ts (c.headD []) (d.headD []) = true -> rch ts (d.headD []) (c.headD []) = true -> c = d
theorem b7o {α : Type} {xs : List α} {p q : α -> Bool} (h : ∀ z ∈ xs, p z = true -> q z = true) (e : ∃ z ∈ xs, q z = true /\ p z = false) : xs.countP p < xs.countP q := by
 induction xs with
 | nil =>
  obtain ⟨z, hz, _⟩ := e
  cases hz
 | cons x xs ih =>
  rw [a8G, a8G]
  have mono : xs.countP p <= xs.countP q := List.countP_mono_left fun z hz hp => h z (.tail _ hz) hp
  obtain ⟨z, hz, h1, h2⟩ := e
  rcases a1H.mp hz with rfl | hz
  ·rw [h1, h2]
   simp
   lia
  ·have := ih (fun z hz => h z (.tail _ hz)) ⟨z, hz, h1, h2⟩
   have hx := h x (a0S ..)
   cases c1 : p x with
   | true =>
    rw [hx c1]
    simp
    lia
   | false =>
    simp
    split <;> lia
theorem b7p {ts : List (List Nat)} {cs : List (List (List Nat))} (un : b7n ts cs) : ∀ (k : Nat) (s : List (List Nat)), s ∈ cs -> cs.countP (fun t => rch ts (t.headD []) (s.headD [])) <= k -> ∃ s ∈ cs, ledTo ts cs s = false
 | 0, s, hs, hk => by
  have z : 0 < cs.countP (fun t => rch ts (t.headD []) (s.headD [])) := List.countP_pos_iff.mpr ⟨s, hs, rch_iff.mpr (Rch.refl ts _)⟩
  lia
 | k + 1, s, hs, hk => by
  cases c : ledTo ts cs s with
  | false => exact ⟨s, hs, c⟩
  | true =>
   obtain ⟨d, hd, h1⟩ := a8C.mp c
   rw [a3M, a4N] at h1
   obtain ⟨ne, r⟩ := h1
   have lt := b7o (xs := cs) (p := fun t => rch ts (t.headD []) (d.headD [])) (q := fun t => rch ts (t.headD []) (s.headD [])) (fun z _ hz => rch_iff.mpr ((rch_iff.mp hz).trans (rch_iff.mp r))) ⟨s, hs, rch_iff.mpr (Rch.refl ts _), by
    cases z : rch ts (s.headD []) (d.headD []) with
    | false => rfl
    | true => exact absurd (un d hd s hs r z) ne⟩
   exact b7p un k d hd (by lia)
theorem c3m {H : Hp} {es as : List Addr} {cs : List (List (List Nat))} {f : List (List Nat) -> Bool} {i : Nat} {a : Addr} {c : List (List Nat)} (L : LsAt H es ((cs.take i).filter f)) (ec : cs[i]? = some c) {bs : List Addr} (ha : H a = some (.lst (bs.map .ref))) (T : TupsAt H bs c) : if f c = true then LsAt H (es ++ [a]) ((cs.take (i + 1)).filter f) else LsAt H es ((cs.take (i + 1)).filter f) := by
 have nx : (cs.take (i + 1)).filter f = (cs.take i).filter f ++ (if f c = true then [c] else []) := by
  rw [a2O, ec, a6C]
  cases z : f c with
  | true => simp [z]
  | false => simp [z]
 by_cases z : f c = true
 ·rw [if_pos z, nx, if_pos z]
  exact L.snoc ha T
 ·rw [if_neg z, nx, if_neg z, a2J]
  exact L
def b0q : Sp := fun vs H Q _ => ∃ (D l : Addr) (ts xs : List (List Nat)) (ys : List WE) (cs : List (List (List Nat))) (as : List Addr), vs = [.ref D, .ref l] /\ Rd H D (.dT (kvW xs ys)) /\ WB H D ts xs ys /\ H l = some (.lst (as.map .ref)) /\ LsAt H as cs /\ (∀ d ∈ cs, d ≠ [] /\ ∀ x ∈ d, x ∈ xs) /\ b7n ts cs /\ cs.length <= 32 /\
 ∀ l2 as2 told H', Same H H' -> H l2 = none -> H' l2 = some (.lst (as2.map .ref)) -> LsAt H' as2 told -> Ord ts cs told -> told.length <= 32 -> (∀ d ∈ told, d ∈ cs) -> (∀ a ∈ as2, a ∈ as) -> Q (.ref l2) H'
theorem c3n {H H' : Hp} {a : Addr} {u : HO} (h : Rd H a u) (g : Same H H') : Rd H' a u := h.elim (fun e => .inl (g _ _ e)) fun ⟨o, e⟩ => .inr ⟨o, g _ _ e⟩
section
variable {P : Program} {w : World} {K : W.Frag} {mg : Str -> Option Value} {base : Heap} {f : Addr} {fd : FuncData}
theorem a7d (F : Fun K "levels_in_order" "levels_in_order" a1f f fd) (c_is_led_to : a0l P w K mg base "is_led_to" 1 ["words", "sets", "waiting"] c3l) : FnOk P w K mg base CX0 3 f fd ["words", "waiting"] b0q := by
 refine F.ok scLevelsInOrder (fun vs H Q E h => ?_) (fun cdv A outer s H vs Q E hr h => ?_)
 ·obtain ⟨D, l, ts, xs, ys, cs, as, rfl, _⟩ := h
  rfl
 obtain ⟨D, l0, ts, xs, ys, cs0, as0, rfl, rd, wb, hl0, L0, csx, un, few, q⟩ := h
 have hu := hr.units
 have hu1 := a8r hr
 refine ⟨_, (a0f (a0r (i := 2) scLevelsInOrder.nd rfl (Or.inl rfl) (a3y a0j)) (a0f (b0v a2E (b6f (pv 1) (fun _ => rfl)) (a0f (a0r (i := 3) scLevelsInOrder.nd rfl (Or.inr rfl) (a1m (CompSc.to (N := ["words", "waiting", "told", "free"]) (osc := a0b a1f) (vs := ["sets"]) {}) rfl rfl (a1v (pv 1)) (fun _ _ _ _ => a7h (c6r (b9x (a0m c_is_led_to (hr.mono (by decide)) rfl (a2a (a0e (pv 1) (a0e (pv 0) (a0e (pv 2) a1c rfl) rfl) rfl)))))) (fun _ _ _ _ => (pv 0)))) (a0f (a4k (a9t a2F a3E a3F a3l (pv 2) (a0g (a1x a2e (pv 3) a0q (fun _ _ => rfl)) a0j))) (a0i (a0r (i := 1) scLevelsInOrder.nd rfl (Or.inr rfl) (a1m (CompSc.to (N := ["words", "waiting", "told", "free"]) (osc := a0b a1f) (vs := ["sets"]) {}) rfl rfl (a1v (pv 1)) (fun _ _ _ _ => a7h (a1s (OpR.k (K := K) (fun K => c8r K true) (b2w hu) rfl) (pv 0) (a1x (IxR.k (K := K) rIxL a2e rfl) (pv 4) a0q (fun _ _ => rfl)) (a2q _))) (fun _ _ _ _ => (pv 0)))))))) (a0i (a1b (pv 2))))), ?_⟩
 refine ⟨by show 0 <= sizeLine; decide, fun fo hfo => ?_⟩
 have kf := a0c hfo (.lst [])
 have nfo0 : fo ∉ as0 := fun z => by
  obtain ⟨j, ej⟩ := a1C.mp z
  have lj := (a0B.mp ej).1
  obtain ⟨bs, e, _⟩ := L0.is j fo _ ej (a0A (by rw [<- L0.len]; exact lj))
  rw [hfo] at e
  cases e
 let Wv : Nat -> L2.St -> Hp -> Prop := fun m σ H' => Same H H' /\ ∃ l as cs as2 told o3, H' l = some (.lst (as.map .ref)) /\ LsAt H' as cs /\ l ≠ fo /\ fo ∉ as /\ (∀ c ∈ cs, c ∈ cs0) /\ H' fo = some (.lst (as2.map .ref)) /\ LsAt H' as2 told /\ fo ∉ as2 /\ (∀ c ∈ told, c ∈ cs0) /\ told.length + cs.length <= 32 /\ (∀ a ∈ as, a ∈ as0) /\ (∀ a ∈ as2, a ∈ as0) /\ (∀ rest, Ord ts cs rest -> Ord ts cs0 (told ++ rest)) /\ m = cs.length /\ σ = [some (.ref D), some (.ref l), some (.ref fo), o3]
 refine ⟨Wv, ⟨_, kf, l0, as0, cs0, [], [], none, kf _ _ hl0, L0.same kf, a0h hl0 hfo, nfo0, fun c h => h, a0a, ⟨rfl, fun i a c e => by simp at e⟩, by simp, fun c h => (nomatch h), by simpa using few, (fun _ h => h), (fun _ h => nomatch h), fun rest h => h, rfl, rfl⟩, fun m σ H1 p => ?_⟩
 obtain ⟨g1, l, as, cs, as2, told, o3, el, L, lfo, nfa, sub0, efo, L2', nf2, subT, lim, ia, ia2, cont, hm, rfl⟩ := p
 have la := L.len
 have la2 := L2'.len
 refine ⟨_, rfl, !(as.map V.ref).isEmpty, .inl ⟨_, SqL.of el, rfl⟩, ?_⟩
 by_cases hcs : cs = []
 ·subst hcs
  have e : as = [] := a2V.mp la
  subst e
  rw [if_neg (by simp)]
  have od := cont [] .nil
  rw [a2J] at od
  exact ⟨_, rfl, q fo as2 told H1 g1 hfo efo L2' od (by lia) subT ia2⟩
 have ne : as ≠ [] := fun z => hcs (a2V.mp (by rw [<- la, z]; rfl))
 have c1 : (!(as.map V.ref).isEmpty) = true := by
  cases as with
  | nil => exact absurd rfl ne
  | cons => rfl
 rw [c1]
 refine b2e ?_
 refine ⟨fun σ' H' => ∃ m', m' < m /\ Wv m' σ' H', fun σ' H' h => h, ?_⟩
 have csx' : ∀ d ∈ cs, d ≠ [] /\ ∀ x ∈ d, x ∈ xs := fun d hd => csx d (sub0 d hd)
 have un' : b7n ts cs := fun c hc d hd => un c (sub0 c hc) d (sub0 d hd)
 have wb1 := wb.same g1
 have rd1 := c3n rd g1
 refine ⟨_, rfl, l, rfl, ⟨_, SqL.of el⟩, a2f (xs := as.map .ref) (fun i ys' H' => Same H1 H' /\ ∃ es, ys' = es.map V.ref /\ es.length <= i /\ (∀ e ∈ es, e ∈ as) /\ LsAt H' es ((cs.take i).filter fun c => !ledTo ts cs c)) (by rw [a0D, a1B]; lia) ⟨Same.refl _, [], rfl, a0N _, fun _ h => (nomatch h), ⟨rfl, fun i a c e => by simp at e⟩⟩ (fun i ys' H' hi p => ?_) (fun i v ys' H' hv p => ?_) (fun ys' H2 p fr hfr => ?_)⟩
 ·obtain ⟨g, es, rfl, e, _⟩ := p
  exact ⟨SqL.of (g _ _ el), by rw [a0D]; exact e⟩
 ·obtain ⟨g, es, rfl, e, sb, Le⟩ := p
  rw [a0E] at hv
  obtain ⟨a, ea, rfl⟩ := a0O.mp hv
  have li := (a0B.mp ea).1
  obtain ⟨c, ec⟩ : ∃ c, cs[i]? = some c := ⟨_, a0A (by lia)⟩
  obtain ⟨bs, ha, Ta⟩ := (L.same g).is i a c ea ec
  have mc := a0H ec
  refine ⟨a1w, _, rfl, _, rfl, _, rfl, D, a, l, ts, xs, ys, c, cs, bs, as, rfl, c3n rd1 g, wb1.same g, ha, Ta, g _ _ el, L.same g, (csx' c mc).1, csx', by lia, fun H4 g4 => ⟨_, rfl, ?_⟩⟩
  have z := c3m (as := as) (f := fun c => !ledTo ts cs c) (Le.same g4) ec (g4 _ _ ha) (Ta.same g4)
  cases c2 : ledTo ts cs c with
  | false =>
   rw [c2, if_pos (show (!false) = true from rfl)] at z
   refine b2e ⟨_, rfl, g.trans g4, es ++ [a], by simp, by simp; exact e, fun e' he => ?_, z⟩
   exact (a0K.mp he).elim (sb e') fun h => by rw [a0F.mp h]; exact a0H ea
  | true =>
   rw [c2, if_neg (by decide)] at z
   exact a9u ⟨g.trans g4, es, rfl, by lia, sb, z⟩
 obtain ⟨g2, es, rfl, _, sb, Le⟩ := p
 rw [a0D, la, a2B] at Le
 have k3 := a0c hfr (.lst (es.map V.ref))
 have efr : upd H2 fr (.lst (es.map V.ref)) fr = some (.lst (es.map V.ref)) := a0a
 have frfo : fr ≠ fo := (a0h (g2 _ _ efo) hfr).symm
 have frl : fr ≠ l := (a0h (g2 _ _ el) hfr).symm
 have g13 := g2.trans k3
 have Le3 := Le.same k3
 generalize upd H2 fr (.lst (es.map V.ref)) = H3 at k3 efr g13 Le3 ⊢
 obtain ⟨s0, ms0, fs0⟩ : ∃ s ∈ cs, ledTo ts cs s = false := by
  cases cs with
  | nil => exact absurd rfl hcs
  | cons c cs => exact b7p un' _ c (a0S ..) (a0N _)
 have mf : s0 ∈ cs.filter fun c => !ledTo ts cs c := a1F.mpr ⟨ms0, by rw [fs0]; rfl⟩
 obtain ⟨s, hs⟩ : ∃ s, (cs.filter fun c => !ledTo ts cs c).head? = some s := by
  cases z : cs.filter fun c => !ledTo ts cs c with
  | nil => rw [z] at mf; cases mf
  | cons y ys => exact ⟨y, rfl⟩
 have ms : s ∈ cs := (a1F.mp (List.mem_of_mem_head? hs)).1
 have hs0 : (cs.filter fun c => !ledTo ts cs c)[0]? = some s := by rw [<- List.head?_eq_getElem?]; exact hs
 have le := Le3.len
 obtain ⟨a, ea⟩ : ∃ a, es[0]? = some a := ⟨_, a0A (by rw [le]; exact (a0B.mp hs0).1)⟩
 have hat : atI (es.map V.ref) ((0 : Nat) : Int) = some (.ref a) := a2r (by rw [a0E, ea]; rfl)
 obtain ⟨bs, ha, Ta⟩ := Le3.is 0 a s ea hs0
 have aas := sb a (a0H ea)
 have afo : a ≠ fo := fun z => nfa (z ▸ aas)
 have efo3 := g13 _ _ efo
 refine ⟨_, rfl, .inl ⟨rfl, _, SqL.of efo3⟩, _, rfl, fr, _, _, _, rfl, rfl, SqL.of efr, hat, fo, _, _, rfl, rfl, efo3, by rw [a0D, a1B]; lia, ?_⟩
 have g4 : Same H (upd H3 fo (.lst (as2.map V.ref ++ [.ref a]))) := a1t (g1.trans g13) hfo
 have na2 : fo ∉ as2 ++ [a] := fun z => (a0K.mp z).elim nf2 fun z => afo (a0F.mp z).symm
 have L4 := ((L2'.same g13).snoc ha Ta).off (o := .lst (as2.map V.ref ++ [.ref a])) efo3 na2
 have Lw4 := (L.same g13).off (o := .lst (as2.map V.ref ++ [.ref a])) efo3 nfa
 have efo4 : upd H3 fo (.lst (as2.map V.ref ++ [.ref a])) fo = some (.lst ((as2 ++ [a]).map V.ref)) := by rw [a0a, a1M]; rfl
 have el4 : upd H3 fo (.lst (as2.map V.ref ++ [.ref a])) l = some (.lst (as.map V.ref)) := by
  rw [a0d lfo]
  exact g13 _ _ el
 have efr4 : upd H3 fo (.lst (as2.map V.ref ++ [.ref a])) fr = some (.lst (es.map V.ref)) := by
  rw [a0d frfo]
  exact efr
 have ha4 : upd H3 fo (.lst (as2.map V.ref ++ [.ref a])) a = some (.lst (bs.map V.ref)) := by
  rw [a0d afo]
  exact ha
 have Ta4 : TupsAt (upd H3 fo (.lst (as2.map V.ref ++ [.ref a]))) bs s := a7b Ta efo3 fun _ e => nomatch e
 generalize upd H3 fo (.lst (as2.map V.ref ++ [.ref a])) = H4 at g4 L4 Lw4 efo4 el4 efr4 ha4 Ta4 ⊢
 refine ⟨_, rfl, l, rfl, ⟨_, SqL.of el4⟩, a2f (xs := as.map .ref) (fun i ys' H' => H' = H4 /\ ∃ es, ys' = es.map V.ref /\ es.length <= i /\ (∀ e ∈ es, e ∈ as) /\ LsAt H4 es ((cs.take i).filter fun c => decide (c ≠ s))) (by rw [a0D, a1B]; lia) ⟨rfl, [], rfl, a0N _, fun _ h => (nomatch h), ⟨rfl, fun i a c e => by simp at e⟩⟩ (fun i ys' H' hi p => ?_) (fun i v ys' H' hv p => ?_) (fun ys' H5 p wl hwl => ?_)⟩
 ·obtain ⟨rfl, es, rfl, e, _⟩ := p
  exact ⟨SqL.of el4, by rw [a0D]; exact e⟩
 ·obtain ⟨rfl, es', rfl, e, sb', Le'⟩ := p
  rw [a0E] at hv
  obtain ⟨b, eb, rfl⟩ := a0O.mp hv
  have li := (a0B.mp eb).1
  obtain ⟨c, ec⟩ : ∃ c, cs[i]? = some c := ⟨_, a0A (by lia)⟩
  obtain ⟨ds, hb, Tb⟩ := Lw4.is i b c eb ec
  have z := c3m (as := as) (f := fun c => decide (c ≠ s)) Le' ec hb Tb
  refine ⟨a1w, _, rfl, _, rfl, fr, _, _, _, rfl, rfl, SqL.of efr4, hat, b, a, 1, _, _, rfl, rfl, a8n hb Tb, a8n ha4 Ta4, by decide, fun cc hc => ⟨_, rfl, ?_⟩⟩
  by_cases ec2 : c = s
  ·have hc' : cc = true := hc.mpr (by rw [ec2])
   subst hc'
   rw [a1I (fun z => z ec2), if_neg (by decide)] at z
   exact a9u ⟨rfl, es', rfl, by lia, sb', z⟩
  ·have hc' : cc = false := by
    cases cc with
    | false => rfl
    | true => exact absurd (c3g (hc.mp rfl)) ec2
   subst hc'
   rw [a0Y ec2, if_pos rfl] at z
   refine b2e ⟨_, rfl, rfl, es' ++ [b], by simp, by simp; exact e, fun e' he => ?_, z⟩
   exact (a0K.mp he).elim (sb' e') fun h => by rw [a0F.mp h]; exact a0H eb
 obtain ⟨rfl, es', rfl, _, sb', Le'⟩ := p
 rw [a0D, la, a2B] at Le'
 have k5 := a0c hwl (.lst (es'.map V.ref))
 have less : (cs.filter fun c => decide (c ≠ s)).length < cs.length := by
  rw [<- a6D]
  have z := b7o (xs := cs) (p := fun c => decide (c ≠ s)) (q := fun _ => true) (fun _ _ _ => rfl) ⟨s, ms, rfl, a1I fun z => z rfl⟩
  rw [List.countP_true] at z
  exact z
 refine ⟨(cs.filter fun c => decide (c ≠ s)).length, by lia, g4.trans k5, wl, es', cs.filter fun c => decide (c ≠ s), as2 ++ [a], told ++ [s], _, a0a, Le'.same k5, (a0h efo4 hwl).symm, fun z => nfa (sb' _ z), fun c hc => sub0 c (a1F.mp hc).1, k5 _ _ efo4, L4.same k5, na2, fun c hc => (a0K.mp hc).elim (subT c) fun h => by rw [a0F.mp h]; exact sub0 s ms, by rw [a0Z]; simp only [List.length_singleton]; lia, (fun b hb => ia b (sb' b hb)), (fun b hb => (List.mem_append.mp hb).elim (ia2 b) fun z => by rw [List.mem_singleton.mp z]; exact ia a aas), fun rest hr' => ?_, rfl, rfl⟩
 rw [a1K]
 exact cont _ (.cons hs hr')
end
theorem c6k {H H' : Hp} {a : Addr} {u : HO} (h : Rd H a u) (no : ∀ ps, u ≠ .tbl ps) (g : Keeps H H') : Rd H' a u := h.elim (fun e => .inl (g _ _ (a0y e no))) fun ⟨o, e⟩ => .inr ⟨o, g _ _ (a0y e fun _ z => nomatch z)⟩
theorem a2n {H H' : Hp} {bs : List Addr} {us : List (List Nat)} (T : TupsAt H bs us) (g : Keeps H H') : TupsAt H' bs us := ⟨T.len, fun i b u e1 e2 => g _ _ (a0y (T.is i b u e1 e2) fun _ e => nomatch e)⟩
theorem LsAt.keeps {H H' : Hp} {as : List Addr} {cs : List (List (List Nat))} (h : LsAt H as cs) (g : Keeps H H') : LsAt H' as cs := ⟨h.len, fun i a c e1 e2 => let ⟨bs, h1, h2⟩ := h.is i a c e1 e2; ⟨bs, g _ _ (a0y h1 fun _ e => nomatch e), a2n h2 g⟩⟩
theorem WB.off2 {H : Hp} {D l : Addr} {ts xs : List (List Nat)} {ys : List WE} {us : List V} {o : HO} (h : WB H D ts xs ys) (hl : H l = some (.lst us)) (no : ∀ y ∈ ys, l ∉ y.2.2) : WB (upd H l o) D ts xs ys := by
 refine ⟨h.len, fun i x y e1 e2 => ?_, h.nd⟩
 obtain ⟨a, b, c⟩ := h.each i x y e1 e2
 refine ⟨⟨a.len, by rw [a0d (a1n a.dict hl fun e => nomatch e)]; exact a.dict, fun j b' p h1 h2 => ?_⟩, b, c⟩
 rw [a0d fun (z : b' = l) => no y (a0H e2) (by rw [<- z]; exact a0H h1)]
 exact a.list j b' p h1 h2
theorem a0o {ts xs : List (List Nat)} {c : List (List Nat)} (h : c ∈ classes ts xs) : c ≠ [] /\ c = alike ts xs (c.headD []) /\ c.headD [] ∈ xs /\ ∀ x ∈ c, x ∈ xs /\ Rch ts (c.headD []) x /\ Rch ts x (c.headD []) := by
 obtain ⟨x, hx, rfl⟩ := a0M.mp h
 obtain ⟨h1, h2⟩ := a1F.mp hx
 have e : (alike ts xs x).headD [] = x := by
  have z : (alike ts xs x).head? = some x := eq_of_beq h2
  cases y : alike ts xs x with
  | nil => rw [y] at z; cases z
  | cons a as =>
   rw [y] at z
   injection z with z
 refine ⟨fun z => ?_, by rw [e], by rw [e]; exact h1, fun y hy => ?_⟩
 ·have s := b0p (ts := ts) h1
  rw [z] at s
  cases s
 ·obtain ⟨h3, h4⟩ := a1F.mp hy
  rw [a3M] at h4
  rw [e]
  exact ⟨h3, rch_iff.mp h4.1, rch_iff.mp h4.2⟩
theorem a9z (ts xs : List (List Nat)) : b7n ts (classes ts xs) := fun c hc d hd r1 r2 => by
 obtain ⟨_, e1, _⟩ := a0o hc
 obtain ⟨_, e2, _⟩ := a0o hd
 rw [e1, e2]
 generalize c.headD [] = x at r1 r2
 generalize d.headD [] = y at r1 r2
 refine a6P fun z _ => ?_
 have go : ∀ {x y : List Nat}, rch ts x y = true -> rch ts y x = true -> (rch ts x z && rch ts z x) = true -> (rch ts y z && rch ts z y) = true := fun {x y} a b h => by
  rw [a3M] at h ⊢
  exact ⟨rch_iff.mpr ((rch_iff.mp b).trans (rch_iff.mp h.1)), rch_iff.mpr ((rch_iff.mp h.2).trans (rch_iff.mp a))⟩
 rw [a2W]
 exact ⟨go r1 r2, go r2 r1⟩
def LevAt (H : Hp) (l : Addr) (ts fam : List (List Nat)) (xs : List (List Nat)) (ys : List WE) (a : Addr) (c : List (List Nat)) : Prop := ∃ (s t v : Addr) (bs ds cs : List Addr) (i : Nat) (y : WE), H a = some (.tup [.ref s, .ref t, .ref v]) /\ s ≠ l /\ t ≠ l /\ v ≠ l /\ l ∉ cs /\ H s = some (.lst (bs.map .ref)) /\ TupsAt H bs c /\ H t = some (.lst (ds.map .ref)) /\ TupsAt H ds (a1k fam (c.headD [])) /\ H v = some (.lst (cs.map .ref)) /\ cs.length = c.length /\ xs[i]? = some (c.headD []) /\ ys[i]? = some y /\ Told (a0k ts) ts.length (c.headD []) y.2.1 /\
 (∀ b ∈ cs, b ∈ y.2.2) /\ ∀ (k : Nat) (x : List Nat) (b : Addr), c[k]? = some x -> cs[k]? = some b -> ∃ word, (x, word) ∈ y.2.1 /\ H b = some (.lst (word.map nv))
theorem LevAt.keeps {H H' : Hp} {l : Addr} {ts fam xs : List (List Nat)} {ys : List WE} {a : Addr} {c : List (List Nat)} (h : LevAt H l ts fam xs ys a c) (g : Keeps H H') : LevAt H' l ts fam xs ys a c := by
 obtain ⟨s, t, v, bs, ds, cs, i, y, h1, h2, h3, h4, h5, h6, h7, h8, h9, h10, h11, h12, h13, h14, h15, h16⟩ := h
 refine ⟨s, t, v, bs, ds, cs, i, y, g _ _ (a0y h1 fun _ e => nomatch e), h2, h3, h4, h5, g _ _ (a0y h6 fun _ e => nomatch e), a2n h7 g, g _ _ (a0y h8 fun _ e => nomatch e), a2n h9 g, g _ _ (a0y h10 fun _ e => nomatch e), h11, h12, h13, h14, h15, fun k x b e1 e2 => ?_⟩
 obtain ⟨word, z1, z2⟩ := h16 k x b e1 e2
 exact ⟨word, z1, g _ _ (a0y z2 fun _ e => nomatch e)⟩
theorem LevAt.off {H : Hp} {l : Addr} {ts fam xs : List (List Nat)} {ys : List WE} {a : Addr} {c : List (List Nat)} {us : List V} {o : HO} (h : LevAt H l ts fam xs ys a c) (hl : H l = some (.lst us)) : LevAt (upd H l o) l ts fam xs ys a c := by
 obtain ⟨s, t, v, bs, ds, cs, i, y, h1, h2, h3, h4, h5, h6, h7, h8, h9, h10, h11, h12, h13, h14, h15, h16⟩ := h
 refine ⟨s, t, v, bs, ds, cs, i, y, by rw [a0d (a1n h1 hl fun e => nomatch e)]; exact h1, h2, h3, h4, h5, by rw [a0d h2]; exact h6, a7b h7 hl (fun _ e => nomatch e), by rw [a0d h3]; exact h8, a7b h9 hl (fun _ e => nomatch e), by rw [a0d h4]; exact h10, h11, h12, h13, h14, h15, fun k x b e1 e2 => ?_⟩
 obtain ⟨word, z1, z2⟩ := h16 k x b e1 e2
 refine ⟨word, z1, ?_⟩
 rw [a0d fun (z : b = l) => h5 (by rw [<- z]; exact a0H e2)]
 exact z2
structure LevsAt (H : Hp) (l : Addr) (ts fam xs : List (List Nat)) (ys : List WE) (as : List Addr) (told : List (List (List Nat))) : Prop where
 len : as.length = told.length
 is : ∀ (i : Nat) (a : Addr) (c : List (List Nat)), as[i]? = some a -> told[i]? = some c -> LevAt H l ts fam xs ys a c
def c7r (H H' : Hp) (a : Addr) : Prop := ∃ s t v, H' a = some (.tup [.ref s, .ref t, .ref v]) /\ L2.noT H s = none /\ L2.noT H t = none /\ L2.noT H v = none
def b7q (T : Addr) (pos : Pos) : Sp := fun vs H Q _ => ∃ (m : Addr) (ts : List (List Nat)) (n : Nat), vs = [.ref m] /\ Mach H m ts n /\ Tabs H /\
 ∀ l as told fam ys H', Keeps H H' -> Tabs H' -> L2.noT H l = none -> H' l = some (.lst (as.map .ref)) -> FamOf ts n fam -> Ord ts (classes ts (big fam)) told -> (∀ c ∈ told, c ∈ classes ts (big fam)) -> told.length <= 32 -> LevsAt H' l ts fam (big fam) ys as told -> (∀ y ∈ ys, ∀ b ∈ y.2.2, L2.noT H b = none) -> ys.Pairwise (fun p q => ∀ b ∈ p.2.2, b ∉ q.2.2) -> (∀ a ∈ as, c7r H H' a) -> Q (.ref l) H'
section
variable {P : Program} {w : World} {K : W.Frag} {mg : Str -> Option Value} {base : Heap} {f : Addr} {fd : FuncData}
theorem c3o {T : Addr} (F : Fun K "levels" "levels" a6k f fd) (c_words_between : a0l P w K mg base "words_between" 16 ["machine"] (a6b T (⟨46, 40, 46, 93⟩ : Pos))) (c_sets_of_levels : a0l P w K mg base "sets_of_levels" 3 ["words"] b7m) (c_levels_in_order : a0l P w K mg base "levels_in_order" 3 ["words", "waiting"] b0q) (c_tiles : a0l P w K mg base "tiles" 16 ["machine", "rooms"] (c3i T (⟨46, 40, 46, 93⟩ : Pos))) : FnOk P w K mg base CX0 18 f fd ["machine"] (b7q T (⟨46, 40, 46, 93⟩ : Pos)) := by
 refine F.ok scLevels (fun vs H Q E h => ?_) (fun cdv A outer s H vs Q E hr h => ?_)
 ·obtain ⟨m, ts, n, rfl, _⟩ := h
  rfl
 obtain ⟨m, ts, n, rfl, M, hT, q⟩ := h
 have hu := hr.units
 have hu1 := a8r hr
 refine ⟨_, (a0f (a0r (i := 1) scLevels.nd rfl (Or.inr rfl) (a0m c_words_between (hr.mono (by decide)) rfl (a0g (pv 0) a0j))) (a0f (a0r (i := 2) scLevels.nd rfl (Or.inl rfl) (a3y a0j)) (a0f (a3w a2E rfl (a1v (a0m c_levels_in_order (hr.mono (by decide)) rfl (a2a (a0e (pv 1) (a0e (a0m c_sets_of_levels (hr.mono (by decide)) rfl (a0g (pv 1) a0j)) a1c rfl) rfl)))) (a1y (i := 3) scLevels.nd rfl (Or.inl rfl)) (a0f (a0r (i := 4) scLevels.nd rfl (Or.inr rfl) (a1x a2e (pv 3) a0q (fun _ _ => rfl))) (a0f (b6j (CompSc.to (N := ["machine", "words", "told", "sets", "face", "ways"]) (osc := a0b a6k) (vs := ["rooms"]) {}) rfl rfl scLevels.nd (j := 5) rfl rfl (a1v (pv 3)) (fun _ _ _ _ => a2t) (fun _ _ _ _ => (a7g hu1 (a7g hu1 (pv 2) (pv 5) (fun _ _ => rfl)) (pv 0) (fun _ _ => rfl)))) (a0i (a4k (a9t a2F a3E a3F a3l (pv 2) (a0g (c0c (a2a (a0e (pv 3) (a0e (a0m c_tiles (hr.mono (by decide)) rfl (a2a (a0e (pv 0) (a0e (pv 4) a1c rfl) rfl))) (a0e (pv 5) a1c rfl) rfl) rfl))) a0j))))))) (a0i (a1b (pv 2)))))), ?_⟩
 refine ⟨_, rfl, m, ts, n, rfl, M, hT, fun D fam ys H1 k1 T1 nD ff eD wb nw ap => ?_⟩
 have few := ff.few M
 have fewB : (big fam).length <= 32 := a1A (a1R _ _) few
 refine ⟨by show 0 <= sizeLine; decide, fun to hto => ?_⟩
 have kt := a0c hto (.lst [])
 have nto : ∀ y ∈ ys, to ∉ y.2.2 := fun y hy hb => by
  obtain ⟨j, ej⟩ := a1C.mp hy
  have lj := (a0B.mp ej).1
  have hl := wb.len
  obtain ⟨x', ex'⟩ : ∃ x', (big fam)[j]? = some x' := ⟨_, a0A (by lia)⟩
  obtain ⟨a', _⟩ := wb.each j x' y ex' ej
  obtain ⟨j2, ej2⟩ := a1C.mp hb
  have lj2 := (a0B.mp ej2).1
  have z2 := a'.list j2 to _ ej2 (a0A (by rw [<- a'.len]; exact lj2))
  rw [hto] at z2
  cases z2
 have toD : to ≠ D := (a0h eD hto).symm
 have eD2 := kt _ _ eD
 refine ⟨_, rfl, _, rfl, D, ts, big fam, ys, rfl, eD2, wb.same kt, fewB, fun wl o as H3 g3 nwl ewl Lw fras => ?_⟩
 have eD3 : H3 D = some (.frz o (.dT (kvW (big fam) ys))) := g3 _ _ a0a
 have wb3 : WB H3 D ts (big fam) ys := ((wb.same kt).off eD2).same g3
 have k13 : ∀ {b : Addr} {u : HO}, b ≠ D -> upd H1 to (.lst []) b = some u -> H3 b = some u := fun nb hb => g3 _ _ (by rw [a0d nb]; exact hb)
 have eto3 : H3 to = some (.lst []) := k13 toD a0a
 have noD : ∀ {b : Addr} {u : HO}, L2.noT H b = some u -> b ≠ D := fun hb z => by
  subst z
  rw [nD] at hb
  cases hb
 have kH3 : Keeps H H3 := fun b u hb => k13 (noD hb) (kt _ _ (k1 _ _ hb))
 have T3 : Tabs H3 := (T1.same kt).most fun b u nd _ hb => k13 (a1n hb eD2 fun e => nd _ e) hb
 have clx : ∀ d ∈ classes ts (big fam), d ≠ [] /\ ∀ x ∈ d, x ∈ big fam := fun d hd => ⟨(a0o hd).1, fun x hx => ((a0o hd).2.2.2 x hx).1⟩
 have fewC : (classes ts (big fam)).length <= 32 := by
  unfold classes
  rw [a0D]
  exact a1A (a1R _ _) fewB
 refine ⟨D, wl, ts, big fam, ys, _, as, rfl, .inr ⟨o, eD3⟩, wb3, ewl, Lw, clx, a9z ts _, fewC, fun ol as2 told H4 g4 nol eol Lo od lim sub ia2 => ?_⟩
 have lo := Lo.len
 have tool : ol ≠ to := (a0h eto3 nol).symm
 have nol2 : to ∉ as2 := fun z => by
  obtain ⟨j, ej⟩ := a1C.mp z
  have lj := (a0B.mp ej).1
  obtain ⟨bs, e, _⟩ := Lo.is j to _ ej (a0A (by rw [<- lo]; exact lj))
  have ec := a2Y (show j < told.length by lia)
  have z1 := g4 _ _ eto3
  rw [e] at z1
  injection z1 with z1
  injection z1 with z1
  have z2 : bs = [] := List.map_eq_nil_iff.mp z1
  obtain ⟨bs', e', Tb'⟩ := Lo.is j to _ ej (a0A (by lia))
  rw [e] at e'
  injection e' with e'
  injection e' with e'
  rw [z2] at e'
  have z3 : bs' = [] := List.map_eq_nil_iff.mp e'.symm
  have z4 := Tb'.len
  rw [z3] at z4
  exact (a0o (sub _ ec)).1 (a2V.mp z4.symm)
 have kH4 : Keeps H H4 := kH3.trans g4.keeps
 have T4 := T3.same g4
 have eto4 := g4 _ _ eto3
 have nTo : L2.noT H to = none := by
  cases z : L2.noT H to with
  | none => rfl
  | some u =>
   have z2 := k1 _ _ z
   rw [hto] at z2
   cases z2
 let Pv : Nat -> L2.St -> Hp -> Prop := fun i σ H' => Keeps H H' /\ Tabs H' /\ H' ol = some (.lst (as2.map .ref)) /\ LsAt H' as2 told /\ Rd H' D (.dT (kvW (big fam) ys)) /\ WB H' D ts (big fam) ys /\ ∃ ls o3 o4 o5, H' to = some (.lst (ls.map .ref)) /\ LevsAt H' to ts fam (big fam) ys ls (told.take i) /\ (∀ a ∈ ls, c7r H H' a) /\ σ = [some (.ref m), some (.ref D), some (.ref to), o3, o4, o5]
 refine ⟨ol, rfl, ⟨_, SqL.of eol⟩, a3x (xs := as2.map .ref) Pv ⟨kH4, T4, eol, Lo, .inr ⟨o, g4 _ _ eD3⟩, wb3.same g4, [], none, none, none, eto4, ⟨rfl, fun i a c e => by simp at e⟩, (fun _ h => nomatch h), rfl⟩ (fun i σ H' _ p => SqL.of p.2.2.1) (fun i v σ H5 hv p => ?_) (fun σ H5 p => ?_)⟩
 ·obtain ⟨k5, T5, eol5, Lo5, rd5, wb5, ls, o3, o4, o5, eto5, Lv5, nl5, rfl⟩ := p
  rw [a0E] at hv
  obtain ⟨a, ea, rfl⟩ := a0O.mp hv
  have li := (a0B.mp ea).1
  obtain ⟨c, ec⟩ : ∃ c, told[i]? = some c := ⟨_, a0A (by lia)⟩
  obtain ⟨bs, ha, Ta⟩ := Lo5.is i a c ea ec
  obtain ⟨cne, _, cx, call⟩ := a0o (sub c (a0H ec))
  obtain ⟨b0, at0, hb0, m0⟩ := b1y Ta cne
  have lbs := Ta.len
  have c32 : c.length <= 32 := by
   rw [(a0o (sub c (a0H ec))).2.1]
   exact a1A (a1R _ _) fewB
  have ato : a ≠ to := fun z => nol2 (z ▸ a0H ea)
  obtain ⟨W, ws, wa, dg, wt, tt, ix, ex, ey⟩ := wb5.get rd5 cx hb0
  refine ⟨_, rfl, a, _, _, _, rfl, rfl, SqL.of ha, at0, ?_⟩
  refine ⟨_, rfl, a, rfl, ⟨_, SqL.of ha⟩, a2f (xs := bs.map .ref) (fun j ys' H' => H' = H5 /\ ∃ cs : List Addr, ys' = cs.map V.ref /\ cs.length = j /\ (∀ b ∈ cs, b ∈ wa) /\ ∀ (k : Nat) (x : List Nat) (b : Addr), c[k]? = some x -> cs[k]? = some b -> ∃ word, (x, word) ∈ ws /\ H5 b = some (.lst (word.map nv))) (by rw [a0D, a1B]; lia) ⟨rfl, [], rfl, rfl, fun _ h => (nomatch h), fun k x b _ e => by simp at e⟩ (fun j ys' H' hi p => ?_) (fun j v ys' H' hv p => ?_) (fun ys' H' p wy hwy => ?_)⟩
  ·obtain ⟨rfl, cs, rfl, e, _⟩ := p
   exact ⟨SqL.of ha, by rw [a0D]; lia⟩
  ·obtain ⟨rfl, cs, rfl, e, sb, al⟩ := p
   rw [a0E] at hv
   obtain ⟨b, eb, rfl⟩ := a0O.mp hv
   have lj := (a0B.mp eb).1
   obtain ⟨x, exj⟩ : ∃ x, c[j]? = some x := ⟨_, a0A (by lia)⟩
   have hb := Ta.is j b x eb exj
   obtain ⟨_, r1, _⟩ := call x (a0H exj)
   obtain ⟨⟨x', u⟩, hp, e'⟩ := a0M.mp ((b1w tt x).mpr r1)
   have e2 : x' = x := e'
   subst e2
   obtain ⟨wl', v1, v2⟩ := wt.word tt.keys hp
   have dg2 : DGet H' W (.ref b) (some (.ref wl')) := .inr ⟨_, nk x', b, .inl wt.dict, rfl, by rw [a5y]; exact hb, v1.symm⟩
   refine ⟨a1w, a6q ⟨_, rfl, _, rfl, D, _, rfl, dg, _, rfl, W, _, rfl, dg2, rfl, cs ++ [wl'], by simp, by simp [e], fun b' hb' => ?_, fun k x b' e1 e2 => ?_⟩⟩
   ·exact (a0K.mp hb').elim (sb b') fun h => by rw [a0F.mp h]; exact c9a v1
   ·by_cases hk : k < cs.length
    ·rw [a0P hk] at e2
     exact al k x b' e1 e2
    ·rw [a0T (by lia)] at e2
     have z : k - cs.length = 0 := by
      have := (a0B.mp e2).1
      simp at this
      lia
     rw [z] at e2
     cases e2
     have kj : k = j := by lia
     subst kj
     rw [exj] at e1
     cases e1
     exact ⟨u, hp, v2⟩
  ·obtain ⟨rfl, cs, rfl, ecs, sb, al⟩ := p
   rw [a0D] at ecs
   have kw := a0c hwy (.lst (cs.map V.ref))
   have wyto : wy ≠ to := (a0h eto5 hwy).symm
   have ewy : upd H' wy (.lst (cs.map V.ref)) wy = some (.lst (cs.map V.ref)) := a0a
   generalize upd H' wy (.lst (cs.map V.ref)) = H6 at kw ewy ⊢
   have eto6 := kw _ _ eto5
   refine ⟨_, rfl, .inl ⟨rfl, _, SqL.of eto6⟩, _, rfl, _, rfl, _, rfl, m, b0, ts, n, c.headD [], rfl, (M.keeps k5).same kw, kw _ _ hb0, T5.same kw, fun tl ds us fam1 H7 k7 T7 ntl etl Td ff1 eus => ?_⟩
   have ef : fam1 = fam := ff1.uniq ff
   subst ef
   subst eus
   have eto7 := k7 _ _ (a0y eto6 fun _ e => nomatch e)
   have tlto : tl ≠ to := fun z => by
    subst z
    rw [a0y eto6 fun _ e => nomatch e] at ntl
    cases ntl
   refine ⟨_, rfl, by show 3 <= sizeLine; decide, fun lv hlv => ?_⟩
   have kl := a0c hlv (.tup [.ref a, .ref tl, .ref wy])
   have elv : upd H7 lv (.tup [.ref a, .ref tl, .ref wy]) lv = some (.tup [.ref a, .ref tl, .ref wy]) := a0a
   have kk : Keeps H' (upd H7 lv (.tup [.ref a, .ref tl, .ref wy])) := (kw.keeps.trans k7).trans kl.keeps
   have k6l : Keeps H6 (upd H7 lv (.tup [.ref a, .ref tl, .ref wy])) := k7.trans kl.keeps
   have etl8 := kl _ _ etl
   have Td8 := Td.same kl
   have T8 := T7.same kl
   have eto8 := kl _ _ eto7
   generalize upd H7 lv (.tup [.ref a, .ref tl, .ref wy]) = H8 at kl elv kk k6l etl8 Td8 T8 eto8 ⊢
   have lls := Lv5.len
   rw [a1U] at lls
   refine ⟨to, _, _, rfl, rfl, eto8, by rw [a0D, a1B]; lia, ?_⟩
   have at1 : ∀ {b : Addr} {u : HO}, H' b = some u -> (∀ ps, u ≠ .tbl ps) -> H8 b = some u := fun hb no => kk _ _ (a0y hb no)
   refine ⟨fun b u hb => ?_, ?_, ?_, ?_, ?_, ?_, ls ++ [lv], _, _, _, by rw [a0a, a1M]; rfl, ⟨?_, fun j a' c' e1 e2 => ?_⟩, fun a' ha' => ?_, rfl⟩
   ·rw [a0d fun (z : b = to) => by subst z; rw [nTo] at hb; cases hb]
    exact (k5.trans kk) _ _ hb
   ·exact T8.most fun b' u _ nl hb' => by rw [a0d (a1n hb' eto8 fun e => nl _ e)]; exact hb'
   ·rw [a0d tool]
    exact at1 eol5 fun _ e => nomatch e
   ·exact (Lo5.keeps kk).off eto8 nol2
   ·rcases c6k rd5 (fun _ e => nomatch e) kk with z | ⟨o', z⟩
    ·exact .inl (by rw [a0d (a1n z eto8 fun e => nomatch e)]; exact z)
    ·exact .inr ⟨o', by rw [a0d (a1n z eto8 fun e => nomatch e)]; exact z⟩
   ·exact (wb5.keeps kk).off2 eto8 nto
   ·rw [a0Z, a1U]
    simp only [List.length_singleton]
    lia
   ·have lt' : told.take (i + 1) = told.take i ++ [c] := by rw [a2O, ec]; rfl
    rw [lt'] at e2
    by_cases hj : j < ls.length
    ·rw [a0P hj] at e1
     rw [a0P (by rw [a1U]; lia)] at e2
     exact ((Lv5.is j a' c' e1 e2).keeps kk).off eto8
    ·rw [a0T (by lia)] at e1
     rw [a0T (by rw [a1U]; lia)] at e2
     have z : j - ls.length = 0 := by
      have := (a0B.mp e1).1
      simp at this
      lia
     have z' : j - (told.take i).length = 0 := by rw [a1U]; lia
     rw [z] at e1
     rw [z'] at e2
     cases e1
     cases e2
     refine LevAt.off ⟨a, tl, wy, bs, ds, cs, ix, (W, ws, wa), elv, ato, tlto, wyto, fun z => nto _ (a0H ey) (sb _ z), at1 ha (fun _ e => nomatch e), a2n Ta kk, etl8, Td8, k6l _ _ (a0y ewy fun _ e => nomatch e), by lia, ex, ey, tt, sb, fun k x b e1 e2 => ?_⟩ eto8
     obtain ⟨word, z1, z2⟩ := al k x b e1 e2
     exact ⟨word, z1, at1 z2 fun _ e => nomatch e⟩
   ·rcases a0K.mp ha' with z | z
    ·obtain ⟨s', t', v', z1, z2⟩ := nl5 a' z
     exact ⟨s', t', v', (by rw [a0d (a1n (at1 z1 fun _ e => nomatch e) eto8 fun e => nomatch e)]; exact at1 z1 fun _ e => nomatch e), z2⟩
    ·rw [a0F.mp z]
     refine ⟨a, tl, wy, by rw [a0d (a1n elv eto8 fun e => nomatch e)]; exact elv, ?_, ?_, ?_⟩
     ·have z1 := fras a (ia2 a (a0H ea))
      cases y : L2.noT H a with
      | none => rfl
      | some u =>
       rw [kt _ _ (k1 _ _ y)] at z1
       cases z1
     ·cases y : L2.noT H tl with
      | none => rfl
      | some u =>
       have z1 := kw _ _ (k5 _ _ y)
       rw [a0y z1 (b3g y).2] at ntl
       cases ntl
     ·cases y : L2.noT H wy with
      | none => rfl
      | some u =>
       rw [k5 _ _ y] at hwy
       cases hwy
 ·obtain ⟨k5, T5, eol5, Lo5, rd5, wb5, ls, o3, o4, o5, eto5, Lv5, nl5, rfl⟩ := p
  rw [a0D, lo, a2B] at Lv5
  exact ⟨_, rfl, q to ls told fam ys H5 k5 T5 nTo eto5 ff od sub lim Lv5 nw ap nl5⟩
end
theorem sub_iff {x y : List Nat} : sub x y = true ↔ ∀ r ∈ x, r ∈ y := by
 unfold sub
 rw [a4Z]
 exact ⟨fun h r hr => a1G.mp (h r hr), fun h r hr => a1G.mpr (h r hr)⟩
theorem b0r {n : Nat} {u v : List Nat} (hu : u ∈ a1g n) (hv : v ∈ a1g n) (h : sub u v = true) (ne : u ≠ v) : u.length < v.length := by
 obtain ⟨u1, _⟩ := mem_setsU.mp hu
 obtain ⟨v1, _⟩ := mem_setsU.mp hv
 have s := sub_iff.mp h
 have e : ∃ z ∈ List.range 5, u.contains z = false /\ v.contains z = true := by
  refine a6V fun no => ne ?_
  rw [<- u1, <- v1]
  unfold a1o
  refine a6P fun z hz => ?_
  rw [a2W]
  constructor
  ·exact fun q => a1G.mpr (s z (a1G.mp q))
  ·intro q
   cases c : u.contains z with
   | true => rfl
   | false => exact absurd ⟨z, hz, c, q⟩ no
 have z := a7m (xs := List.range 5) (p := fun i => u.contains i) (q := fun i => v.contains i) (fun z _ q => a1G.mpr (s z (a1G.mp q))) e
 rw [a6D, a6D] at z
 unfold a1o at u1 v1
 rw [u1, v1] at z
 exact z
structure TileFacts (fam : List (List Nat)) (x : List Nat) (us : List (List Nat)) : Prop where
 mem : ∀ u ∈ us, u ∈ fam /\ u ≠ x /\ sub u x = true
 apart : ∀ u ∈ us, ∀ v ∈ us, u ≠ v -> sub u v = false
 up : us.Pairwise fun a b => a5j gl a b = true
 all : ∀ u ∈ fam, u ≠ x -> sub u x = true -> ∃ t ∈ us, sub u t = true
 few : us.length <= 32
 few2 : fam.length <= 32
 l5 : ∀ u ∈ fam, u.length <= 5
theorem a2o {H : Hp} {m : Addr} {ts : List (List Nat)} {n : Nat} {fam : List (List Nat)} (M : Mach H m ts n) (ff : FamOf ts n fam) (x : List Nat) : TileFacts fam x (a1k fam x) := by
 have few := ff.few M
 have ins : ∀ u, u ∈ a2m fam x ↔ u ∈ fam /\ u ≠ x /\ sub u x = true := fun u => by
  unfold a2m
  rw [a1F, a3M, a4N]
 have cov : ∀ u, a3e (a2m fam x) u = true ↔ ∃ v ∈ a2m fam x, v ≠ u /\ sub u v = true := fun u => by
  unfold a3e
  rw [a8C]
  constructor
  ·rintro ⟨v, h1, h2⟩
   rw [a3M, a4N] at h2
   exact ⟨v, h1, h2⟩
  ·rintro ⟨v, h1, h2⟩
   exact ⟨v, h1, by rw [a3M, a4N]; exact h2⟩
 have til : ∀ u, u ∈ a1k fam x ↔ u ∈ a2m fam x /\ a3e (a2m fam x) u = false := fun u => by
  unfold a1k
  rw [a1F]
  refine and_congr Iff.rfl ?_
  cases a3e (a2m fam x) u <;> simp
 have lu : ∀ u ∈ fam, u.length <= 5 := fun u h => a1A (a3b M.n5 (ff.inU M h)) M.n5
 have climb : ∀ (d : Nat) (u : List Nat), u ∈ a2m fam x -> 5 - u.length <= d -> ∃ t ∈ a1k fam x, sub u t = true := by
  intro d
  induction d with
  | zero =>
   intro u hu hd
   cases c : a3e (a2m fam x) u with
   | false => exact ⟨u, (til u).mpr ⟨hu, c⟩, sub_iff.mpr fun r hr => hr⟩
   | true =>
    obtain ⟨v, hv, h1, h2⟩ := (cov u).mp c
    have := b0r (ff.inU M ((ins u).mp hu).1) (ff.inU M ((ins v).mp hv).1) h2 (a3R h1)
    have := lu v ((ins v).mp hv).1
    lia
  | succ d ih =>
   intro u hu hd
   cases c : a3e (a2m fam x) u with
   | false => exact ⟨u, (til u).mpr ⟨hu, c⟩, sub_iff.mpr fun r hr => hr⟩
   | true =>
    obtain ⟨v, hv, h1, h2⟩ := (cov u).mp c
    have := b0r (ff.inU M ((ins u).mp hu).1) (ff.inU M ((ins v).mp hv).1) h2 (a3R h1)
    obtain ⟨t, ht, h3⟩ := ih v hv (by lia)
    exact ⟨t, ht, sub_iff.mpr fun r hr => sub_iff.mp h3 r (sub_iff.mp h2 r hr)⟩
 refine ⟨fun u hu => (ins u).mp ((til u).mp hu).1, fun u hu v hv ne => ?_, ?_, fun u h1 h2 h3 => climb 5 u ((ins u).mpr ⟨h1, h2, h3⟩) (by lia), ?_, few, lu⟩
 ·cases c : sub u v with
  | false => rfl
  | true =>
   have z := (cov u).mpr ⟨v, ((til v).mp hv).1, a3R ne, c⟩
   rw [((til u).mp hu).2] at z
   cases z
 ·exact (ff.up.filter _).filter _
 ·exact a1A (a1R _ _) (a1A (a1R _ _) few)
theorem c3p (x : List Nat) : a5j gl x x = false := (a3a gl [x]).irr x
theorem a5o {K : W.Frag} {H : Hp} {fs : List Addr} {fam : List (List Nat)} {n : Nat} (T : TupsAt H fs fam) (i : Nat) (d : Dt) (v : V) (e1 : (fam.map fun u => Dt.tup (dtN u))[i]? = some d) (e2 : (fs.map V.ref)[i]? = some v) : Rep K H (n + 1) d v := by
 rw [a0E] at e1 e2
 obtain ⟨p, ep, rfl⟩ := a0O.mp e1
 obtain ⟨a, ea, rfl⟩ := a0O.mp e2
 exact a4x (SqT.of (T.is i a p ea ep))
theorem d2r {u : List Nat} {fam : List (List Nat)} : Dt.tup (dtN u) ∈ fam.map (fun u => Dt.tup (dtN u)) ↔ u ∈ fam := by
 rw [a0M]
 constructor
 ·rintro ⟨v, h1, h2⟩
  injection h2 with h2
  rw [<- b5s h2]
  exact h1
 ·exact fun h => ⟨u, h, rfl⟩
def itr (f : Nat -> Nat) : Nat -> Nat -> Nat
 | 0, r => r
 | k + 1, r => itr f k (f r)
theorem b5v (f : Nat -> Nat) : ∀ (a b r : Nat), itr f (a + b) r = itr f b (itr f a r)
 | 0, b, r => by rw [a8A]; rfl
 | a + 1, b, r => by
  rw [Nat.add_right_comm]
  exact b5v f a b (f r)
theorem a7q {f : Nat -> Nat} {d r : Nat} (h : itr f d r = r) : ∀ k, itr f (d * k) r = r
 | 0 => rfl
 | k + 1 => by rw [Nat.mul_succ, b5v, a7q h k, h]
theorem a8o (ts : List (List Nat)) (r : Nat) (u v : List Nat) : a3d ts r (u ++ v) = a3d ts (a3d ts r u) v := by
 unfold a3d
 rw [a3U]
def c7s (u : List Nat) : Nat -> List Nat
 | 0 => []
 | k + 1 => u ++ c7s u k
theorem b7r (ts : List (List Nat)) (u : List Nat) : ∀ (k r : Nat), a3d ts r (c7s u k) = itr (fun r => a3d ts r u) k r
 | 0, _ => rfl
 | k + 1, r => by
  show a3d ts r (u ++ c7s u k) = _
  rw [a8o, b7r ts u k]
  rfl
theorem b7s {u : List Nat} {l : Nat} : ∀ {k : Nat}, l ∈ c7s u k -> l ∈ u
 | 0, h => nomatch h
 | k + 1, h => (a0K.mp h).elim id b7s
theorem a2g (ts : List (List Nat)) (x u v : List Nat) : a0z (a0k ts) x (u ++ v) = a0z (a0k ts) (a0z (a0k ts) x u) v := by
 unfold a0z
 rw [a3U]
theorem a5p {n : Nat} {x y : List Nat} (hx : x ∈ a1g n) (hy : y ∈ a1g n) (h : ∀ r, r ∈ x ↔ r ∈ y) : x = y := by
 rw [<- (mem_setsU.mp hx).1, <- (mem_setsU.mp hy).1]
 exact b4a h
theorem a2y {n : Nat} {x : List Nat} (hx : x ∈ a1g n) : x.Nodup := by
 rw [<- (mem_setsU.mp hx).1]
 unfold a1o
 exact a9I a5U List.nodup_range
theorem a1h {H : Hp} {m : Addr} {ts : List (List Nat)} {n : Nat} (M : Mach H m ts n) {x word : List Nat} (hx : x ∈ a1g n) (hw : ∀ l ∈ word, l < ts.length) {r : Nat} : r ∈ a0z (a0k ts) x word ↔ ∃ r0 ∈ x, a3d ts r0 word = r := by
 have n5 := M.n5
 rw [a3t M word x hx hw]
 constructor
 ·intro h
  obtain ⟨r0, h1, h2⟩ := a0M.mp (a5v h)
  exact ⟨r0, h1, h2⟩
 ·rintro ⟨r0, h1, rfl⟩
  have := a3s M word r0 ((mem_setsU.mp hx).2 r0 h1) hw
  exact b1s (a0M.mpr ⟨r0, h1, rfl⟩) (by lia)
theorem a1i {H : Hp} {m : Addr} {ts : List (List Nat)} {n : Nat} (M : Mach H m ts n) {x word : List Nat} (hx : x ∈ a1g n) (hw : ∀ l ∈ word, l < ts.length) : a0z (a0k ts) x word ∈ a1g n := a6g hx (fun y hy l hl => a7p M hy hl) word hw
structure Bij (ts : List (List Nat)) (x y w p : List Nat) : Prop where
 to : a0z (a0k ts) x w = y
 fro : a0z (a0k ts) y p = x
 lw : ∀ l ∈ w, l < ts.length
 lp : ∀ l ∈ p, l < ts.length
 here : ∀ r ∈ x, a3d ts (a3d ts r w) p = r
 there : ∀ r ∈ y, a3d ts (a3d ts r p) w = r
theorem Bij.symm {ts : List (List Nat)} {x y w p : List Nat} (b : Bij ts x y w p) : Bij ts y x p w := ⟨b.fro, b.to, b.lp, b.lw, b.there, b.here⟩
theorem b7t {x : List Nat} {f : Nat -> Nat} (nd : x.Nodup) (on : ∀ r ∈ x, ∃ r0 ∈ x, f r0 = r) : ∀ a ∈ x, ∀ b ∈ x, f a = f b -> a = b := fun a ha b hb e => by
 by_cases ne : a = b
 ·exact ne
 have z := a2N (l₂ := (x.erase a).map f) nd fun r hr => by
  obtain ⟨r0, h1, h2⟩ := on r hr
  by_cases ra : r0 = a
  ·exact a0M.mpr ⟨b, (List.mem_erase_of_ne (a3R ne)).mpr hb, by rw [<- e, <- ra, h2]⟩
  ·exact a0M.mpr ⟨r0, (List.mem_erase_of_ne ra).mpr h1, h2⟩
 rw [a0D, List.length_erase_of_mem ha] at z
 have := a7K ha
 lia
theorem c3q {x : List Nat} {f : Nat -> Nat} (cl : ∀ r ∈ x, f r ∈ x) : ∀ (k r : Nat), r ∈ x -> itr f k r ∈ x
 | 0, _, h => h
 | k + 1, r, h => c3q cl k (f r) (cl r h)
theorem c3r {x : List Nat} {f : Nat -> Nat} (cl : ∀ r ∈ x, f r ∈ x) (inj : ∀ a ∈ x, ∀ b ∈ x, f a = f b -> a = b) : ∀ (k : Nat), ∀ a ∈ x, ∀ b ∈ x, itr f k a = itr f k b -> a = b
 | 0, _, _, _, _, e => e
 | k + 1, a, ha, b, hb, e => inj a ha b hb (c3r cl inj k (f a) (cl a ha) (f b) (cl b hb) e)
theorem round {x : List Nat} {f : Nat -> Nat} (l5 : x.length <= 5) (cl : ∀ r ∈ x, f r ∈ x) (inj : ∀ a ∈ x, ∀ b ∈ x, f a = f b -> a = b) (r : Nat) (hr : r ∈ x) : itr f 60 r = r := by
 have : ∃ d, 1 <= d /\ d <= 5 /\ itr f d r = r := by
  by_cases h : ∃ i j, i < j /\ j <= 5 /\ itr f i r = itr f j r
  ·obtain ⟨i, j, h1, h2, h3⟩ := h
   refine ⟨j - i, by lia, by lia, ?_⟩
   have e : j = (j - i) + i := by lia
   rw [e, b5v] at h3
   exact (c3r cl inj i r hr _ (c3q cl (j - i) r hr) h3).symm
  ·have nd : ((List.range 6).map fun i => itr f i r).Nodup := by
    rw [a2T, a4F]
    refine List.Pairwise.imp_of_mem ?_ List.pairwise_lt_range
    intro i j hi hj lt e
    exact h ⟨i, j, lt, by have := a2G.mp hj; lia, e⟩
   have z := a2N (l₂ := x) nd fun y hy => by
    obtain ⟨i, _, rfl⟩ := a0M.mp hy
    exact c3q cl i r hr
   rw [a0D, a4W] at z
   lia
 obtain ⟨d, h1, h2, h3⟩ := this
 have : d = 1 ∨ d = 2 ∨ d = 3 ∨ d = 4 ∨ d = 5 := by lia
 rcases this with rfl | rfl | rfl | rfl | rfl
 ·exact a7q h3 60
 ·exact a7q h3 30
 ·exact a7q h3 20
 ·exact a7q h3 15
 ·exact a7q h3 12
theorem c3s {H : Hp} {m : Addr} {ts : List (List Nat)} {n : Nat} (M : Mach H m ts n) {x y w : List Nat} (hx : x ∈ a1g n) (lw : ∀ l ∈ w, l < ts.length) (e : a0z (a0k ts) x w = y) (back : Rch ts y x) : ∃ p, Bij ts x y w p := by
 obtain ⟨v, lv, ev⟩ := back
 have hy : y ∈ a1g n := by rw [<- e]; exact a1i M hx lw
 have lwv : ∀ l ∈ w ++ v, l < ts.length := fun l hl => (a0K.mp hl).elim (lw l) (lv l)
 have ex : a0z (a0k ts) x (w ++ v) = x := by rw [a2g, e, ev]
 have cl : ∀ r ∈ x, a3d ts r (w ++ v) ∈ x := fun r hr => by
  have z := (a1h M hx lwv).mpr ⟨r, hr, rfl⟩
  rw [ex] at z
  exact z
 have on : ∀ r ∈ x, ∃ r0 ∈ x, a3d ts r0 (w ++ v) = r := fun r hr => (a1h M hx lwv).mp (by rw [ex]; exact hr)
 have inj := b7t (a2y hx) on
 have rd := round (f := fun r => a3d ts r (w ++ v)) (a1A (a3b M.n5 hx) M.n5) cl inj
 have here : ∀ r ∈ x, a3d ts (a3d ts r w) (v ++ c7s (w ++ v) 59) = r := fun r hr => by
  rw [<- a8o, <- a1K, a8o, b7r]
  exact rd r hr
 have lp : ∀ l ∈ v ++ c7s (w ++ v) 59, l < ts.length := fun l hl => (a0K.mp hl).elim (lv l) fun h => lwv l (b7s h)
 have there : ∀ r ∈ y, a3d ts (a3d ts r (v ++ c7s (w ++ v) 59)) w = r := fun r hr => by
  rw [<- e] at hr
  obtain ⟨r0, h1, rfl⟩ := (a1h M hx lw).mp hr
  rw [here r0 h1]
 refine ⟨v ++ c7s (w ++ v) 59, e, a5p (a1i M hy lp) hx fun r => ?_, lw, lp, here, there⟩
 rw [a1h M hy lp]
 constructor
 ·rintro ⟨r0, h1, rfl⟩
  rw [<- e] at h1
  obtain ⟨r1, h2, rfl⟩ := (a1h M hx lw).mp h1
  rw [here r1 h2]
  exact h2
 ·intro h
  exact ⟨a3d ts r w, by rw [<- e]; exact (a1h M hx lw).mpr ⟨r, h, rfl⟩, here r h⟩
theorem Bij.back {H : Hp} {m : Addr} {ts : List (List Nat)} {n : Nat} (M : Mach H m ts n) {x y w p u : List Nat} (b : Bij ts x y w p) (hu : u ∈ a1g n) (s : sub u x = true) : a0z (a0k ts) (a0z (a0k ts) u w) p = u := by
 have s' := sub_iff.mp s
 have h1 := a1i M hu b.lw
 refine a5p (a1i M h1 b.lp) hu fun r => ?_
 rw [a1h M h1 b.lp]
 constructor
 ·rintro ⟨r0, z1, rfl⟩
  obtain ⟨r1, z2, rfl⟩ := (a1h M hu b.lw).mp z1
  rw [b.here r1 (s' r1 z2)]
  exact z2
 ·intro z
  exact ⟨a3d ts r w, (a1h M hu b.lw).mpr ⟨r, z, rfl⟩, b.here r (s' r z)⟩
theorem b1z {H : Hp} {m : Addr} {ts : List (List Nat)} {n : Nat} (M : Mach H m ts n) {u v w : List Nat} (hu : u ∈ a1g n) (hv : v ∈ a1g n) (lw : ∀ l ∈ w, l < ts.length) (s : sub u v = true) : sub (a0z (a0k ts) u w) (a0z (a0k ts) v w) = true := by
 refine sub_iff.mpr fun r hr => ?_
 obtain ⟨r0, z1, rfl⟩ := (a1h M hu lw).mp hr
 exact (a1h M hv lw).mpr ⟨r0, sub_iff.mp s r0 z1, rfl⟩
theorem c3t {H : Hp} {m : Addr} {ts : List (List Nat)} {n : Nat} {fam : List (List Nat)} (M : Mach H m ts n) (ff : FamOf ts n fam) {u w : List Nat} (hu : u ∈ fam) (lw : ∀ l ∈ w, l < ts.length) : a0z (a0k ts) u w ∈ fam := by
 have n5 := M.n5
 refine (ff.mem _).mpr ?_
 rcases (ff.mem u).mp hu with ⟨w0, h1, h2⟩ | ⟨r, hr, rfl⟩
 ·refine .inl ⟨w0 ++ w, fun l hl => (a0K.mp hl).elim (h1 l) (lw l), ?_⟩
  rw [a2g, h2]
 ·have lt := a3s M w r hr lw
  refine .inr ⟨a3d ts r w, lt, a5p (a1i M (b4b n5 hr) lw) (b4b n5 lt) fun r' => ?_⟩
  rw [a1h M (b4b n5 hr) lw]
  constructor
  ·rintro ⟨r0, z1, rfl⟩
   rw [a0F.mp z1]
   exact a0F.mpr rfl
  ·intro z
   exact ⟨r, a0F.mpr rfl, (a0F.mp z).symm⟩
theorem c6l {n : Nat} {u v : List Nat} (hu : u ∈ a1g n) (hv : v ∈ a1g n) (a : sub u v = true) (b : sub v u = true) : u = v := a5p hu hv fun r => ⟨sub_iff.mp a r, sub_iff.mp b r⟩
theorem c3u {u v w : List Nat} (a : sub u v = true) (b : sub v w = true) : sub u w = true := sub_iff.mpr fun r hr => sub_iff.mp b r (sub_iff.mp a r hr)
theorem b2a {H : Hp} {m : Addr} {ts : List (List Nat)} {n : Nat} {fam : List (List Nat)} (M : Mach H m ts n) (ff : FamOf ts n fam) {x u : List Nat} : u ∈ a1k fam x ↔ u ∈ fam /\ u ≠ x /\ sub u x = true /\ ∀ v ∈ fam, v ≠ x -> sub v x = true -> sub u v = true -> v = u := by
 have tf := a2o M ff x
 constructor
 ·intro hu
  obtain ⟨h1, h2, h3⟩ := tf.mem u hu
  refine ⟨h1, h2, h3, fun v hv v1 v2 v3 => ?_⟩
  obtain ⟨t, ht, st⟩ := tf.all v hv v1 v2
  have ut : u = t := by
   by_cases e : u = t
   ·exact e
   ·have z := tf.apart u hu t ht e
    rw [c3u v3 st] at z
    cases z
  subst ut
  exact c6l (ff.inU M hv) (ff.inU M h1) st v3
 ·rintro ⟨h1, h2, h3, h4⟩
  obtain ⟨t, ht, st⟩ := tf.all u h1 h2 h3
  obtain ⟨t1, t2, t3⟩ := tf.mem t ht
  rw [<- h4 t t1 t2 t3 st]
  exact ht
theorem b2b {H : Hp} {m : Addr} {ts : List (List Nat)} {n : Nat} {fam : List (List Nat)} (M : Mach H m ts n) (ff : FamOf ts n fam) {x y w p u : List Nat} (hx : x ∈ a1g n) (b : Bij ts x y w p) (hu : u ∈ a1k fam x) : a0z (a0k ts) u w ∈ a1k fam y := by
 obtain ⟨h1, h2, h3, h4⟩ := (b2a M ff).mp hu
 have hy : y ∈ a1g n := by rw [<- b.to]; exact a1i M hx b.lw
 have uU := ff.inU M h1
 have gU := a1i M uU b.lw
 have su : sub (a0z (a0k ts) u w) y = true := by
  have z := b1z M uU hx b.lw h3
  rw [b.to] at z
  exact z
 refine (b2a M ff).mpr ⟨c3t M ff h1 b.lw, fun e => h2 ?_, su, fun v hv v1 v2 v3 => ?_⟩
 ·rw [<- b.back M uU h3, e, b.fro]
 ·have vU := ff.inU M hv
  have bs := b.symm
  have z1 := c3t M ff hv b.lp
  have z2 : a0z (a0k ts) v p ≠ x := fun e => v1 (by rw [<- bs.back M vU v2, e, b.to])
  have z3 : sub (a0z (a0k ts) v p) x = true := by
   have z := b1z M vU hy b.lp v2
   rw [b.fro] at z
   exact z
  have z4 : sub u (a0z (a0k ts) v p) = true := by
   have z := b1z M gU vU b.lp v3
   rw [b.back M uU h3] at z
   exact z
  rw [<- bs.back M vU v2, h4 _ z1 z2 z3 z4]
def LvH (H : Hp) (a : Addr) (c us : List (List Nat)) (wds : List (List Nat)) : Prop := ∃ (s t v : Addr) (bs ds cs : List Addr), H a = some (.tup [.ref s, .ref t, .ref v]) /\ H s = some (.lst (bs.map .ref)) /\ TupsAt H bs c /\ H t = some (.lst (ds.map .ref)) /\ TupsAt H ds us /\ H v = some (.lst (cs.map .ref)) /\ cs.length = wds.length /\ ∀ (k : Nat) (b : Addr) (wd : List Nat), cs[k]? = some b -> wds[k]? = some wd -> H b = some (.lst (wd.map nv))
theorem LvH.same {H H' : Hp} {a : Addr} {c us wds : List (List Nat)} (h : LvH H a c us wds) (g : Same H H') : LvH H' a c us wds := by
 obtain ⟨s, t, v, bs, ds, cs, h1, h2, h3, h4, h5, h6, h7, h8⟩ := h
 exact ⟨s, t, v, bs, ds, cs, g _ _ h1, g _ _ h2, h3.same g, g _ _ h4, h5.same g, g _ _ h6, h7, fun k b wd e1 e2 => g _ _ (h8 k b wd e1 e2)⟩
structure LvP (ts fam : List (List Nat)) (c us wds : List (List Nat)) : Prop where
 cls : c ∈ classes ts (big fam)
 tl : us = a1k fam (c.headD [])
 len : wds.length = c.length
 go : ∀ (k : Nat) (x wd : List Nat), c[k]? = some x -> wds[k]? = some wd -> (∀ l ∈ wd, l < ts.length) /\ a0z (a0k ts) (c.headD []) wd = x
def c7t : Sp := fun vs H Q _ => ∃ (m a : Addr) (k j : Nat) (ts : List (List Nat)) (n : Nat) (c us wds : List (List Nat)) (u wd : List Nat), vs = [.ref m, .ref a, nv k, nv j] /\ Mach H m ts n /\ LvH H a c us wds /\ us[j]? = some u /\ wds[k]? = some wd /\ u ∈ a1g n /\ (∀ l ∈ wd, l < ts.length) /\ d1i H ((a0z (a0k ts) u wd).map nv) Q
def b4d : Sp := fun vs H Q _ => ∃ (m a : Addr) (k : Nat) (ts : List (List Nat)) (n : Nat) (c us wds : List (List Nat)) (wd : List Nat), vs = [.ref m, .ref a, nv k] /\ Mach H m ts n /\ LvH H a c us wds /\ wds[k]? = some wd /\ (∀ u ∈ us, u ∈ a1g n) /\ us.length <= 32 /\ (∀ l ∈ wd, l < ts.length) /\
 ∀ l es H', Same H H' -> H' l = some (.lst (es.map .ref)) -> TupsAt H' es (us.map fun u => a0z (a0k ts) u wd) -> Q (.ref l) H'
def a5w (ts us : List (List Nat)) (wd wd2 : List Nat) (l : Nat) (js : List Nat) : Prop := js.length = us.length /\ ∀ (j : Nat) (u : List Nat) (j' : Nat), us[j]? = some u -> js[j]? = some j' -> ∃ u', us[j']? = some u' /\ a0z (a0k ts) u' wd2 = a0k ts (a0z (a0k ts) u wd) l
def b7u : Sp := fun vs H Q _ => ∃ (m a : Addr) (k l : Nat) (ts : List (List Nat)) (n : Nat) (fam c us wds : List (List Nat)) (x wd : List Nat), vs = [.ref m, .ref a, nv k, nv l] /\ Mach H m ts n /\ FamOf ts n fam /\ LvH H a c us wds /\ LvP ts fam c us wds /\ c[k]? = some x /\ wds[k]? = some wd /\ l < ts.length /\
 (a0k ts x l ∉ c -> ∀ H', Same H H' -> Q .non H') /\ ∀ (k' : Nat) (wd' : List Nat), c[k']? = some (a0k ts x l) -> wds[k']? = some wd' -> ∀ p js H', Same H H' -> H' p = some (.tup (js.map nv)) -> a5w ts us wd wd' l js -> Q (.ref p) H'
theorem a9o {α : Type} {d : α} : ∀ {ds : List α}, d ∈ ds -> ∃ j : Nat, ds[j]? = some d /\ ∀ i : Nat, i < j -> ds[i]? ≠ some d
 | [], h => nomatch h
 | e :: ds, h => by
  by_cases z : e = d
  ·exact ⟨0, by rw [z]; rfl, fun i hi => absurd hi (a4K i)⟩
  ·obtain ⟨j, h1, h2⟩ := a9o (ds := ds) ((a1H.mp h).resolve_left fun e' => z e'.symm)
   refine ⟨j + 1, h1, fun i hi => ?_⟩
   cases i with
   | zero => exact fun e' => z (by injection e')
   | succ i => exact h2 i (by lia)
theorem in_dts {u : List Nat} {fam : List (List Nat)} : Dt.tup (dtN u) ∈ fam.map (fun u => Dt.tup (dtN u)) ↔ u ∈ fam := d2r
theorem at_dts {u : List Nat} {fam : List (List Nat)} {j : Nat} : (fam.map fun u => Dt.tup (dtN u))[j]? = some (Dt.tup (dtN u)) ↔ fam[j]? = some u := by
 rw [a0E]
 constructor
 ·intro h
  obtain ⟨v, e1, e2⟩ := a0O.mp h
  injection e2 with e2
  rw [<- b5s e2]
  exact e1
 ·intro h
  rw [h]
  rfl
theorem LvP.bij {H : Hp} {m : Addr} {ts : List (List Nat)} {n : Nat} {fam c us wds : List (List Nat)} (M : Mach H m ts n) (ff : FamOf ts n fam) (lp : LvP ts fam c us wds) {k : Nat} {x wd : List Nat} (ex : c[k]? = some x) (ew : wds[k]? = some wd) : ∃ p, Bij ts (c.headD []) x wd p := by
 obtain ⟨_, _, cx, call⟩ := a0o lp.cls
 obtain ⟨l1, l2⟩ := lp.go k x wd ex ew
 exact c3s M (ff.inU M (a1F.mp cx).1) l1 l2 (call x (a0H ex)).2.2
theorem c3v {H : Hp} {m : Addr} {ts : List (List Nat)} {n : Nat} {fam c us wds : List (List Nat)} (M : Mach H m ts n) (ff : FamOf ts n fam) (lp : LvP ts fam c us wds) {k k' l : Nat} {x wd wd' : List Nat} (ex : c[k]? = some x) (ew : wds[k]? = some wd) (ll : l < ts.length) (ey : c[k']? = some (a0k ts x l)) (ew' : wds[k']? = some wd') {u : List Nat} (hu : u ∈ us) : a0k ts (a0z (a0k ts) u wd) l ∈ us.map fun u => a0z (a0k ts) u wd' := by
 obtain ⟨_, _, cx, call⟩ := a0o lp.cls
 have fU := ff.inU M (a1F.mp cx).1
 obtain ⟨p, b1⟩ := lp.bij M ff ex ew
 obtain ⟨p', b3⟩ := lp.bij M ff ey ew'
 obtain ⟨xb, rx1, rx2⟩ := call x (a0H ex)
 obtain ⟨yb, ry1, ry2⟩ := call _ (a0H ey)
 have xU := ff.inU M (a1F.mp xb).1
 have yU := ff.inU M (a1F.mp yb).1
 obtain ⟨p2, b2⟩ := c3s M (w := [l]) xU (fun z hz => by rw [a0F.mp hz]; exact ll) rfl (ry2.trans rx1)
 have hu' := hu
 rw [lp.tl] at hu'
 have t1 := b2b M ff fU b1 hu'
 have t2 : a0k ts (a0z (a0k ts) u wd) l ∈ a1k fam (a0k ts x l) := b2b M ff xU b2 t1
 obtain ⟨f1, f2, f3, _⟩ := (b2a M ff).mp t2
 have t3 := b2b M ff yU b3.symm t2
 rw [<- lp.tl] at t3
 exact a0M.mpr ⟨_, t3, b3.symm.back M (ff.inU M f1) f3⟩
theorem LvP.nd {ts : List (List Nat)} {n : Nat} {fam c us wds : List (List Nat)} (ff : FamOf ts n fam) (lp : LvP ts fam c us wds) : c.Nodup := by
 have fnd : fam.Nodup := ff.up.imp fun {a b} z e => by
  subst e
  rw [(a3a gl fam).irr] at z
  cases z
 rw [(a0o lp.cls).2.1]
 exact a9I (a5U.trans a5U) fnd
theorem LvP.inU {H : Hp} {m : Addr} {ts : List (List Nat)} {n : Nat} {fam c us wds : List (List Nat)} (M : Mach H m ts n) (ff : FamOf ts n fam) (lp : LvP ts fam c us wds) : (∀ u ∈ us, u ∈ a1g n) /\ us.length <= 32 := by
 have tf := a2o M ff (c.headD [])
 rw [<- lp.tl] at tf
 exact ⟨fun u hu => ff.inU M (tf.mem u hu).1, tf.few⟩
section
variable {P : Program} {w : World} {K : W.Frag} {mg : Str -> Option Value} {base : Heap} {f : Addr} {fd : FuncData}
theorem c9z (F : Fun K "tile" "tile" b9d f fd) (c_carried : a0l P w K mg base "carried" 3 ["machine", "rooms", "word"] (a5l K)) : FnOk P w K mg base CX0 5 f fd ["machine", "level", "k", "j"] c7t := by
 refine F.ok d2m (fun vs H Q E h => ?_) (fun cdv A outer s H vs Q E hr h => ?_)
 ·obtain ⟨m, a, k, j, ts, n, c, us, wds, u, wd, rfl, _⟩ := h
  rfl
 obtain ⟨m, a, k, j, ts, n, c, us, wds, u, wd, rfl, M, lv, eu, ew, hU, lw, q⟩ := h
 have hu := hr.units
 obtain ⟨s', t', v', bs, ds, cs, h1, h2, h3, h4, h5, h6, h7, h8⟩ := lv
 have l5 := h5.len
 have lj := (a0B.mp eu).1
 have lk := (a0B.mp ew).1
 obtain ⟨d, ed⟩ : ∃ d, ds[j]? = some d := ⟨_, a0A (by lia)⟩
 obtain ⟨b, eb⟩ : ∃ b, cs[k]? = some b := ⟨_, a0A (by lia)⟩
 have hd := h5.is j d u ed eu
 have hb := h8 k b wd eb ew
 refine ⟨_, (a0i (a1b (a0m c_carried (hr.mono (by decide)) rfl (a2a (a0e (pv 0) (a0e (a1x a2e (a1x a2k (pv 1) a0q (fun _ _ => rfl)) (pv 3) (fun _ _ => rfl)) (a0e (a1x a2e (a1x a2k (pv 1) a0q (fun _ _ => rfl)) (pv 2) (fun _ _ => rfl)) a1c rfl) rfl) rfl))))), ?_⟩
 refine ⟨_, rfl, _, rfl, a, _, _, _, rfl, rfl, SqT.of h1, rfl, _, rfl, t', _, _, _, rfl, rfl, SqL.of h4, a2r (by rw [a0E, ed]; rfl), _, rfl, a, _, _, _, rfl, rfl, SqT.of h1, rfl, _, rfl, v', _, _, _, rfl, rfl, SqL.of h6, a2r (by rw [a0E, eb]; rfl), m, d, b, ts, n, u, wd, rfl, M, SqT.of hd, a1A (a3b M.n5 hU) M.n5, (mem_setsU.mp hU).2, SqL.of hb, lw, fun p H2 g2 e2 => ?_⟩
 rw [<- a3t M wd u hU lw] at e2
 exact q p H2 g2 e2
end
section
variable {P : Program} {w : World} {K : W.Frag} {mg : Str -> Option Value} {base : Heap} {f : Addr} {fd : FuncData}
theorem a9p (F : Fun K "tiles_of_set" "tiles_of_set" a2i f fd) (c_tile : a0l P w K mg base "tile" 5 ["machine", "level", "k", "j"] c7t) (m_len : mg "len" = none) (m_range : mg "range" = none) : FnOk P w K mg base CX0 7 f fd ["machine", "level", "k"] b4d := by
 refine F.ok b3u (fun vs H Q E h => ?_) (fun cdv A outer s H vs Q E hr h => ?_)
 ·obtain ⟨m, a, k, ts, n, c, us, wds, wd, rfl, _⟩ := h
  rfl
 obtain ⟨m, a, k, ts, n, c, us, wds, wd, rfl, M, lv, ew, uU, few, lw, q⟩ := h
 have hu := hr.units
 obtain ⟨s', t', v', bs, ds, cs, h1, h2, h3, h4, h5, h6, h7, h8⟩ := id lv
 have l5 := h5.len
 refine ⟨_, (a0i (a1b (a1m (CompSc.to (N := ["machine", "level", "k"]) (osc := a0b a2i) (vs := ["j"]) {}) rfl rfl (a3k rfl m_range (a0g (a0v a0t rfl m_len a6B (a0g (a1x a2k (pv 1) a0q (fun _ _ => rfl)) a0j)) a0j)) (fun _ _ _ _ => a2t) (fun _ _ _ _ => (a0m c_tile (hr.mono (by decide)) rfl (a2a (a0e (pv 1) (a0e (pv 2) (a0e (pv 3) (a0e (pv 0) a1c rfl) rfl) rfl) rfl))))))), ?_⟩
 refine ⟨_, rfl, a, _, _, _, rfl, rfl, SqT.of h1, rfl, t', _, rfl, .inl (SqL.of h4), (us.length : Int), by rw [a0D, l5], by lia, by lia, a7i (fun i ys H' => Same H H' /\ ∃ es, ys = es.map V.ref /\ es.length = i /\ TupsAt H' es ((us.take i).map fun u => a0z (a0k ts) u wd)) (by rw [a2I]; exact small (by lia)) ⟨Same.refl _, [], rfl, rfl, rfl, fun i b u e => by simp at e⟩ (fun i ys H' _ p => ?_) (fun i ys H' hi p => ?_) (fun ys H1 p sg hsg => ?_)⟩
 ·obtain ⟨_, es, rfl, e, _⟩ := p
  rw [a0D]
  lia
 ·obtain ⟨g, es, rfl, e, T1⟩ := p
  have e0 : V.int (0 + (i : Int)) = nv i := by show V.int (0 + (i : Int)) = V.int (i : Int); rw [b0E]
  have hi' : i < us.length := by simpa using hi
  obtain ⟨u, eu⟩ : ∃ u, us[i]? = some u := ⟨_, a0A hi'⟩
  rw [e0]
  refine ⟨a1w, a6q ⟨_, rfl, _, rfl, _, rfl, _, rfl, m, a, k, i, ts, n, c, us, wds, u, wd, rfl, M.same g, lv.same g, eu, ew, uU u (a0H eu), lw, fun p H2 g2 e2 => ?_⟩⟩
  refine ⟨g.trans g2, es ++ [p], by simp, by simp [e], ?_⟩
  rw [a2O, eu, a1M]
  exact a4j (T1.same g2) e2
 obtain ⟨g1, es, rfl, er, T1⟩ := p
 rw [a2I, a2B] at T1
 have k1 := a0c hsg (.lst (es.map V.ref))
 exact q sg es _ (g1.trans k1) a0a (T1.same k1)
theorem a9q (F : Fun K "tiles_turned" "tiles_turned" a1z f fd) (c_carried : a0l P w K mg base "carried" 3 ["machine", "rooms", "word"] (a5l K)) (c_tiles_of_set : a0l P w K mg base "tiles_of_set" 7 ["machine", "level", "k"] b4d) (m_tuple : mg "tuple" = none) : FnOk P w K mg base CX0 9 f fd ["machine", "level", "k", "letter"] b7u := by
 refine F.ok scTilesTurned (fun vs H Q E h => ?_) (fun cdv A outer s H vs Q E hr h => ?_)
 ·obtain ⟨m, a, k, l, ts, n, fam, c, us, wds, x, wd, rfl, _⟩ := h
  rfl
 obtain ⟨m, a, k, l, ts, n, fam, c, us, wds, x, wd, rfl, M, ff, lv, lp, ex, ew, ll, q1, q2⟩ := h
 have hu := hr.units
 obtain ⟨s', t', v', bs, ds, cs, h1, h2, h3, h4, h5, h6, h7, h8⟩ := id lv
 obtain ⟨cne, ceq, cx, call⟩ := a0o lp.cls
 have lb := h3.len
 have lk := (a0B.mp ex).1
 obtain ⟨b, eb⟩ : ∃ b, bs[k]? = some b := ⟨_, a0A (by lia)⟩
 have hb := h3.is k b x eb ex
 have bigU : ∀ y ∈ big fam, y ∈ a1g n := fun y hy => ff.inU M (a1F.mp hy).1
 have mx := a0H ex
 have hU := bigU x (call x mx).1
 refine ⟨_, (a0f (a0r (i := 4) scTilesTurned.nd rfl (Or.inl rfl) (a0m c_carried (hr.mono (by decide)) rfl (a2a (a0e (pv 0) (a0e (a1x a2e (a1x a2k (pv 1) a0q (fun _ _ => rfl)) (pv 2) (fun _ _ => rfl)) (a0e (a3y (a0g (pv 3) a0j)) a1c rfl) rfl) rfl)))) (a0f (a6m (a1s (b3i hu) (pv 4) (a1x a2k (pv 1) a0q (fun _ _ => rfl)) (by with_unfolding_all rfl)) (a0i (a1b b2h)) a3c) (a0f (a0r (i := 5) scTilesTurned.nd rfl (Or.inr rfl) (a0m c_tiles_of_set (hr.mono (by decide)) rfl (a2a (a0e (pv 0) (a0e (pv 1) (a0e (a9t a2F a7H a7I (a9f hu) (a1x a2k (pv 1) a0q (fun _ _ => rfl)) (a0g (pv 4) a0j)) a1c rfl) rfl) rfl)))) (a0i (a1b (a1a a1d rfl m_tuple a6O (a0g (a1m (CompSc.to (N := ["machine", "level", "k", "letter", "there", "ends"]) (osc := a0b a1z) (vs := ["part"]) {}) rfl rfl (a1v (a0m c_tiles_of_set (hr.mono (by decide)) rfl (a2a (a0e (pv 0) (a0e (pv 1) (a0e (pv 2) a1c rfl) rfl) rfl)))) (fun _ _ _ _ => a2t) (fun _ _ _ _ => (c9c (K := K) c2c rfl (a9t a2F a7H a7I (a9f hu) (pv 6) (a0g (a0m c_carried (hr.mono (by decide)) rfl (a2a (a0e (pv 1) (a0e (pv 0) (a0e (a3y (a0g (pv 4) a0j)) a1c rfl) rfl) rfl))) a0j))))) a0j))))))), ?_⟩
 obtain ⟨uU, few⟩ := lp.inU M ff
 have lwd := (lp.go k x wd ex ew).1
 have l1 : ∀ z ∈ [l], z < ts.length := fun z hz => by rw [a0F.mp hz]; exact ll
 refine ⟨_, rfl, _, rfl, a, _, _, _, rfl, rfl, SqT.of h1, rfl, _, rfl, s', _, _, _, rfl, rfl, SqL.of h2, a2r (by rw [a0E, eb]; rfl), _, rfl, by show 1 <= sizeLine; decide, fun p1 hp1 => ?_⟩
 have kp := a0c hp1 (.lst [nv l])
 refine ⟨m, b, p1, ts, n, x, [l], rfl, M.same kp, SqT.of (kp _ _ hb), a1A (a3b M.n5 hU) M.n5, (mem_setsU.mp hU).2, SqL.of a0a, l1, fun th H2 g2' e2 => ?_⟩
 have g2 := kp.trans g2'
 have e2' : H2 th = some (.tup ((a0k ts x l).map nv)) := e2
 generalize hy : a0k ts x l = y at e2' q1 q2
 have lvc := g2 _ _ h2
 refine ⟨_, rfl, _, rfl, a, _, _, _, rfl, rfl, SqT.of (g2 _ _ h1), rfl, s', 1, .tup (dtN y), c.map fun u => Dt.tup (dtN u), _, rfl, SqL.of lvc, by rw [a0D, a0D, lb], a4x (SqT.of e2'), a5o (h3.same g2), by decide, fun cc hc => ⟨_, rfl, ?_⟩⟩
 by_cases my : y ∈ c
 ·have hc' : cc = true := hc.mpr (in_dts.mpr my)
  subst hc'
  refine a9u ?_
  obtain ⟨k', ey, no⟩ := a9o my
  have lk' := (a0B.mp ey).1
  obtain ⟨wd', ew'⟩ : ∃ wd', wds[k']? = some wd' := ⟨_, a0A (by rw [lp.len]; exact lk')⟩
  have lwd' := (lp.go k' y wd' ey ew').1
  refine ⟨_, rfl, _, rfl, _, rfl, a, _, _, _, rfl, rfl, SqT.of (g2 _ _ h1), rfl, .inl ⟨rfl, _, SqL.of lvc⟩, _, rfl, s', _, 1, .tup (dtN y), c.map fun u => Dt.tup (dtN u), _, k', rfl, rfl, SqL.of lvc, by rw [a0D, a0D, lb], a4x (SqT.of e2'), a5o (h3.same g2), by decide, at_dts.mpr ey, fun i hi e => no i hi (at_dts.mp e), ?_⟩
  refine ⟨m, a, k', ts, n, c, us, wds, wd', rfl, M.same g2, lv.same g2, ew', uU, few, lwd', fun en es H3 g3' een Ten => ?_⟩
  have g3 := g2.trans g3'
  have len := Ten.len
  rw [a0D] at len
  refine ⟨_, rfl, _, rfl, _, rfl, m, a, k, ts, n, c, us, wds, wd, rfl, M.same g3, lv.same g3, ew, uU, few, lwd, fun pl ps H4 g4' epl Tps => ?_⟩
  have g4 := g3.trans g4'
  have lps := Tps.len
  rw [a0D] at lps
  refine ⟨pl, rfl, ⟨_, SqL.of epl⟩, a2f (xs := ps.map .ref) (fun i ys' H' => Same H4 H' /\ ∃ js : List Nat, ys' = js.map nv /\ js.length = i /\ ∀ (j : Nat) (u : List Nat) (j' : Nat), us[j]? = some u -> js[j]? = some j' -> ∃ u', us[j']? = some u' /\ a0z (a0k ts) u' wd' = a0k ts (a0z (a0k ts) u wd) l) (by rw [a0D, a1B]; lia) ⟨Same.refl _, [], rfl, rfl, fun j u j' _ e => by simp at e⟩ (fun i ys' H' hi p => ?_) (fun i v ys' H' hv p => ?_) (fun ys' H5 p tl htl => ?_)⟩
  ·obtain ⟨g, js, rfl, e, _⟩ := p
   exact ⟨SqL.of (g _ _ epl), by rw [a0D]; lia⟩
  ·obtain ⟨g, js, rfl, e, al⟩ := p
   rw [a0E] at hv
   obtain ⟨d, ed, rfl⟩ := a0O.mp hv
   have li := (a0B.mp ed).1
   obtain ⟨u, eu⟩ : ∃ u, us[i]? = some u := ⟨_, a0A (by lia)⟩
   have mu := a0H eu
   have hd := g _ _ (Tps.is i d _ ed (by rw [a0E, eu]; rfl))
   have guU := a1i M (uU u mu) lwd
   have gH := g4.trans g
   refine ⟨a1w, a6q ⟨_, rfl, .inl ⟨rfl, _, SqL.of ((g4'.trans g) _ _ een)⟩, _, rfl, _, rfl, _, rfl, by show 1 <= sizeLine; decide, fun p1 hp1 => ?_⟩⟩
   have kp := a0c hp1 (.lst [nv l])
   refine ⟨m, d, p1, ts, n, _, [l], rfl, M.same (gH.trans kp), SqT.of (kp _ _ hd), a1A (a3b M.n5 guU) M.n5, (mem_setsU.mp guU).2, SqL.of a0a, l1, fun ca H6 g6' e6 => ?_⟩
   have e6' : H6 ca = some (.tup ((a0k ts (a0z (a0k ts) u wd) l).map nv)) := e6
   have g6 := (g4'.trans g).trans (kp.trans g6')
   have mi := c3v M ff lp ex ew ll (by rw [hy]; exact ey) ew' mu
   obtain ⟨j0, ej0, no0⟩ := a9o mi
   refine ⟨en, _, 1, .tup (dtN (a0k ts (a0z (a0k ts) u wd) l)), (us.map fun u => a0z (a0k ts) u wd').map fun u => Dt.tup (dtN u), _, j0, rfl, rfl, SqL.of (g6 _ _ een), by rw [a0D, a0D, a0D, len], a4x (SqT.of e6'), a5o (Ten.same g6), by decide, at_dts.mpr ej0, fun i hi e => no0 i hi (at_dts.mp e), ?_⟩
   refine ⟨g.trans (kp.trans g6'), js ++ [j0], by simp, by simp [e], fun j u2 j' e1 e2 => ?_⟩
   by_cases hj : j < js.length
   ·rw [a0P hj] at e2
    exact al j u2 j' e1 e2
   ·rw [a0T (by lia)] at e2
    have z : j - js.length = 0 := by
     have := (a0B.mp e2).1
     simp at this
     lia
    rw [z] at e2
    cases e2
    have ji : j = i := by lia
    subst ji
    rw [eu] at e1
    cases e1
    rw [a0E] at ej0
    obtain ⟨u', f1, f2⟩ := a0O.mp ej0
    exact ⟨u', f1, f2⟩
  ·obtain ⟨g5, js, rfl, ej, al⟩ := p
   rw [a0D] at ej
   have kt := a0c htl (.lst (js.map nv))
   refine ⟨tl, _, rfl, .inl ⟨SqL.of a0a, fun r hr' => ?_⟩⟩
   have kr := a0c hr' (.tup (js.map nv))
   exact q2 k' wd' ey ew' r js _ (((g4.trans g5).trans kt).trans kr) a0a ⟨by lia, al⟩
 ·have hc' : cc = false := by
   cases cc with
   | false => rfl
   | true => exact absurd (in_dts.mp (hc.mp rfl)) my
  subst hc'
  exact b2e (q1 my H2 g2)
end
theorem hqT0 : (tabsL[0]'(by decide)) ∈ tabsL := a2Y _
theorem hqT1 : (tabsL[1]'(by decide)) ∈ tabsL := a2Y _
def img (t u : List Nat) : List Nat := a1o (u.map fun r => t.getD r 0)
theorem mem_nrm {xs : List Nat} {r : Nat} : r ∈ a1o xs ↔ r < 5 /\ r ∈ xs := by
 unfold a1o
 rw [a1F, a2G, a1G]
theorem d2s {xs ys : List Nat} (h : ∀ r, r ∈ xs ↔ r ∈ ys) : a1o xs = a1o ys := by
 unfold a1o
 refine a6P fun i _ => ?_
 rw [a2W, a1G, a1G]
 exact h i
theorem c6m {f : Nat -> Nat} {n r : Nat} (h : r < n) : ((List.range n).map f).getD r 0 = f r := by
 rw [a0J, a0E, a3I h]
 rfl
theorem c6n {H : Hp} {m : Addr} {ts : List (List Nat)} {n : Nat} (M : Mach H m ts n) {u w : List Nat} (hu : u ∈ a1g n) (lw : ∀ l ∈ w, l < ts.length) : a0z (a0k ts) u w = img (b9f ts n w) u := by
 rw [a3t M w u hu lw]
 unfold img a7z b9f
 congr 1
 refine a2D fun r hr => ?_
 rw [c6m ((mem_setsU.mp hu).2 r hr)]
theorem b9o {H : Hp} {m : Addr} {ts : List (List Nat)} {n : Nat} (M : Mach H m ts n) {w : List Nat} (lw : ∀ l ∈ w, l < ts.length) : b9f ts n w ∈ a5z n n := by
 refine mem_mapsU.mpr ⟨c3a ts n w, fun r hr => ?_⟩
 obtain ⟨x, hx, rfl⟩ := a0M.mp hr
 exact a3s M w x (a2G.mp hx) lw
def ixl (us : List (List Nat)) (x : List Nat) : Nat := us.findIdx fun y => decide (y = x)
theorem b4e {us : List (List Nat)} {x : List Nat} (h : x ∈ us) : ixl us x < us.length /\ us[ixl us x]? = some x := by
 have l : ixl us x < us.length := List.findIdx_lt_length_of_exists ⟨x, h, a0Y rfl⟩
 refine ⟨l, ?_⟩
 rw [a0A l]
 have z : decide (us[ixl us x] = x) = true := List.findIdx_getElem (p := fun y => decide (y = x)) (w := l)
 rw [a1X z]
theorem b7v {us : List (List Nat)} {x : List Nat} {j : Nat} (nd : us.Nodup) (h : us[j]? = some x) : ixl us x = j := by
 obtain ⟨l, e⟩ := b4e (a0H h)
 exact (a2P l nd).mp (e.trans h.symm)
def ind (us : List (List Nat)) (t : List Nat) : List Nat := us.map fun u => ixl us (img t u)
def gU (us : List (List Nat)) (n : Nat) : List (List Nat) := ((a5z n n).filter fun t => us.all fun u => us.contains (img t u)).map (ind us)
theorem mem_gU {us : List (List Nat)} {n : Nat} {x : List Nat} : x ∈ gU us n ↔ ∃ t ∈ a5z n n, (∀ u ∈ us, img t u ∈ us) /\ x = ind us t := by
 unfold gU
 rw [a0M]
 constructor
 ·rintro ⟨t, ht, rfl⟩
  obtain ⟨h1, h2⟩ := a1F.mp ht
  exact ⟨t, h1, fun u hu => a1G.mp (a4Z.mp h2 u hu), rfl⟩
 ·rintro ⟨t, h1, h2, rfl⟩
  exact ⟨t, a1F.mpr ⟨h1, a4Z.mpr fun u hu => a1G.mpr (h2 u hu)⟩, rfl⟩
theorem c7u {us : List (List Nat)} {n : Nat} (h : n <= 5) : (gU us n).length <= 4000 := by
 unfold gU
 rw [a0D]
 exact a1A (a1R _ _) (c3c h)
theorem d0a {us : List (List Nat)} {n : Nat} {x : List Nat} (h : x ∈ gU us n) : x.length = us.length /\ ∀ r ∈ x, r < us.length := by
 obtain ⟨t, _, g, rfl⟩ := mem_gU.mp h
 refine ⟨by simp [ind], fun r hr => ?_⟩
 obtain ⟨u, hu, rfl⟩ := a0M.mp hr
 exact (b4e (g u hu)).1
theorem b7w {us : List (List Nat)} {n : Nat} (nd : us.Nodup) (hU : ∀ u ∈ us, u ∈ a1g n) : List.range us.length ∈ gU us n := by
 have id1 : ∀ u ∈ us, img (List.range n) u = u := fun u hu => by
  obtain ⟨h1, h2⟩ := mem_setsU.mp (hU u hu)
  unfold img
  have : u.map (fun r => (List.range n).getD r 0) = u.map id := a2D fun r hr => by
   rw [a0J, a3I (h2 r hr)]
   rfl
  rw [this, List.map_id, h1]
 refine mem_gU.mpr ⟨List.range n, b5p n, fun u hu => by rw [id1 u hu]; exact hu, ?_⟩
 refine a3V fun j => ?_
 unfold ind
 rw [a0E]
 by_cases h : j < us.length
 ·rw [a3I h, a0A h]
  show some j = some (ixl us (img (List.range n) us[j]))
  rw [id1 _ (a2Y h), b7v nd (a0A h)]
 ·rw [a1Q (by simp; lia), List.getElem?_eq_none (by lia)]
  rfl
theorem d0b {n : Nat} {t t2 u : List Nat} (n5 : n <= 5) (ht : t ∈ a5z n n) (hu : u ∈ a1g n) : img t2 (img t u) = img (beh t t2) u := by
 obtain ⟨t1, t3⟩ := mem_mapsU.mp ht
 obtain ⟨_, u2⟩ := mem_setsU.mp hu
 unfold img
 refine d2s fun r => ?_
 have e : ∀ x ∈ u, (beh t t2).getD x 0 = t2.getD (t.getD x 0) 0 := fun x hx => by
  have hl : x < t.length := by rw [t1]; exact u2 x hx
  unfold beh
  rw [a0J, a0E, a0A hl, a0J (l := t), a0A hl]
  rfl
 have lt5 : ∀ x ∈ u, t.getD x 0 < 5 := fun x hx => by
  have := a9b t3 (by rw [t1]; exact u2 x hx)
  lia
 rw [a0M, a0M]
 constructor
 ·rintro ⟨y, hy, rfl⟩
  obtain ⟨_, hy⟩ := mem_nrm.mp hy
  obtain ⟨x, hx, rfl⟩ := a0M.mp hy
  exact ⟨x, hx, e x hx⟩
 ·rintro ⟨x, hx, rfl⟩
  exact ⟨t.getD x 0, mem_nrm.mpr ⟨lt5 x hx, a0M.mpr ⟨x, hx, rfl⟩⟩, (e x hx).symm⟩
theorem c3w {n : Nat} {t t2 : List Nat} (h : t ∈ a5z n n) (h2 : t2 ∈ a5z n n) : beh t t2 ∈ a5z n n := by
 obtain ⟨a1, a2⟩ := mem_mapsU.mp h
 obtain ⟨b1, b2⟩ := mem_mapsU.mp h2
 refine mem_mapsU.mpr ⟨by unfold beh; rw [List.length_map, a1], fun r hr => ?_⟩
 obtain ⟨x, hx, rfl⟩ := a0M.mp hr
 exact a9b b2 (by rw [b1]; exact a2 x hx)
theorem c3x {us : List (List Nat)} {n : Nat} {x y : List Nat} (n5 : n <= 5) (hU : ∀ u ∈ us, u ∈ a1g n) (hx : x ∈ gU us n) (hy : y ∈ gU us n) : beh x y ∈ gU us n := by
 obtain ⟨t, h1, g1, rfl⟩ := mem_gU.mp hx
 obtain ⟨t2, h2, g2, rfl⟩ := mem_gU.mp hy
 have e : ∀ u ∈ us, img (beh t t2) u = img t2 (img t u) := fun u hu => (d0b n5 h1 (hU u hu)).symm
 refine mem_gU.mpr ⟨beh t t2, c3w h1 h2, fun u hu => by rw [e u hu]; exact g2 _ (g1 u hu), ?_⟩
 unfold ind
 show (us.map fun u => ixl us (img t u)).map (fun x => (us.map fun u => ixl us (img t2 u)).getD x 0) = _
 rw [a1T]
 refine a2D fun u hu => ?_
 obtain ⟨l, ev⟩ := b4e (g1 u hu)
 show (us.map fun u => ixl us (img t2 u)).getD (ixl us (img t u)) 0 = ixl us (img (beh t t2) u)
 rw [a0J, a0E, ev, e u hu]
 rfl
theorem a5x {H : Hp} {m : Addr} {ts : List (List Nat)} {n : Nat} {fam c us wds : List (List Nat)} (M : Mach H m ts n) (ff : FamOf ts n fam) (lp : LvP ts fam c us wds) : us.Nodup := by
 have tf := a2o M ff (c.headD [])
 rw [<- lp.tl] at tf
 exact tf.up.imp fun {a b} z e => by
  subst e
  rw [c3p] at z
  cases z
theorem c3y {H : Hp} {m : Addr} {ts : List (List Nat)} {n : Nat} {fam c us wds : List (List Nat)} (M : Mach H m ts n) (ff : FamOf ts n fam) (lp : LvP ts fam c us wds) {k k' l : Nat} {x wd wd' js : List Nat} (ex : c[k]? = some x) (ew : wds[k]? = some wd) (ll : l < ts.length) (ey : c[k']? = some (a0k ts x l)) (ew' : wds[k']? = some wd') (tb : a5w ts us wd wd' l js) :
  js ∈ gU us n := by
 obtain ⟨uU, _⟩ := lp.inU M ff
 have nd := a5x M ff lp
 have lwd := (lp.go k x wd ex ew).1
 obtain ⟨p, b⟩ := lp.bij M ff ey ew'
 have tf := a2o M ff (c.headD [])
 rw [<- lp.tl] at tf
 have lw : ∀ z ∈ wd ++ [l] ++ p, z < ts.length := fun z hz => by
  rcases a0K.mp hz with h | h
  ·rcases a0K.mp h with h | h
   ·exact lwd z h
   ·rw [a0F.mp h]
    exact ll
  ·exact b.lp z h
 have at1 : ∀ (j : Nat) (u : List Nat) (j' : Nat), us[j]? = some u -> js[j]? = some j' -> us[j']? = some (img (b9f ts n (wd ++ [l] ++ p)) u) := fun j u j' eu ej => by
  obtain ⟨u', f1, f2⟩ := tb.2 j u j' eu ej
  have hu' := a0H f1
  rw [<- c6n M (uU u (a0H eu)) lw, a2g, a2g]
  show us[j']? = some (a0z (a0k ts) (a0k ts (a0z (a0k ts) u wd) l) p)
  rw [<- f2, b.back M (uU u' hu') (tf.mem u' hu').2.2]
  exact f1
 have lj := tb.1
 refine mem_gU.mpr ⟨_, b9o M lw, fun u hu => ?_, ?_⟩
 ·obtain ⟨j, ej⟩ := a3Z hu
  obtain ⟨j', ej'⟩ : ∃ j', js[j]? = some j' := ⟨_, a0A (by rw [lj]; exact (a0B.mp ej).1)⟩
  exact a0H (at1 j u j' ej ej')
 ·refine a3V fun j => ?_
  unfold ind
  rw [a0E]
  cases ej : us[j]? with
  | none =>
   have := a6W.mp ej
   rw [a1Q (by lia)]
   rfl
  | some u =>
   have := (a0B.mp ej).1
   obtain ⟨j', ej'⟩ : ∃ j', js[j]? = some j' := ⟨_, a0A (by lia)⟩
   rw [ej']
   exact a2C some (b7v nd (at1 j u j' ej ej')).symm
theorem b0s {H : Hp} {m : Addr} {ts : List (List Nat)} {n : Nat} {fam c us wds : List (List Nat)} (M : Mach H m ts n) (ff : FamOf ts n fam) (lp : LvP ts fam c us wds) : 0 < us.length := by
 obtain ⟨_, _, cx, _⟩ := a0o lp.cls
 obtain ⟨h1, h2⟩ := a1F.mp cx
 have tf := a2o M ff (c.headD [])
 rw [<- lp.tl] at tf
 obtain ⟨_, u2⟩ := mem_setsU.mp (ff.inU M h1)
 cases e : c.headD [] with
 | nil =>
  rw [e] at h2
  cases h2
 | cons r rs =>
  rw [e] at tf u2 h2
  obtain ⟨t, ht, _⟩ := tf.all [r] ((ff.mem [r]).mpr (.inr ⟨r, u2 r (a0S ..), rfl⟩)) (fun z => by
   have z2 := a2C List.length z
   have h2 := a1X h2
   rw [<- z2] at h2
   simp at h2) (by simp [sub])
  exact a7K ht
structure Makers (ts c us wds mk : List (List Nat)) : Prop where
 mem : ∀ t ∈ mk, ∃ (k l k' : Nat) (x wd wd' : List Nat), c[k]? = some x /\ wds[k]? = some wd /\ l < ts.length /\ c[k']? = some (a0k ts x l) /\ wds[k']? = some wd' /\ a5w ts us wd wd' l t
 all : ∀ (k l : Nat) (x wd : List Nat), c[k]? = some x -> wds[k]? = some wd -> l < ts.length -> a0k ts x l ∈ c -> ∃ (k' : Nat) (wd' t : List Nat), t ∈ mk /\ c[k']? = some (a0k ts x l) /\ wds[k']? = some wd' /\ a5w ts us wd wd' l t
theorem b0t : ∀ {ws : TW} {as : List Addr}, as.length = ws.length -> (a3p ws as).map (·.1) = (ws.map (·.1)).map nk
 | [], [], _ => rfl
 | p :: ws, a :: as, h => a2C (nk p.1 :: ·) (b0t (ws := ws) (as := as) (Nat.succ.inj h))
def a7r (mk : List (List Nat)) (x : List Nat) (i : Nat) : List Nat := beh x (mk.getD i [])
def a9r : Sp := fun vs H Q _ => ∃ (m a : Addr) (ts : List (List Nat)) (n : Nat) (fam c us wds : List (List Nat)), vs = [.ref m, .ref a] /\ Mach H m ts n /\ FamOf ts n fam /\ LvH H a c us wds /\ LvP ts fam c us wds /\
 ∀ l rs mk H', Same H H' -> H' l = some (.lst (rs.map .ref)) -> TupsAt H' rs mk -> Makers ts c us wds mk -> mk.length <= 200 -> Q (.ref l) H'
def c3z : Sp := fun vs H Q _ => ∃ (m a : Addr) (ts : List (List Nat)) (n : Nat) (fam c us wds : List (List Nat)), vs = [.ref m, .ref a] /\ Mach H m ts n /\ FamOf ts n fam /\ LvH H a c us wds /\ LvP ts fam c us wds /\ Tabs H /\
 ∀ l bs gs mk ws H', Keeps H H' -> Tabs H' -> L2.noT H l = none -> H' l = some (.lst (bs.map .ref)) -> TupsAt H' bs gs -> gs.Perm (ws.map (·.1)) -> gs.Pairwise (fun x y => ltl x y = true) -> Makers ts c us wds mk -> Told (a7r mk) mk.length (List.range us.length) ws -> Q (.ref l) H'
section
variable {P : Program} {w : World} {K : W.Frag} {mg : Str -> Option Value} {base : Heap} {f : Addr} {fd : FuncData}
theorem b2c (F : Fun K "all_tiles_turned" "all_tiles_turned" a1p f fd) (c_tiles_turned : a0l P w K mg base "tiles_turned" 9 ["machine", "level", "k", "letter"] b7u) (m_len : mg "len" = none) (m_range : mg "range" = none) : FnOk P w K mg base CX0 11 f fd ["machine", "level"] a9r := by
 refine F.ok scAllTilesTurned (fun vs H Q E h => ?_) (fun cdv A outer s H vs Q E hr h => ?_)
 ·obtain ⟨m, a, ts, n, fam, c, us, wds, rfl, _⟩ := h
  rfl
 obtain ⟨m, a, ts, n, fam, c, us, wds, rfl, M, ff, lv, lp, q⟩ := h
 have hu := hr.units
 refine ⟨_, (a0f (a0r (i := 2) scAllTilesTurned.nd rfl (Or.inl rfl) (a3y a0j)) (a0f (a3w a2E rfl (a3k rfl m_range (a0g (a0v a0t rfl m_len a6B (a0g (a1x a2k (pv 1) a0q (fun _ _ => rfl)) a0j)) a0j)) (a1y (i := 3) scAllTilesTurned.nd rfl (Or.inl rfl)) (a0i (a3w a2E rfl (a3k rfl m_range (a0g (a0v a0t rfl m_len a6B (a0g (pv 0) a0j)) a0j)) (a1y (i := 4) scAllTilesTurned.nd rfl (Or.inl rfl)) (a0f (a0r (i := 5) scAllTilesTurned.nd rfl (Or.inl rfl) (a0m c_tiles_turned (hr.mono (by decide)) rfl (a2a (a0e (pv 0) (a0e (pv 1) (a0e (pv 3) (a0e (pv 4) a1c rfl) rfl) rfl) rfl)))) (a0i (a6m (a1s c0b (pv 5) b2h (a2q _)) (a0i (a4k (a9t a2F a3E a3F a3l (pv 2) (a0g (pv 5) a0j)))) a3c)))))) (a0i (a1b (pv 2))))), ?_⟩
 obtain ⟨s', t', v', bs, ds, cs, h1, h2, h3, h4, h5, h6, h7, h8⟩ := id lv
 have lb := h3.len
 have t1 := M.some1
 have t4 := M.few
 obtain ⟨rs, hm, hrl, _⟩ := M.refs
 have c32 : c.length <= 32 := by
  rw [(a0o lp.cls).2.1]
  exact a1A (a1R _ _) (a1A (a1R _ _) (ff.few M))
 refine ⟨by show 0 <= sizeLine; decide, fun fo hfo => ?_⟩
 have k0 := a0c hfo (.lst [])
 let Mk : Nat -> Nat -> List (List Nat) -> Prop := fun k l mk => mk.length <= 4 * k + l /\ (∀ t ∈ mk, ∃ (k l k' : Nat) (x wd wd' : List Nat), c[k]? = some x /\ wds[k]? = some wd /\ l < ts.length /\ c[k']? = some (a0k ts x l) /\ wds[k']? = some wd' /\ a5w ts us wd wd' l t) /\
  ∀ (i j : Nat) (x wd : List Nat), (i < k ∨ i = k /\ j < l) -> c[i]? = some x -> wds[i]? = some wd -> j < ts.length -> a0k ts x j ∈ c -> ∃ (k' : Nat) (wd' t : List Nat), t ∈ mk /\ c[k']? = some (a0k ts x j) /\ wds[k']? = some wd' /\ a5w ts us wd wd' j t
 let Pk : Nat -> L2.St -> Hp -> Prop := fun k σ H' => Same H H' /\ ∃ (qs : List Addr) (mk : List (List Nat)) (o3 o4 o5 : Option V), H' fo = some (.lst (qs.map .ref)) /\ TupsAt H' qs mk /\ Mk k 0 mk /\ σ = [some (.ref m), some (.ref a), some (.ref fo), o3, o4, o5]
 refine ⟨_, rfl, a, _, _, _, rfl, rfl, SqT.of (k0 _ _ h1), rfl, s', _, rfl, .inl (SqL.of (k0 _ _ h2)), (c.length : Int), by rw [a0D, lb], by lia, by lia, a6n Pk ⟨k0, [], [], none, none, none, a0a, ⟨rfl, fun i b u e => by simp at e⟩, ⟨Nat.zero_le _, (fun t ht => nomatch ht), fun i j x wd hij => by lia⟩, rfl⟩ (fun k σ H1 hk p => ?_) (fun σ H1 p => ?_)⟩
 ·obtain ⟨g1, qs, mk, o3, o4, o5, e1, T1, K1, rfl⟩ := p
  have hk' : k < c.length := by simpa using hk
  have zk : V.int ((0 : Int) + ((k : Nat) : Int)) = nv k := by show V.int (0 + (k : Int)) = V.int (k : Int); rw [b0E]
  rw [zk]
  obtain ⟨wd, ew⟩ : ∃ wd, wds[k]? = some wd := ⟨_, a0A (by rw [lp.len]; exact hk')⟩
  obtain ⟨x, ex⟩ : ∃ x, c[k]? = some x := ⟨_, a0A hk'⟩
  let Pl : Nat -> L2.St -> Hp -> Prop := fun l σ H' => Same H H' /\ ∃ (qs : List Addr) (mk : List (List Nat)) (o4 o5 : Option V), H' fo = some (.lst (qs.map .ref)) /\ TupsAt H' qs mk /\ Mk k l mk /\ σ = [some (.ref m), some (.ref a), some (.ref fo), some (nv k), o4, o5]
  refine ⟨_, rfl, m, _, rfl, .inr (SqT.of (g1 _ _ hm)), (ts.length : Int), by rw [a0D, hrl], by lia, by lia, a6n Pl ⟨g1, qs, mk, _, _, e1, T1, K1, rfl⟩ (fun l σ H2 hl p => ?_) (fun σ H2 p => ?_)⟩
  ·obtain ⟨g2, qs, mk, o4, o5, e2, T2, K2, rfl⟩ := p
   have hl' : l < ts.length := by simpa using hl
   have zl : V.int ((0 : Int) + ((l : Nat) : Int)) = nv l := by show V.int (0 + (l : Int)) = V.int (l : Int); rw [b0E]
   rw [zl]
   obtain ⟨kz, km, ka⟩ := K2
   refine ⟨_, rfl, _, rfl, _, rfl, _, rfl, m, a, k, l, ts, n, fam, c, us, wds, x, wd, rfl, M.same g2, ff, lv.same g2, lp, ex, ew, hl', fun my H3 g3 => ?_, fun k' wd' ey ew' tp js H3 g3 etp tb => ?_⟩
   ·refine ⟨_, rfl, rfl, _, rfl, a9u ⟨g2.trans g3, qs, mk, _, _, g3 _ _ e2, T2.same g3, ⟨by lia, km, fun i j x' wd'' hij e1' e2' e3' e4' => ?_⟩, rfl⟩⟩
    by_cases z : i = k /\ j = l
    ·obtain ⟨rfl, rfl⟩ := z
     rw [ex] at e1'
     cases e1'
     exact absurd e4' my
    ·exact ka i j x' wd'' (by lia) e1' e2' e3' e4'
   ·refine ⟨_, rfl, rfl, _, rfl, b2e ?_⟩
    have e3 := g3 _ _ e2
    have lq := T2.len
    refine ⟨_, rfl, .inl ⟨rfl, _, SqL.of e3⟩, _, rfl, fo, _, _, rfl, rfl, e3, by rw [a0D, a1B]; lia, ?_⟩
    refine ⟨a1t (g2.trans g3) hfo, qs ++ [tp], mk ++ [js], _, _, by rw [a0a, a1M]; rfl, a4j ⟨lq, fun i b u e1 e2 => ?_⟩ ?_, ⟨by rw [a0Z, a5C]; lia, fun t ht => ?_, fun i j x' wd'' hij e1' e2' e3' e4' => ?_⟩, rfl⟩
    ·have z := (T2.same g3).is i b u e1 e2
     rw [a0d (a1n z e3 fun e => nomatch e)]
     exact z
    ·rw [a0d (a1n etp e3 fun e => nomatch e)]
     exact etp
    ·rcases a0K.mp ht with z | z
     ·exact km t z
     ·rw [a0F.mp z]
      exact ⟨k, l, k', x, wd, wd', ex, ew, hl', ey, ew', tb⟩
    ·by_cases z : i = k /\ j = l
     ·obtain ⟨rfl, rfl⟩ := z
      rw [ex] at e1'
      cases e1'
      rw [ew] at e2'
      cases e2'
      exact ⟨k', wd', js, a0K.mpr (.inr (a0F.mpr rfl)), ey, ew', tb⟩
     ·obtain ⟨k2, wd2, t, r1, r2⟩ := ka i j x' wd'' (by lia) e1' e2' e3' e4'
      exact ⟨k2, wd2, t, a0K.mpr (.inl r1), r2⟩
  ·obtain ⟨g2, qs, mk, o4, o5, e2, T2, ⟨kz, km, ka⟩, rfl⟩ := p
   have el : (ts.length : Int).toNat = ts.length := a2I _
   rw [el] at kz ka
   exact ⟨g2, qs, mk, _, _, _, e2, T2, ⟨by lia, km, fun i j x' wd'' hij e1' e2' e3' e4' => ka i j x' wd'' (by lia) e1' e2' e3' e4'⟩, rfl⟩
 ·obtain ⟨g1, qs, mk, o3, o4, o5, e1, T1, ⟨kz, km, ka⟩, rfl⟩ := p
  have el : (c.length : Int).toNat = c.length := a2I _
  rw [el] at kz ka
  exact ⟨_, rfl, q fo qs mk H1 g1 e1 T1 ⟨km, fun k l x wd e1 e2 e3 e4 => ka k l x wd (.inl (a0B.mp e1).1) e1 e2 e3 e4⟩ (by lia)⟩
end
section
variable {P : Program} {w : World} {K : W.Frag} {mg : Str -> Option Value} {base : Heap} {f : Addr} {fd : FuncData}
theorem b4f {fl c lm cc : Addr} {oc : Obj} {mk us : List (List Nat)} {n : Nat} {rs : List Addr} {Hc : Hp} {pm ct : Value} {params : Arguments} {body : Expr} {scope : Scope} {sx fx a1 a2 : Expr} {kw skw : List Keyword} {lp cp scp rp : Pos} {s0 : Stmt} (e : a0n a1j = [s0, .Return (some (.Call sx [.Call fx [a1, a2, .Lambda params body scope lp] kw cp] skw scp)) rp])
  (c_behind : a0l P w K mg base "behind" 1 ["one", "other"] b1t) (hl : Hc lm = some (.lst (rs.map .ref))) (Tm : TupsAt Hc rs mk) (mU : ∀ t ∈ mk, t ∈ gU us n) (few : us.length <= 32) (h1 : Hc fl = some (b1b fl (a3u "level_group.<locals>.<lambda>" params body scope "makers" c pm (.ref cc) ct))) (h2 : Hc c = some (a3n c lm oc)) (h3 : Hc cc = some (a6f cc "level_group.<locals>.<lambda>")) :
  FnOk P w K mg base CX0 5 fl (a3u "level_group.<locals>.<lambda>" params body scope "makers" c pm (.ref cc) ct) ["turn", "number"] (a7v (Same Hc) (gU us n) mk.length (a7r mk)) /\ Binds K (a3u "level_group.<locals>.<lambda>" params body scope "makers" c pm (.ref cc) ct) ["turn", "number"] [] := by
 cases e
 refine ⟨c7f (k := 4) (m := lm) (oc := oc) ⟨rfl, rfl, rfl, by decide +kernel, by decide +kernel, rfl, by decide +kernel⟩ (fun vs H Q E h => ?_) (fun vs H Q E h => ?_) (fun A outer s H vs Q E hr h => ?_), .all fun us hl => match us, hl with | [_, _], _ => rfl⟩
 ·obtain ⟨t, x, l, rfl, _⟩ := h
  rfl
 ·obtain ⟨t, x, l, rfl, g, _⟩ := h
  exact ⟨g _ _ h1, g _ _ h2, g _ _ h3⟩
 ·obtain ⟨t, x, l, rfl, g, ht, hx, hl', q⟩ := h
  refine ⟨_, (a0m c_behind (hr.mono (by decide)) rfl (a2a (a0e (pv 0) (a0e (a1x a2e (pv 2) (pv 1) (fun _ _ => rfl)) a1c rfl) rfl))), ?_⟩
  have hc := g _ _ h2
  have off : ∀ {b : Addr} {u : HO}, (∀ φ, u ≠ .ext φ) -> H b = some u -> (L2.drop H c) b = some u := fun nu hb => by
   rw [a0x (a1n hb hc fun e => nu _ e)]
   exact hb
  have ln := Tm.len
  obtain ⟨r, er⟩ : ∃ r, rs[l]? = some r := ⟨_, a0A (by lia)⟩
  have et : mk[l]? = some (mk.getD l []) := by rw [a0J, a0A hl']; rfl
  have hr1 := off (u := .tup _) (fun _ e => nomatch e) (g _ _ (Tm.is l r _ er et))
  have mt := mU _ (a0H et)
  obtain ⟨x1, x2⟩ := d0a hx
  obtain ⟨y1, y2⟩ := d0a mt
  refine ⟨_, rfl, _, rfl, _, rfl, lm, _, _, _, rfl, rfl, SqL.of (off (u := .lst _) (fun _ e => nomatch e) (g _ _ hl)), a2r (j := l) (v := .ref r) (by rw [a0E, er]; rfl), t, r, x, mk.getD l [], rfl, off (u := .tup _) (fun _ e => nomatch e) ht, hr1, fun y hy => by rw [y1]; exact x2 y hy, by lia, fun p H3 g3 e3 free => q p _ (fun y o ho => ?_) ?_⟩
  ·by_cases hy : y = c
   ·subst hy
    rw [hc] at ho
    cases ho
    exact a0a
   ·rw [a0d hy]
    exact g3 _ _ (by rw [a0x hy]; exact ho)
  ·rw [a0d (a0h e3 free)]
   exact e3
theorem b0a {cd T : Addr} (F : DefAt K "level_group" a1j f fd .none (.ref cd)) (hC : PySem.W.CodeHd base cd T) (bm : b1c mg base) (hq : (("level_group.<locals>.<lambda>" : Str), (⟨118, 61, 118, 110⟩ : Pos), T) ∈ tabsL) (c_all_tiles_turned : a0l P w K mg base "all_tiles_turned" 11 ["machine", "level"] a9r) (c_still : a0l P w K mg base "still" 1 ["rooms"] b5o) (c_behind : a0l P w K mg base "behind" 1 ["one", "other"] b1t)
  (c_reached : b1d P w K mg base "reached" 8 ["start", "letters", "step", "most"] (a5m P w K mg base) [.non]) (m_len : mg "len" = none) (m_sorted : mg "sorted" = none) : FnOk P w K mg base CX0 13 f fd ["machine", "level"] c3z := by
 refine F.fnOk scLevelGroup (fun vs H Q E h => ?_) (fun A outer s H vs Q E h hr => ?_)
 ·obtain ⟨m, a, ts, n, fam, c, us, wds, rfl, _⟩ := h
  rfl
 obtain ⟨m, a, ts, n, fam, c, us, wds, rfl, M, ff, lv, lp, hT, q⟩ := h
 refine ⟨_, ?_, (a0f (a0r (i := 2) scLevelGroup.nd rfl (Or.inr rfl) (a0m c_all_tiles_turned (hr.mono (by decide)) rfl (a2a (a0e (pv 0) (a0e (pv 1) a1c rfl) rfl)))) (a0i (a1b (a0v (b8z rfl) rfl m_sorted a8W (a0g (b3h c_reached (hr.mono (by decide)) rfl (j := 2) rfl rfl rfl rfl (a2a (a0e (a0m c_still (hr.mono (by decide)) rfl (a0g (a0v a0t rfl m_len a6B (a0g (a1x a2k (pv 1) a0q (fun _ _ => rfl)) a0j)) a0j)) (a0e (a0v a0t rfl m_len a6B (a0g (pv 2) a0j)) (a0e (c7j (qual := "level_group.<locals>.<lambda>") rfl hC bm (fun _ _ _ _ _ => rfl) rfl rfl) a1c rfl) rfl) rfl))) a0j)))))⟩
 refine ⟨_, rfl, _, rfl, m, a, ts, n, fam, c, us, wds, rfl, M, ff, lv, lp, fun lm rs mk H1 g1 elm Tm Mk few200 => ?_⟩
 obtain ⟨s', t', v', bs, ds, cs, h1, h2, h3, h4, h5, h6, h7, h8⟩ := id (lv.same g1)
 have l5 := h5.len
 obtain ⟨uU, few⟩ := lp.inU M ff
 have n5 := M.n5
 have nd := a5x M ff lp
 have mU : ∀ t ∈ mk, t ∈ gU us n := fun t ht => by
  obtain ⟨k, l, k', x, wd, wd', e1, e2, e3, e4, e5, e6⟩ := Mk.mem t ht
  exact c3y M ff lp e1 e2 e3 e4 e5 e6
 refine ⟨_, rfl, a, _, _, _, rfl, rfl, SqT.of h1, rfl, t', _, rfl, .inl (SqL.of h4), ?_⟩
 try dsimp only
 rw [a0D, l5]
 refine ⟨us.length, rfl, by lia, fun st H2 g2 e2 => ?_⟩
 have elm2 := g2 _ _ elm
 have Tm2 := Tm.same g2
 have T2 : Tabs H2 := (hT.same g1).same g2
 refine ⟨_, rfl, lm, _, rfl, .inl (SqL.of elm2), ?_⟩
 try dsimp only
 rw [a0D, Tm2.len]
 have end1 : ∀ (H3 : Hp) (D : Addr) (ws : TW) (as : List Addr), Keeps H H3 -> Tabs H3 -> WordsAt H3 D ws as -> Told (a7r mk) mk.length (List.range us.length) ws -> c2r [.ref D] H3 Q := fun H3 D ws as k3 t3 W TT => by
  have inG : ∀ p ∈ ws, p.1 ∈ gU us n := fun p hp => by
   obtain ⟨r1, r2⟩ := TT.run p hp
   rw [<- r2]
   refine a6g (b7w nd uU) (fun x hx l hl => c3x n5 uU hx ?_) p.2 r1
   rw [a0J, a0A hl]
   exact mU _ (a2Y hl)
  refine ⟨D, _, ws.map (·.1), rfl, W.dict, ?_, fun t ht e => ?_, ?_, fun l bs gs hl Tb pm up => ?_⟩
  ·exact b0t W.len
  ·obtain ⟨p, hp, rfl⟩ := a0M.mp ht
   have z := (d0a (inG p hp)).1
   rw [e] at z
   have := b0s M ff lp
   simp at z
   lia
  ·refine a1A (a6t (U := gU us n) TT.keys fun x hx => ?_) (c7u n5)
   obtain ⟨p, hp, rfl⟩ := a0M.mp hx
   exact inG p hp
  ·have gl := a0c hl (.lst (bs.map V.ref))
   refine q l bs gs mk ws _ (k3.trans gl.keeps) (t3.same gl) ?_ a0a (Tb.same gl) pm up Mk TT
   cases y : L2.noT H l with
   | none => rfl
   | some o =>
    have z := k3 _ _ y
    rw [hl] at z
    cases z
 have go : ∀ (fl cc : Addr) (ct : Value) (H3 : Hp) (tps : Array Value), H2 T = some (.tbl tps) -> KeepsBut T H2 H3 -> H3 T = some (.tbl (a3o (⟨118, 61, 118, 110⟩ : Pos) cc)) -> H3 cc = some (a6f cc "level_group.<locals>.<lambda>") -> ∀ (params : Arguments) (body : Expr) (scope : Scope) (pm : Value) (c' : Addr), H3 fl = some (b1b fl (a3u "level_group.<locals>.<lambda>" params body scope "makers" c' pm (.ref cc) ct)) ->
   ∀ oc, H3 c' = none -> (FnOk P w K mg base CX0 5 fl (a3u "level_group.<locals>.<lambda>" params body scope "makers" c' pm (.ref cc) ct) ["turn", "number"] (a7v (Same (upd H3 c' (a3n c' lm oc))) (gU us n) mk.length (a7r mk))) -> Binds K (a3u "level_group.<locals>.<lambda>" params body scope "makers" c' pm (.ref cc) ct) ["turn", "number"] [] ->
   a5m P w K mg base [.ref st, nv mk.length, .ref fl, .non] (upd H3 c' (a3n c' lm oc)) (fun r H4 => H4 c' = some (a3n c' lm oc) /\ c2r [r] (L2.drop H4 c') Q) E0 := fun fl cc ct H3 tps hT0 kb h1 h2 params body scope pm c' h3 oc hc hF hB => by
  have k1 := kb.keeps hT0
  have kc := a0c hc (a3n c' lm oc)
  refine ⟨st, fl, _, _, List.range us.length, mk.length, gU us n, a7r mk, rfl, kc _ _ (k1 _ _ (a0y e2 fun _ e => nomatch e)), kc _ _ h3, b7w nd uU, fun x hx l hl => c3x n5 uU hx ?_, c7u n5, by lia, hF, hB, fun D ws as H4 g4 W nw TT => ⟨g4 _ _ a0a, end1 _ D ws as (fun b o hb => ?_) (T2.but hq hT0 (fun b o nb hb => ?_) (.inr ⟨cc, ?_, ?_⟩)) ⟨W.len, ?_, fun j a r e1 e2 => ?_⟩ TT⟩⟩
  ·rw [a0J, a0A hl]
   exact mU _ (a2Y hl)
  ·have z := ((g1.trans g2).keeps.trans k1) b o hb
   rw [a0x (a0h z hc)]
   exact g4 _ _ (kc _ _ z)
  ·have z := kb b o nb hb
   rw [a0x (a0h z hc)]
   exact g4 _ _ (kc _ _ z)
  ·rw [a0x (a0h h1 hc)]
   exact g4 _ _ (kc _ _ h1)
  ·rw [a0x (a0h h2 hc)]
   exact g4 _ _ (kc _ _ h2)
  ·rw [a0x (a1n W.dict (g4 _ _ a0a) fun e => nomatch e)]
   exact W.dict
  ·have z := W.list j a r e1 e2
   rw [a0x (a1n z (g4 _ _ a0a) fun e => nomatch e)]
   exact z
 rcases T2 _ hq with hT1 | ⟨cc, hT1, hcc⟩
 ·refine .inl ⟨hT1, fun fl cc ct hfl hcc ne => ⟨lm, rfl, fun oc hc => ?_⟩⟩
  obtain ⟨k1, hT2, hc1⟩ := d2p (⟨118, 61, 118, 110⟩ : Pos) "level_group.<locals>.<lambda>" hT1 hfl hcc ne _
  have kc := a0c hc (a3n (s.heap.objs.size + 1) lm oc)
  have k1' := k1.keeps hT1
  obtain ⟨F1, F2⟩ := b4f rfl c_behind (kc _ _ (k1' _ _ (a0y elm2 fun _ e => nomatch e))) ((a2n Tm2 k1').same kc) mU few (kc _ _ a0a) a0a (kc _ _ hc1)
  exact go fl cc ct _ _ hT1 k1 hT2 hc1 _ _ _ _ _ a0a oc hc F1 F2
 ·refine .inr ⟨cc, hT1, hcc, fun fl ct hfl => ⟨lm, rfl, fun oc hc => ?_⟩⟩
  have k1 : ∀ lo, Same H2 (upd H2 fl lo) := fun lo => a0c hfl lo
  have kc := a0c hc (a3n (s.heap.objs.size + 1) lm oc)
  obtain ⟨F1, F2⟩ := b4f rfl c_behind (kc _ _ (k1 _ _ _ elm2)) ((Tm2.same (k1 _)).same kc) mU few (kc _ _ a0a) a0a (kc _ _ (k1 _ _ _ hcc))
  exact go fl cc ct _ _ hT1 (fun b o _ hb => k1 _ _ _ hb) (k1 _ _ _ hT1) (k1 _ _ _ hcc) _ _ _ _ _ a0a oc hc F1 F2
end
def kvB (ks : List (List Nat)) : List (List Key × V) := ks.map fun x => (nk x, V.bl true)
theorem c4a : ∀ {ks : List (List Nat)} {x : List Nat}, x ∉ ks -> a9v (kvB ks) (nk x) = none
 | [], _, _ => rfl
 | p :: ks, x, h => (a4m (p := (nk p, V.bl true)) (r := kvB ks) fun z => h (a1H.mpr (.inl (b0g z).symm))).trans (c4a fun z => h (a0V _ z))
theorem c4b : ∀ {ks : List (List Nat)} {x : List Nat}, x ∈ ks -> a9v (kvB ks) (nk x) = some (.bl true)
 | [], _, h => nomatch h
 | p :: ks, x, h => by
  by_cases e : p = x
  ·rw [<- e]
   exact a6p (p := (nk p, V.bl true)) (r := kvB ks) rfl
  ·exact (a4m (p := (nk p, V.bl true)) (r := kvB ks) fun z => e (b0g z)).trans (c4b ((a1H.mp h).resolve_left fun z => e z.symm))
theorem c6o (ks : List (List Nat)) : (kvB ks).map (·.1) = ks.map nk := by
 unfold kvB
 rw [a1T]
 rfl
theorem c4c {ks : List (List Nat)} {x : List Nat} : b2f (kvB ks) (nk x) (.bl true) = if x ∈ ks then kvB ks else kvB (ks ++ [x]) := by
 by_cases h : x ∈ ks
 ·rw [if_pos h]
  unfold b2f
  rw [if_pos (by rw [a8g, c4b h]; rfl)]
  unfold kvB
  rw [a1T]
  exact a2D fun y _ => ite_self _
 ·rw [if_neg h, b0x _ (c4a h)]
  unfold kvB
  rw [a1M]
  rfl
structure KAt (H0 H : Hp) (Dk S : Addr) (tt : List Addr) (ws : TW) : Prop where
 g : Same H0 H
 nK : H0 Dk = none
 nS : H0 S = none
 known : H Dk = some (.dT (kvB (ws.map (·.1))))
 lst : H S = some (.lst (tt.map .ref))
 tups : TupsAt H tt (ws.map (·.1))
theorem KAt.same {H0 H H' : Hp} {Dk S : Addr} {tt : List Addr} {ws : TW} (h : KAt H0 H Dk S tt ws) (g : Same H H') : KAt H0 H' Dk S tt ws := ⟨h.g.trans g, h.nK, h.nS, g _ _ h.known, g _ _ h.lst, h.tups.same g⟩
theorem KAt.more {H0 H : Hp} {Dk S r : Addr} {tt : List Addr} {ws : TW} {x v : List Nat} (h : KAt H0 H Dk S tt ws) (e : H r = some (.tup (x.map nv))) : KAt H0 (upd (upd H Dk (.dT (kvB (ws.map (·.1) ++ [x])))) S (.lst (tt.map V.ref ++ [.ref r]))) Dk S (tt ++ [r]) (ws ++ [(x, v)]) := by
 have SD : S ≠ Dk := a1n h.lst h.known fun z => nomatch z
 have off : ∀ {b : Addr} {vs : List V}, H b = some (.tup vs) -> (upd (upd H Dk (.dT (kvB (ws.map (·.1) ++ [x])))) S (.lst (tt.map V.ref ++ [.ref r]))) b = some (.tup vs) := fun hb => by
  rw [a0d (a1n hb h.lst fun z => nomatch z), a0d (a1n hb h.known fun z => nomatch z)]
  exact hb
 refine ⟨a1t (a1t h.g h.nK) h.nS, h.nK, h.nS, ?_, ?_, ?_⟩
 ·rw [a0d SD.symm, a0a, a1M]
  rfl
 ·rw [a0a, a1M]
  rfl
 ·rw [a1M]
  exact a4j ⟨h.tups.len, fun i b u e1 e2 => off (h.tups.is i b u e1 e2)⟩ (off e)
theorem LvH.keeps {H H' : Hp} {a : Addr} {c us wds : List (List Nat)} (h : LvH H a c us wds) (g : Keeps H H') : LvH H' a c us wds := by
 obtain ⟨s, t, v, bs, ds, cs, h1, h2, h3, h4, h5, h6, h7, h8⟩ := h
 have nt := fun {b : Addr} {u : HO} (nu : ∀ φ, u ≠ .tbl φ) (h : H b = some u) => g b u (a0y h nu)
 exact ⟨s, t, v, bs, ds, cs, nt (fun _ e => nomatch e) h1, nt (fun _ e => nomatch e) h2, a2n h3 g, nt (fun _ e => nomatch e) h4, a2n h5 g, nt (fun _ e => nomatch e) h6, h7, fun k b wd e1 e2 => nt (fun _ e => nomatch e) (h8 k b wd e1 e2)⟩
def tw (ts us : List (List Nat)) (w : List Nat) : List Nat := us.map fun u => ixl us (a0z (a0k ts) u w)
def Kps (ts : List (List Nat)) (x w : List Nat) : Prop := (∀ l ∈ w, l < ts.length) /\ a0z (a0k ts) x w = x
section
variable {H : Hp} {m : Addr} {ts : List (List Nat)} {n : Nat} {fam c us wds : List (List Nat)}
theorem b4g (M : Mach H m ts n) (ff : FamOf ts n fam) (lp : LvP ts fam c us wds) : c.headD [] ∈ a1g n := ff.inU M (a1F.mp (a0o lp.cls).2.2.1).1
theorem b7x (M : Mach H m ts n) (ff : FamOf ts n fam) (lp : LvP ts fam c us wds) {w u : List Nat} (k : Kps ts (c.headD []) w) (hu : u ∈ us) : a0z (a0k ts) u w ∈ us := by
 obtain ⟨p, b⟩ := c3s M (b4g M ff lp) k.1 k.2 (Rch.refl ts _)
 have z := b2b M ff (b4g M ff lp) b (u := u) (by rw [<- lp.tl]; exact hu)
 rw [<- lp.tl] at z
 exact z
theorem d0c {x w v : List Nat} (a : Kps ts x w) (b : Kps ts x v) : Kps ts x (w ++ v) :=
 ⟨fun l hl => (a0K.mp hl).elim (a.1 l) (b.1 l), by rw [a2g, a.2, b.2]⟩
theorem d2t (M : Mach H m ts n) (ff : FamOf ts n fam) (lp : LvP ts fam c us wds) {w v : List Nat} (k : Kps ts (c.headD []) w) : tw ts us (w ++ v) = beh (tw ts us w) (tw ts us v) := by
 unfold tw
 show _ = (us.map fun u => ixl us (a0z (a0k ts) u w)).map fun x => (us.map fun u => ixl us (a0z (a0k ts) u v)).getD x 0
 rw [a1T]
 refine a2D fun u hu => ?_
 obtain ⟨l, e⟩ := b4e (b7x M ff lp k hu)
 show _ = (us.map fun u => ixl us (a0z (a0k ts) u v)).getD (ixl us (a0z (a0k ts) u w)) 0
 rw [a0J, a0E, e, a2g]
 rfl
theorem d2u (nd : us.Nodup) : tw ts us [] = List.range us.length := by
 refine a3V fun j => ?_
 unfold tw
 rw [a0E]
 by_cases h : j < us.length
 ·rw [a3I h, a0A h]
  exact a2C some (b7v nd (a0A h))
 ·rw [a1Q (by lia), a1Q (by simp; lia)]
  rfl
theorem d2v (nd : us.Nodup) {t w : List Nat} (len : t.length = us.length) (h : ∀ (j : Nat) (u : List Nat) (j' : Nat), us[j]? = some u -> t[j]? = some j' -> us[j']? = some (a0z (a0k ts) u w)) : t = tw ts us w := by
 refine a3V fun j => ?_
 unfold tw
 rw [a0E]
 cases e : us[j]? with
 | none =>
  have := a6W.mp e
  rw [a1Q (by lia)]
  rfl
 | some u =>
  have := (a0B.mp e).1
  obtain ⟨j', ej⟩ : ∃ j', t[j]? = some j' := ⟨_, a0A (by lia)⟩
  rw [ej]
  exact a2C some (b7v nd (h j u j' e ej)).symm
theorem b9p (M : Mach H m ts n) (ff : FamOf ts n fam) (lp : LvP ts fam c us wds) {mk : List (List Nat)} (Mk : Makers ts c us wds mk) {t : List Nat} (ht : t ∈ mk) : ∃ w, Kps ts (c.headD []) w /\ t = tw ts us w := by
 obtain ⟨k, l, k', x, wd, wd', ex, ew, ll, ey, ew', tb⟩ := Mk.mem t ht
 obtain ⟨uU, _⟩ := lp.inU M ff
 have nd := a5x M ff lp
 have go := lp.go k x wd ex ew
 obtain ⟨p, b⟩ := lp.bij M ff ey ew'
 have tf := a2o M ff (c.headD [])
 rw [<- lp.tl] at tf
 have lw : ∀ z ∈ wd ++ [l] ++ p, z < ts.length := fun z hz => by
  rcases a0K.mp hz with h | h
  ·rcases a0K.mp h with h | h
   ·exact go.1 z h
   ·rw [a0F.mp h]
    exact ll
  ·exact b.lp z h
 refine ⟨wd ++ [l] ++ p, ⟨lw, ?_⟩, d2v nd tb.1 fun j u j' eu ej => ?_⟩
 ·rw [a2g, a2g, go.2]
  exact b.fro
 ·obtain ⟨u', f1, f2⟩ := tb.2 j u j' eu ej
  have hu' := a0H f1
  rw [a2g, a2g]
  show us[j']? = some (a0z (a0k ts) (a0k ts (a0z (a0k ts) u wd) l) p)
  rw [<- f2, b.back M (uU u' hu') (tf.mem u' hu').2.2]
  exact f1
theorem b9q (M : Mach H m ts n) (ff : FamOf ts n fam) (lp : LvP ts fam c us wds) {mk : List (List Nat)} (Mk : Makers ts c us wds mk) : ∀ (v w0 : List Nat), (∀ i ∈ v, i < mk.length) -> Kps ts (c.headD []) w0 -> ∃ w, Kps ts (c.headD []) w /\ a0z (a7r mk) (tw ts us w0) v = tw ts us w := by
 intro v
 induction v with
 | nil => exact fun w0 _ k => ⟨w0, k, rfl⟩
 | cons i v ih =>
  intro w0 hv k
  have li := hv i (a0S ..)
  obtain ⟨w, kw, ew⟩ := b9p M ff lp Mk (a2Y li)
  have e : a7r mk (tw ts us w0) i = tw ts us (w0 ++ w) := by
   rw [d2t M ff lp k, <- ew]
   show beh _ (mk.getD i []) = _
   rw [a0J, a0A li]
   rfl
  show ∃ w, Kps ts (c.headD []) w /\ a0z (a7r mk) (a7r mk (tw ts us w0) i) v = tw ts us w
  rw [e]
  exact ih (w0 ++ w) (fun l hl => hv l (a0V _ hl)) (d0c k kw)
theorem d2w (M : Mach H m ts n) (ff : FamOf ts n fam) (lp : LvP ts fam c us wds) {w v : List Nat} (lw : ∀ l ∈ w, l < ts.length) (lv : ∀ l ∈ v, l < ts.length) (e : a0z (a0k ts) (a0z (a0k ts) (c.headD []) w) v = c.headD []) : a0z (a0k ts) (c.headD []) w ∈ c := by
 obtain ⟨_, ec, hb, _⟩ := a0o lp.cls
 have hU := b4g M ff lp
 obtain ⟨h1, h2⟩ := a1F.mp hb
 have yU := a1i M hU lw
 suffices z : a0z (a0k ts) (c.headD []) w ∈ alike ts (big fam) (c.headD []) by
  rw [<- ec] at z
  exact z
 refine a1F.mpr ⟨a1F.mpr ⟨c3t M ff h1 lw, a0Y ?_⟩, ?_⟩
 ·have h2 := a1X h2
  have z := a2N (l₂ := (a0z (a0k ts) (c.headD []) w).map fun r => a3d ts r v) (a2y hU) fun r hr => by
   rw [<- e] at hr
   obtain ⟨r0, h3, h4⟩ := (a1h M yU lv).mp hr
   exact a0M.mpr ⟨r0, h3, h4⟩
  rw [a0D] at z
  lia
 ·rw [a3M, rch_iff, rch_iff]
  exact ⟨⟨w, lw, rfl⟩, v, lv, e⟩
theorem b9r (M : Mach H m ts n) (ff : FamOf ts n fam) (lp : LvP ts fam c us wds) (w0 : wds[0]? = some []) {mk : List (List Nat)} (Mk : Makers ts c us wds mk) {ws : TW} (T : Told (a7r mk) mk.length (List.range us.length) ws) :
  ∀ (v w : List Nat) (k : Nat) (wd t : List Nat), (∀ l ∈ w, l < ts.length) -> (∀ l ∈ v, l < ts.length) -> a0z (a0k ts) (a0z (a0k ts) (c.headD []) w) v = c.headD [] -> c[k]? = some (a0z (a0k ts) (c.headD []) w) -> wds[k]? = some wd -> t ∈ ws.map (·.1) -> t.length = us.length ->
   (∀ (j : Nat) (u : List Nat) (j' : Nat), us[j]? = some u -> t[j]? = some j' -> ∃ u', us[j']? = some u' /\ a0z (a0k ts) u' wd = a0z (a0k ts) u w) -> tw ts us (w ++ v) ∈ ws.map (·.1) := by
 intro v
 have nd := a5x M ff lp
 have ndc := lp.nd ff
 have c0 : c[0]? = some (c.headD []) := by
  cases c with
  | nil => exact absurd rfl (a0o lp.cls).1
  | cons x c => rfl
 induction v with
 | nil =>
  intro w k wd t lw _ e ek ew ht lt inv
  have e : a0z (a0k ts) (c.headD []) w = c.headD [] := e
  rw [e] at ek
  have k0 := (a2P (a0B.mp ek).1 ndc).mp (ek.trans c0.symm)
  subst k0
  rw [w0] at ew
  cases ew
  rw [a2J, <- d2v nd lt fun j u j' eu ej => ?_]
  ·exact ht
  ·obtain ⟨u', f1, f2⟩ := inv j u j' eu ej
   rw [<- f2]
   exact f1
 | cons l v ih =>
  intro w k wd t lw lv e ek ew ht lt inv
  have ll := lv l (a0S ..)
  have lv' : ∀ x ∈ v, x < ts.length := fun x hx => lv x (a0V _ hx)
  have lw' : ∀ x ∈ w ++ [l], x < ts.length := fun x hx => (a0K.mp hx).elim (lw x) fun z => by rw [a0F.mp z]; exact ll
  have e1 : a0z (a0k ts) (c.headD []) (w ++ [l]) = a0k ts (a0z (a0k ts) (c.headD []) w) l := a2g ts _ w [l]
  have e' : a0z (a0k ts) (a0z (a0k ts) (c.headD []) (w ++ [l])) v = c.headD [] := by rw [e1]; exact e
  have my := d2w M ff lp lw' lv' e'
  rw [e1] at my
  obtain ⟨k', wd', t', m', f1, f2, f3⟩ := Mk.all k l _ wd ek ew ll my
  obtain ⟨i, hi⟩ := a3Z m'
  have li := (a0B.mp hi).1
  obtain ⟨p, hp, rfl⟩ := a0M.mp ht
  obtain ⟨r1, r2⟩ := T.run p hp
  have eb : a7r mk p.1 i = beh p.1 t' := by
   show beh _ (mk.getD i []) = _
   rw [a0J, hi]
   rfl
  have hb : beh p.1 t' ∈ ws.map (·.1) := by
   obtain ⟨u, h2, _⟩ := T.least _ (p.2 ++ [i]) rfl fun x hx => (a0K.mp hx).elim (r1 x) fun z => by rw [a0F.mp z]; exact li
   have e3 : a0z (a7r mk) (List.range us.length) (p.2 ++ [i]) = beh p.1 t' := by
    rw [<- eb, <- r2]
    unfold a0z
    rw [a3U]
    rfl
   rw [e3] at h2
   exact a0M.mpr ⟨_, h2, rfl⟩
  have z := ih (w ++ [l]) k' wd' (beh p.1 t') lw' lv' e' (by rw [e1]; exact f1) f2 hb (by unfold beh; rw [List.length_map, lt]) fun j u j' eu ej => ?_
  ·rw [a1K] at z
   exact z
  ·obtain ⟨j1, ej1⟩ : ∃ j1, p.1[j]? = some j1 := ⟨_, a0A (by rw [lt]; exact (a0B.mp eu).1)⟩
   obtain ⟨u', g1, g2⟩ := inv j u j1 eu ej1
   have l1 := (a0B.mp g1).1
   have ej2 : t'[j1]? = some j' := by
    unfold beh at ej
    rw [a0E, ej1] at ej
    have ej : some (t'.getD j1 0) = some j' := ej
    rw [<- ej, a0J, a0A (by rw [f3.1]; exact l1)]
    rfl
   obtain ⟨u2, g3, g4⟩ := f3.2 j1 u' j' g1 ej2
   refine ⟨u2, g3, ?_⟩
   rw [g4, g2, a2g]
   rfl
theorem c4d (M : Mach H m ts n) (ff : FamOf ts n fam) (lp : LvP ts fam c us wds) (w0 : wds[0]? = some []) {mk : List (List Nat)} (Mk : Makers ts c us wds mk) {ws : TW} (T : Told (a7r mk) mk.length (List.range us.length) ws) (t : List Nat) : t ∈ ws.map (·.1) ↔ ∃ w, Kps ts (c.headD []) w /\ t = tw ts us w := by
 have nd := a5x M ff lp
 have c0 : c[0]? = some (c.headD []) := by
  cases c with
  | nil => exact absurd rfl (a0o lp.cls).1
  | cons x c => rfl
 constructor
 ·intro h
  obtain ⟨p, hp, rfl⟩ := a0M.mp h
  obtain ⟨r1, r2⟩ := T.run p hp
  obtain ⟨w, k, e⟩ := b9q M ff lp Mk p.2 [] r1 ⟨(fun _ h => nomatch h), rfl⟩
  rw [d2u nd, r2] at e
  exact ⟨w, k, e⟩
 ·rintro ⟨w, k, rfl⟩
  refine b9r M ff lp w0 Mk T w [] 0 [] (List.range us.length) (fun _ h => nomatch h) k.1 k.2 c0 w0 (a0M.mpr ⟨_, a0H T.head, rfl⟩) a4W fun j u j' eu ej => ?_
  rw [a3I (a0B.mp eu).1] at ej
  cases ej
  exact ⟨u, eu, rfl⟩
end
def a2p (ts : List (List Nat)) (x w : List Nat) : List Nat := x.map fun r => a3d ts r w
def zN (x : List Nat) : List Int := x.map fun r => ((r : Nat) : Int)
theorem c4e {x : List Nat} {i : Int} : i ∈ zN x ↔ ∃ r ∈ x, ((r : Nat) : Int) = i := a0M
theorem zN_mem {x : List Nat} {r : Nat} : ((r : Nat) : Int) ∈ zN x ↔ r ∈ x := by
 rw [c4e]
 exact ⟨fun ⟨r', h, e⟩ => by rwa [<- a8K e], fun h => ⟨r, h, rfl⟩⟩
theorem c7v {r : Nat} : ∀ {x : List Nat}, (zN x).idxOf ((r : Nat) : Int) = x.idxOf r
 | [] => rfl
 | a :: x => by
  show (((a : Nat) : Int) :: zN x).idxOf ((r : Nat) : Int) = _
  rw [List.idxOf_cons, List.idxOf_cons, c7v]
  have e : (((a : Nat) : Int) == ((r : Nat) : Int)) = (a == r) := by
   rw [a2W, b0H, b0H]
   exact ⟨fun h => by lia, fun h => by lia⟩
  rw [e]
theorem d2x {n : Nat} {x : List Nat} (hx : x ∈ a1g n) : (zN x).Pairwise fun a b => decide (a < b) = true := by
 rw [<- (mem_setsU.mp hx).1]
 unfold a1o zN
 rw [a4F]
 refine a3W a5U ?_
 exact List.pairwise_lt_range.imp fun {a b} h => a0Y (by lia)
theorem c6p {us vs : List Int} (h1 : us.Pairwise fun a b => decide (a < b) = true) (h2 : vs.Pairwise fun a b => decide (a < b) = true) (h : ∀ x, x ∈ us ↔ x ∈ vs) : us = vs :=
 a4u (lt := fun a b => decide (a < b)) (fun x => a1I (by lia)) (fun x y z a b => a0Y (by have := a1X a; have := a1X b; lia)) h1 h2 h
theorem d2y {js : List Int} {u : List Nat} (nd : u.Nodup) (pm : js.Perm (zN u)) (up : js.Pairwise (· <= ·)) : js.Pairwise fun a b => decide (a < b) = true := by
 have nd2 : js.Nodup := by
  rw [pm.nodup_iff, a2T]
  unfold zN
  rw [a4F]
  exact (a2T.mp nd).imp fun {a b} h e => h (by lia)
 exact List.Pairwise.imp (fun {a b} h => a0Y (by have h1 := h.1; have h2 := h.2; lia)) (List.Pairwise.and up (a2T.mp nd2))
theorem b4h : ∀ {ns l : List Nat}, l.Nodup -> (∀ x ∈ l, x ∈ ns) -> l.length = ns.length -> ns.Nodup
 | [], _, _, _, _ => a9J
 | a :: r, l, nd, sb, e => by
  have no : ¬ ∀ x ∈ l, x ∈ r := fun h => by
   have := a2N nd h
   rw [e, a4O] at this
   lia
  have hr : a ∉ r := fun h => no fun x hx => (a1H.mp (sb x hx)).elim (fun z => by rw [z]; exact h) id
  have hl : a ∈ l := a6V fun h => no fun x hx => (a1H.mp (sb x hx)).elim (fun z => absurd (z ▸ hx) h) id
  refine a2X.mpr ⟨hr, b4h (l := l.erase a) (nd.erase a) (fun x hx => ?_) (by rw [List.length_erase_of_mem hl, e]; rfl)⟩
  obtain ⟨h1, h2⟩ := (List.Nodup.mem_erase_iff nd).mp hx
  exact (a1H.mp (sb x h2)).resolve_left h1
theorem d0d {ns : List Nat} (h5 : ∀ i ∈ ns, i < 5) : (a1o ns).length = ns.length ↔ ns.Nodup := by
 have n1 : (a1o ns).Nodup := by
  unfold a1o
  exact a9I a5U List.nodup_range
 refine ⟨fun e => b4h n1 (fun x hx => a5v hx) e, fun nd => Nat.le_antisymm (a2N n1 fun x hx => a5v hx) (a2N nd fun x hx => b1s hx (h5 x hx))⟩
section
variable {H : Hp} {m : Addr} {ts : List (List Nat)} {n : Nat} {fam c us wds : List (List Nat)}
theorem c7w {x w : List Nat} (nd : x.Nodup) (inj : ∀ a ∈ x, ∀ b ∈ x, a3d ts a w = a3d ts b w -> a = b) : (a2p ts x w).Nodup := by
 unfold a2p
 rw [a2T, a4F]
 exact List.Pairwise.imp_of_mem (fun {a b} ha hb ne e => ne (inj a ha b hb e)) (a2T.mp nd)
theorem b7y (M : Mach H m ts n) {x w : List Nat} (hx : x ∈ a1g n) (lw : ∀ l ∈ w, l < ts.length) (nd : (a2p ts x w).Nodup) {js : List Int} (pm : js.Perm (zN (a2p ts x w))) (up : js.Pairwise (· <= ·)) : js = zN (a0z (a0k ts) x w) := by
 refine c6p (d2y nd pm up) (d2x (a1i M hx lw)) fun i => ?_
 rw [pm.mem_iff, c4e, c4e]
 constructor
 ·rintro ⟨r, hr, rfl⟩
  obtain ⟨r0, h0, rfl⟩ := a0M.mp hr
  exact ⟨_, (a1h M hx lw).mpr ⟨r0, h0, rfl⟩, rfl⟩
 ·rintro ⟨r, hr, rfl⟩
  obtain ⟨r0, h0, e⟩ := (a1h M hx lw).mp hr
  exact ⟨r, a0M.mpr ⟨r0, h0, e⟩, rfl⟩
theorem c4f (M : Mach H m ts n) {x w : List Nat} (hx : x ∈ a1g n) (k : Kps ts x w) : ∀ a ∈ x, ∀ b ∈ x, a3d ts a w = a3d ts b w -> a = b :=
 b7t (f := fun r => a3d ts r w) (a2y hx) fun r hr => (a1h M hx k.1).mp (by rw [k.2]; exact hr)
theorem d2z (M : Mach H m ts n) {x w : List Nat} (hx : x ∈ a1g n) (k : Kps ts x w) : (a2p ts x w).Nodup := c7w (a2y hx) (c4f M hx k)
def a3v (ts : List (List Nat)) (x : List Nat) (l : Nat) : List Nat := if (beh x (ts.getD l [])).Nodup then beh x (ts.getD l []) else x
theorem b2d {x w : List Nat} {l : Nat} : beh (a2p ts x w) (ts.getD l []) = a2p ts x (w ++ [l]) := by
 unfold beh a2p
 rw [a1T]
 exact a2D fun r _ => (b3v ts r w l).symm
theorem b5w {x : List Nat} : a2p ts x [] = x := by
 unfold a2p a3d
 exact (a2D (g := id) fun r _ => rfl).trans (List.map_id _)
theorem a9s {x : List Nat} {L : Nat} : ∀ (v w0 : List Nat), (∀ l ∈ v, l < L) -> (∀ l ∈ w0, l < L) -> (a2p ts x w0).Nodup -> ∃ w, (∀ l ∈ w, l < L) /\ (a2p ts x w).Nodup /\ a0z (a3v ts) (a2p ts x w0) v = a2p ts x w
 | [], w0, _, h0, nd => ⟨w0, h0, nd, rfl⟩
 | l :: v, w0, hv, h0, nd => by
  have hv' : ∀ i ∈ v, i < L := fun i hi => hv i (a0V _ hi)
  show ∃ w, _ /\ _ /\ a0z (a3v ts) (a3v ts (a2p ts x w0) l) v = _
  by_cases c : (beh (a2p ts x w0) (ts.getD l [])).Nodup
  ·rw [show a3v ts (a2p ts x w0) l = a2p ts x (w0 ++ [l]) by unfold a3v; rw [if_pos c, b2d]]
   rw [b2d] at c
   exact a9s v (w0 ++ [l]) hv' (fun i hi => (a0K.mp hi).elim (h0 i) fun z => by rw [a0F.mp z]; exact hv l (a0S ..)) c
  ·rw [show a3v ts (a2p ts x w0) l = a2p ts x w0 by unfold a3v; rw [if_neg c]]
   exact a9s v w0 hv' h0 nd
theorem b4i {x : List Nat} : ∀ (v w0 : List Nat), (a2p ts x (w0 ++ v)).Nodup -> a0z (a3v ts) (a2p ts x w0) v = a2p ts x (w0 ++ v)
 | [], w0, _ => by rw [a2J]; rfl
 | l :: v, w0, nd => by
  have ea : w0 ++ l :: v = (w0 ++ [l]) ++ v := by simp
  have n1 : (a2p ts x (w0 ++ [l])).Nodup := by
   have e : a2p ts x (w0 ++ l :: v) = (a2p ts x (w0 ++ [l])).map fun r => a3d ts r v := by
    unfold a2p
    rw [a1T, ea]
    exact a2D fun r _ => a8o ts r _ _
   rw [e] at nd
   rw [a2T] at nd ⊢
   exact (a4F.mp nd).imp fun {a b} h e => h (by rw [e])
  show a0z (a3v ts) (a3v ts (a2p ts x w0) l) v = _
  have c := n1
  rw [<- b2d] at c
  rw [show a3v ts (a2p ts x w0) l = a2p ts x (w0 ++ [l]) by unfold a3v; rw [if_pos c, b2d], ea]
  exact b4i v (w0 ++ [l]) (by rw [<- ea]; exact nd)
theorem b7z {x : List Nat} {ws : TW} {L : Nat} (nd : x.Nodup) (T : Told (a3v ts) L x ws) (y : List Nat) : y ∈ ws.map (·.1) ↔ ∃ w, (∀ l ∈ w, l < L) /\ (a2p ts x w).Nodup /\ y = a2p ts x w := by
 constructor
 ·intro h
  obtain ⟨p, hp, rfl⟩ := a0M.mp h
  obtain ⟨r1, r2⟩ := T.run p hp
  obtain ⟨w, h1, h2, h3⟩ := a9s (ts := ts) (x := x) p.2 [] r1 (fun _ h => nomatch h) (by rw [b5w]; exact nd)
  rw [b5w, r2] at h3
  exact ⟨w, h1, h2, h3⟩
 ·rintro ⟨w, h1, h2, rfl⟩
  have e := b4i (ts := ts) (x := x) w [] h2
  rw [b5w] at e
  obtain ⟨u, h3, _⟩ := T.least _ w rfl h1
  rw [e] at h3
  exact a0M.mpr ⟨_, h3, rfl⟩
theorem c4g {x w : List Nat} {r : Nat} (h : r ∈ x) : (a2p ts x w)[x.idxOf r]? = some (a3d ts r w) := by
 unfold a2p
 rw [a0E, a0A (List.idxOf_lt_length_iff.mpr h), List.getElem_idxOf]
 rfl
end
def c7x : Sp := fun vs H Q _ => ∃ (m a : Addr) (ts : List (List Nat)) (n : Nat) (fam c us wds : List (List Nat)), vs = [.ref m, .ref a] /\ Mach H m ts n /\ FamOf ts n fam /\ LvH H a c us wds /\ LvP ts fam c us wds /\
 ∀ l bs R H', Same H H' -> H' l = some (.lst (bs.map .ref)) -> TupsAt H' bs R -> R.length <= 4000 -> (∀ y, y ∈ R ↔ ∃ w, Kps ts (c.headD []) w /\ y = a2p ts (c.headD []) w) -> Q (.ref l) H'
def b8a : Sp := fun vs H Q _ => ∃ (m a o : Addr) (ts : List (List Nat)) (n : Nat) (fam c us wds : List (List Nat)) (w : List Nat), vs = [.ref a, .ref o] /\ Mach H m ts n /\ FamOf ts n fam /\ LvH H a c us wds /\ LvP ts fam c us wds /\ Kps ts (c.headD []) w /\ H o = some (.tup ((a2p ts (c.headD []) w).map nv)) /\
 ∀ p H', Same H H' -> H' p = some (.tup ((tw ts us w).map nv)) -> Q (.ref p) H'
section
variable {P : Program} {w : World} {K : W.Frag} {mg : Str -> Option Value} {base : Heap} {f : Addr} {fd : FuncData}
theorem d0e (F : Fun K "_law_led" "_law_led" a5k f fd) (m_len : mg "len" = none) (m_tuple : mg "tuple" = none) (m_set : mg "set" = none) (m_sorted : mg "sorted" = none) : FnOk P w K mg base CX0 3 f fd ["_law_machine_here", "_law_level"] c7x := by
 refine F.ok scLawLed (fun vs H Q E h => ?_) (fun cdv A outer s H vs Q E hr h => ?_)
 ·obtain ⟨m, a, ts, n, fam, c, us, wds, rfl, _⟩ := h
  rfl
 obtain ⟨m, a, ts, n, fam, c, us, wds, rfl, M, ff, lv, lp, q⟩ := h
 have hu := hr.units
 have hu1 := a8r hr
 refine ⟨_, (a0f (a0r (i := 2) scLawLed.nd rfl (Or.inr rfl) (a1x a2e (a1x a2k (pv 1) a0q (fun _ _ => rfl)) a0q (fun _ _ => rfl))) (a0f (a0r (i := 3) scLawLed.nd rfl (Or.inl rfl) (a3y (a0g (pv 2) a0j))) (a0f (a0r (i := 4) scLawLed.nd rfl (Or.inl rfl) (b6r hu1 (pv 2) b8c)) (a0f (a0r (i := 5) scLawLed.nd rfl (Or.inl rfl) a0q) (a0f (b0v a2E (a1s c0a (pv 5) (a0v a0t rfl m_len a6B (a0g (pv 3) a0j)) (a2q _)) (a0f (a3w a2E rfl (b0b (pv 0)) (a1y (i := 6) scLawLed.nd rfl (Or.inr rfl)) (a0f (a0r (i := 7) scLawLed.nd rfl (Or.inl rfl) (a1a a1d rfl m_tuple a6O (a0g (a1m (CompSc.to (N := ["_law_machine_here", "_law_level", "_law_face", "_law_found", "_law_known", "_law_at", "_law_turn_here", "_law_there"]) (osc := a0b a5k) (vs := ["_law_room"]) {}) rfl rfl (b0b (a1x a2e (pv 3) (pv 5) (fun _ _ => rfl))) (fun _ _ _ _ => a2t) (fun _ _ _ _ => (a1x (IxR.k (K := K) rIxT a2k rfl) (pv 7) (pv 0) (fun _ _ => rfl)))) a0j))) (a0i (a6m (PW.pt (b2j (b2i (b2t hu1 (pv 7) (pv 4))) (a8p (a1s c8h (a0v c2t rfl m_len a6B (a0g (a1a (c2s rfl) rfl m_set PyProof.Rows.boot_set (a0g (pv 7) a0j)) a0j)) (a0v a0t rfl m_len a6B (a0g (pv 2) a0j)) (a2q _))))) (a0f (a8t hu1 (pv 4) (pv 7) b8c rfl) (a0i (a4k (a9t a2F a3E a3F a3l (pv 3) (a0g (pv 7) a0j))))) a3c)))) (a0i (a0r (i := 5) scLawLed.nd rfl (Or.inl rfl) (a4l b6e (pv 5) a0q))))) (a0i (a1b (a1m (CompSc.to (N := ["_law_machine_here", "_law_level", "_law_face", "_law_found", "_law_known", "_law_at", "_law_turn_here", "_law_there"]) (osc := a0b a5k) (vs := ["_law_one"]) {}) rfl rfl (a1v (pv 3)) (fun _ _ _ _ => a7h (a1s (OpR.k (K := K) (fun K => c8r K false) (c7d hu) rfl) (a1a (CallR.k (K := K) d1h a1d rfl) rfl m_tuple a6O (a0g (a0v (CallR.k (K := K) c7p (b8w rfl) rfl) rfl m_sorted a8W (a0g (pv 0) a0j)) a0j)) (pv 3) (a2q _))) (fun _ _ _ _ => (pv 0)))))))))), ?_⟩
 obtain ⟨s', t', v', bs, ds, cs, h1, h2, h3, h4, h5, h6, h7, h8⟩ := id lv
 obtain ⟨rs, hm, hrl, hrs⟩ := M.refs
 have hU := b4g M ff lp
 have c0 : c[0]? = some (c.headD []) := by
  cases c with
  | nil => exact absurd rfl (a0o lp.cls).1
  | cons x c => rfl
 obtain ⟨b0, eb0⟩ : ∃ b0, bs[0]? = some b0 := ⟨_, a0A (by rw [h3.len]; exact (a0B.mp c0).1)⟩
 have hb0 := h3.is 0 b0 _ eb0 c0
 have hat0 : atI (bs.map V.ref) ((0 : Nat) : Int) = some (.ref b0) := a2r (by rw [a0E, eb0]; rfl)
 generalize hx : c.headD [] = x at hb0 hU c0
 refine ⟨_, rfl, a, _, _, _, rfl, rfl, SqT.of h1, rfl, s', _, _, _, rfl, rfl, SqL.of h2, hat0, ?_⟩
 refine ⟨_, rfl, by show 1 <= sizeLine; decide, fun S hS => ?_⟩
 have k3 := a0c hS (.lst [.ref b0])
 have eS : upd H S (.lst [.ref b0]) S = some (.lst ([b0].map .ref)) := a0a
 have eb3 := k3 _ _ hb0
 generalize upd H S (.lst [.ref b0]) = H3 at k3 eS eb3 ⊢
 intro Dk hDk
 have k4 := a0c hDk (.dT [])
 refine ⟨_, rfl, a0a, b0, nk x, rfl, by rw [a5y]; exact k4 _ _ eb3, ?_⟩
 have nK : H Dk = none := k3.free hDk
 have K0 : KAt H (upd (upd H3 Dk (.dT [])) Dk (.dT [(nk x, .bl true)])) Dk S [b0] [(x, [])] := by
  have off : ∀ {b : Addr} {u : HO}, H3 b = some u -> upd (upd H3 Dk (.dT [])) Dk (.dT [(nk x, .bl true)]) b = some u := fun hb => by
   rw [a0d (a0h hb hDk), a0d (a0h hb hDk)]
   exact hb
  refine ⟨fun b u hb => off (k3 _ _ hb), nK, hS, a0a, off eS, rfl, fun i b u z1 z2 => ?_⟩
  cases i with
  | zero =>
   cases z1
   cases z2
   exact off eb3
  | succ i => cases z1
 generalize upd (upd H3 Dk (.dT [])) Dk (.dT [(nk x, .bl true)]) = H4 at K0 ⊢
 have n5 := M.n5
 have xn := a3b n5 hU
 have x2 := (mem_setsU.mp hU).2
 have inU : ∀ {ws : TW} {i j : Nat}, Que (a3v ts) ts.length x ws i j -> ∀ r ∈ ws, r.1 ∈ a5z n x.length := fun {ws i j} B r hr => by
  obtain ⟨r1, r2⟩ := B.run r hr
  rw [<- r2]
  refine a6g (mem_mapsU.mpr ⟨rfl, x2⟩) (fun y hy l hl => ?_) r.2 r1
  unfold a3v
  split
  ·obtain ⟨y1, y2⟩ := mem_mapsU.mp hy
   refine mem_mapsU.mpr ⟨by unfold beh; rw [List.length_map, y1], fun z hz => ?_⟩
   obtain ⟨r0, h0, rfl⟩ := a0M.mp hz
   exact a3s M [l] r0 (y2 r0 h0) fun z hz => by rw [a0F.mp hz]; exact hl
  ·exact hy
 have fewW : ∀ {ws : TW} {i j : Nat}, Que (a3v ts) ts.length x ws i j -> ws.length <= 4000 := fun {ws i j} B => by
  rw [<- a0D (f := (·.1)) (as := ws)]
  refine a1A (a6t B.keys (U := a5z n x.length) fun y hy => ?_) ?_
  ·obtain ⟨r, hr, rfl⟩ := a0M.mp hy
   exact inU B r hr
  ·rw [a9l]
   exact a1A (Nat.pow_le_pow_left n5 _) (a1A (Nat.pow_le_pow_right (by decide) (a1A xn n5)) (by decide))
 have kN : ∀ {ws : TW} {tt : List Addr} {H' : Hp}, KAt H H' Dk S tt ws -> H' b0 = some (.tup (x.map nv)) := fun ka => ka.g _ _ hb0
 let Wv : Nat -> L2.St -> Hp -> Prop := fun k σ H' => ∃ (i : Nat) (ws : TW) (tt : List Addr) (o6 o7 : Option V), Que (a3v ts) ts.length x ws i 0 /\ KAt H H' Dk S tt ws /\ k + i = 4001 /\ i <= ws.length /\ σ = [some (.ref m), some (.ref a), some (.ref b0), some (.ref S), some (.ref Dk), some (nv i), o6, o7]
 refine ⟨Wv, ⟨4001, 0, [(x, [])], [b0], none, none, Que.start, K0, rfl, a2U _, rfl⟩, fun k σ H5 P => ?_⟩
 obtain ⟨i, ws, tt, o6, o7, B, ka, hk, hi, rfl⟩ := P
 have lt := ka.tups.len
 rw [a0D] at lt
 refine ⟨_, rfl, _, rfl, S, _, rfl, .inl (SqL.of ka.lst), _, _, rfl, rfl, _, rfl, c4s (fun c => ?_) (fun c => ?_)⟩
 ·have c1 : i < ws.length := by
   have := a1X c
   rw [a0D, lt] at this
   lia
  refine ⟨fun σ' H' => ∃ m', m' < k /\ Wv m' σ' H', fun σ' H' h => h, ?_⟩
  obtain ⟨t, ht⟩ : ∃ t, ws[i]? = some t := ⟨_, a0A c1⟩
  let Pj : Nat -> L2.St -> Hp -> Prop := fun j σ H' => ∃ (ws : TW) (tt : List Addr) (o6 o7 : Option V), Que (a3v ts) ts.length x ws i j /\ ws[i]? = some t /\ KAt H H' Dk S tt ws /\ σ = [some (.ref m), some (.ref a), some (.ref b0), some (.ref S), some (.ref Dk), some (nv i), o6, o7]
  refine ⟨_, rfl, m, rfl, ⟨_, SqT.of (ka.g _ _ hm)⟩, c8d (xs := rs.map .ref) Pj ⟨ws, tt, o6, o7, B, ht, ka, rfl⟩ (fun j σ H' _ p => by obtain ⟨_, _, _, _, _, _, ka, _⟩ := p; exact SqT.of (ka.g _ _ hm)) (fun j v σ H7 hv p => ?_) (fun σ H7 p => ?_)⟩
  ·obtain ⟨ws, tt, o6, o7, B, ht, ka, rfl⟩ := p
   rw [a0E] at hv
   obtain ⟨rj, erj, rfl⟩ := a0O.mp hv
   have lj : j < ts.length := by rw [<- hrl]; exact (a0B.mp erj).1
   obtain ⟨tj, etj⟩ : ∃ tj, ts[j]? = some tj := ⟨_, a0A lj⟩
   have hrj := ka.g _ _ (hrs j rj tj erj etj)
   have li := (a0B.mp ht).1
   have lt := ka.tups.len
   rw [a0D] at lt
   obtain ⟨th, eth⟩ : ∃ th, tt[i]? = some th := ⟨_, a0A (by lia)⟩
   have hat : atI (tt.map V.ref) (i : Int) = some (.ref th) := a2r (by rw [a0E, eth]; rfl)
   have hth := ka.tups.is i th t.1 eth (by rw [a0E, ht]; rfl)
   obtain ⟨y1, y2⟩ := mem_mapsU.mp (inU B t (a0H ht))
   have etd : ts.getD j [] = tj := by rw [a0J, etj]; rfl
   have ltj : tj.length = n := (M.each tj (a0H etj)).1
   refine ⟨_, rfl, _, rfl, S, _, _, _, rfl, rfl, SqL.of ka.lst, hat, th, rfl, ⟨_, SqT.of hth⟩, a8v (f := fun v => match v with | .int i => nv (tj.getD i.toNat 0) | v => v) (by rw [a0D]; exact small (by lia)) (SqT.of hth) (fun v Q hv q => ?_) (fun p hp => ?_)⟩
   ·obtain ⟨r, hr, rfl⟩ := a0M.mp hv
    exact ⟨_, rfl, _, rfl, rj, _, _, _, rfl, rfl, SqT.of hrj, c0x (by rw [ltj]; exact y2 r hr), q⟩
   have e : (t.1.map nv).map (fun v => match v with | .int i => nv (tj.getD i.toNat 0) | v => v) = (beh t.1 tj).map nv := by
    unfold beh
    rw [a1T, a1T]
    rfl
   rw [e]
   refine ⟨p, _, rfl, .inl ⟨SqL.of a0a, fun th2 hth2 => ?_⟩⟩
   have ka8 := ka.same ((a0c hp (.lst ((beh t.1 tj).map nv))).trans (a0c hth2 (.tup ((beh t.1 tj).map nv))))
   have e8 : upd (upd H7 p (.lst ((beh t.1 tj).map nv))) th2 (.tup ((beh t.1 tj).map nv)) th2 = some (.tup ((beh t.1 tj).map nv)) := a0a
   generalize upd (upd H7 p (.lst ((beh t.1 tj).map nv))) th2 (.tup ((beh t.1 tj).map nv)) = H8 at ka8 e8 ⊢
   have mt : t.1 ∈ ws.map (·.1) := a0M.mpr ⟨t, a0H ht, rfl⟩
   have b5 : ∀ r ∈ beh t.1 tj, r < 5 := fun r hr => by
    obtain ⟨r0, h0, rfl⟩ := a0M.mp hr
    have z := a3s M [j] r0 (y2 r0 h0) fun z hz => by rw [a0F.mp hz]; exact lj
    have z : (ts.getD j []).getD r0 0 < n := z
    rw [etd] at z
    lia
   refine ⟨_, rfl, _, rfl, Dk, _, rfl, DGet.t ka8.known (by rw [a5y]; exact e8), _, rfl, ?_⟩
   by_cases hin : beh t.1 tj ∈ ws.map (·.1)
   ·rw [c4b hin]
    refine a9u (a9u ⟨ws, tt, _, _, B.old ht ?_, ht, ka8, rfl⟩)
    unfold a3v
    rw [etd]
    split
    ·exact hin
    ·exact mt
   ·rw [c4a hin]
    refine b2e ?_
    refine ⟨_, rfl, th2, beh t.1 tj, rfl, SqT.of e8, b5, fun sa hsa => ⟨sa, _, rfl, a0a, ?_⟩⟩
    generalize c8x _ sa (a4y 0 (beh t.1 tj)) = so
    have ka9 := ka8.same (a0c hsa so)
    have e9 := (a0c hsa so) _ _ e8
    generalize upd H8 sa so = H9 at ka9 e9 ⊢
    refine ⟨_, rfl, b0, _, rfl, .inr (SqT.of (kN ka9)), rfl, _, rfl, ?_⟩
    have ec : decide (V.int (((a0u (a4y 0 (beh t.1 tj))).length : Nat) : Int) = V.int (((x.map nv).length : Nat) : Int)) = decide (beh t.1 tj).Nodup := by
     have lb : (beh t.1 tj).length = x.length := by unfold beh; rw [List.length_map, y1]
     rw [a2W, a4N, a4N, a9d, a0D, <- d0d b5, lb]
     exact ⟨fun z => by injection z with z; lia, fun z => by rw [z]⟩
    rw [ec]
    by_cases nd : (beh t.1 tj).Nodup
    ·have es : a3v ts t.1 j = beh t.1 tj := by unfold a3v; rw [etd, if_pos nd]
     rw [a0Y nd]
     refine b2e ?_
     have f4 := fewW B
     refine ⟨_, rfl, _, rfl, Dk, _, rfl, DPut.t ka9.known (by rw [a5y]; exact e9) (by unfold kvB; rw [List.length_map, List.length_map, sizeLine_eq]; lia), ?_⟩
     rw [c4c, if_neg hin]
     have sS : (upd H9 Dk (.dT (kvB (ws.map (·.1) ++ [beh t.1 tj])))) S = some (.lst (tt.map .ref)) := by
      rw [a0d (a1n ka9.lst ka9.known fun e => nomatch e)]
      exact ka9.lst
     refine ⟨_, rfl, .inl ⟨rfl, _, SqL.of sS⟩, _, rfl, S, _, _, rfl, rfl, sS, by rw [a0D, lt, a1B]; lia, ?_⟩
     have Bn := B.new ht lj (by rw [es]; exact hin)
     rw [es] at Bn
     exact ⟨ws ++ [(beh t.1 tj, t.2 ++ [j])], tt ++ [th2], _, _, Bn, by rw [a0P li]; exact ht, ka9.more e9, rfl⟩
    ·rw [a1I nd]
     refine a9u ⟨ws, tt, _, _, B.old ht ?_, ht, ka9, rfl⟩
     unfold a3v
     rw [etd, if_neg nd]
     exact mt
  ·obtain ⟨ws, tt, o6, o7, B, ht, ka, rfl⟩ := p
   have li := (a0B.mp ht).1
   have f4 := fewW B
   rw [a0D, hrl] at B
   exact ⟨_, rfl, _, _, rfl, rfl, k - 1, by lia, i + 1, ws, tt, o6, o7, Que.next B ht, ka, by lia, by lia, rfl⟩
 ·have c1 : ¬ i < ws.length := fun z => c (by rw [a0D, lt]; exact a0Y (by lia))
  have T := B.told (by lia)
  have f4 := fewW B
  have nx := a2y hU
  let Ps : List Nat -> Bool := fun y => decide (a1o y = x)
  refine ⟨_, rfl, S, rfl, ⟨_, SqL.of ka.lst⟩, a2f (xs := tt.map .ref) (fun i ys H' => Same H5 H' /\ ∃ es : List Addr, ys = es.map V.ref /\ es.length <= i /\ TupsAt H' es (((ws.map (·.1)).take i).filter Ps)) (by rw [a0D, a1B]; lia) ⟨Same.refl _, [], rfl, a0N _, rfl, fun i a u e => by simp at e⟩ (fun i ys H' _ p => ?_) (fun i v ys H' hv p => ?_) (fun ys H6 p un hun => ?_)⟩
  ·obtain ⟨g4, es, rfl, le, _⟩ := p
   exact ⟨SqL.of (g4 _ _ ka.lst), by rw [a0D]; exact le⟩
  ·obtain ⟨g4, es, rfl, le, Te⟩ := p
   rw [a0E] at hv
   obtain ⟨b, eb, rfl⟩ := a0O.mp hv
   have lb := (a0B.mp eb).1
   obtain ⟨y, ey⟩ : ∃ y, (ws.map (·.1))[i]? = some y := ⟨_, a0A (by rw [a0D]; lia)⟩
   have hb := g4 _ _ (ka.tups.is i b y eb ey)
   obtain ⟨wd, lw, nd, rfl⟩ := (b7z nx T y).mp (a0H ey)
   have ly : (a2p ts x wd).length <= 5 := by unfold a2p; rw [List.length_map]; lia
   have hbI : SqT K H' b ((zN (a2p ts x wd)).map V.int) := by
    unfold zN
    rw [a1T]
    exact SqT.of hb
   refine ⟨a1w, ?_⟩
   refine ⟨_, rfl, b, zN (a2p ts x wd), rfl, hbI, by unfold zN; rw [List.length_map]; lia, fun D js hD jp jw => ?_⟩
   have ejs := b7y M hU lw nd jp jw
   have eV : js.map V.int = (a0z (a0k ts) x wd).map nv := by
    rw [ejs]
    unfold zN
    rw [a1T]
    rfl
   rw [eV]
   refine ⟨D, _, rfl, .inl ⟨SqL.of a0a, fun tp htp => ?_⟩⟩
   have g5 := (a0c hD (.lst ((a0z (a0k ts) x wd).map nv))).trans (a0c htp (.tup ((a0z (a0k ts) x wd).map nv)))
   have e5 : upd (upd H' D (.lst ((a0z (a0k ts) x wd).map nv))) tp (.tup ((a0z (a0k ts) x wd).map nv)) tp = some (.tup ((a0z (a0k ts) x wd).map nv)) := a0a
   generalize upd (upd H' D (.lst ((a0z (a0k ts) x wd).map nv))) tp (.tup ((a0z (a0k ts) x wd).map nv)) = H7 at g5 e5 ⊢
   refine ⟨_, rfl, tp, b0, 0, _, _, rfl, rfl, a4x (SqT.of e5), a4x (SqT.of ((g4.trans g5) _ _ (kN ka))), by decide, fun cc hc => ⟨_, rfl, ?_⟩⟩
   have eN : a1o (a2p ts x wd) = a0z (a0k ts) x wd := (a3t M wd x hU lw).symm
   have hc' : cc = Ps (a2p ts x wd) := by
    show cc = decide (a1o (a2p ts x wd) = x)
    rw [a2W, a4N, eN, <- c8u]
    refine hc.trans ⟨fun z => ?_, fun z => ?_⟩
    ·injection z with z
     rw [z]
    ·injection z with z
     rw [z]
   subst hc'
   have tk := a5n (f := Ps) (Te.same g5) ey (g5 _ _ hb)
   refine c4s (fun c => ?_) (fun c => ?_)
   ·have c : Ps (a2p ts x wd) = true := c
    rw [if_pos c] at tk
    exact ⟨_, rfl, g4.trans g5, es ++ [b], by rw [a1M]; rfl, by rw [a0Z, a5C]; lia, tk⟩
   ·have c : ¬ Ps (a2p ts x wd) = true := c
    rw [if_neg c] at tk
    exact ⟨g4.trans g5, es, rfl, by lia, tk⟩
  ·obtain ⟨g4, es, rfl, le, Te⟩ := p
   rw [a0D, lt, <- a0D (f := (·.1)) (as := ws), a2B] at Te
   have gu := a0c hun (.lst (es.map V.ref))
   refine q un es _ _ ((ka.g.trans g4).trans gu) a0a (Te.same gu) ?_ fun y => ?_
   ·refine a1A (a1R _ _) ?_
    rw [a0D]
    exact f4
   ·rw [hx, a1F, b7z nx T]
    constructor
    ·rintro ⟨⟨wd, lw, nd, rfl⟩, e⟩
     have e : decide (a1o (a2p ts x wd) = x) = true := e
     exact ⟨wd, ⟨lw, by rw [a3t M wd x hU lw]; exact a1X e⟩, rfl⟩
    ·rintro ⟨wd, k, rfl⟩
     refine ⟨⟨wd, k.1, d2z M hU k, rfl⟩, ?_⟩
     show decide (a1o (a2p ts x wd) = x) = true
     refine a0Y ?_
     have z := a3t M wd x hU k.1
     rw [k.2] at z
     exact z.symm
theorem b9s (F : Fun K "_law_turn_of" "_law_turn_of" a2x f fd) (m_tuple : mg "tuple" = none) (m_sorted : mg "sorted" = none) : FnOk P w K mg base CX0 3 f fd ["_law_level", "_law_one"] b8a := by
 refine F.ok scLawTurnOf (fun vs H Q E h => ?_) (fun cdv A outer s H vs Q E hr h => ?_)
 ·obtain ⟨m, a, o, ts, n, fam, c, us, wds, w, rfl, _⟩ := h
  rfl
 obtain ⟨m, a, o, ts, n, fam, c, us, wds, w, rfl, M, ff, lv, lp, kw, eo, q⟩ := h
 have hu := hr.units
 have hu1 := a8r hr
 refine ⟨_, (a0f (a0r (i := 2) scLawTurnOf.nd rfl (Or.inr rfl) (a1x a2e (a1x a2k (pv 0) a0q (fun _ _ => rfl)) a0q (fun _ _ => rfl))) (a0f (a0r (i := 3) scLawTurnOf.nd rfl (Or.inl rfl) (a3y a0j)) (a0f (a3w a2E rfl (a1v (a1x a2k (pv 0) a0q (fun _ _ => rfl))) (a1y (i := 4) scLawTurnOf.nd rfl (Or.inl rfl)) (a0f (a0r (i := 5) scLawTurnOf.nd rfl (Or.inl rfl) (a1a a1d rfl m_tuple a6O (a0g (a0v (b5k rfl) rfl m_sorted a8W (a0g (a1m (CompSc.to (N := ["_law_level", "_law_one", "_law_face", "_law_found", "_law_rooms", "_law_there"]) (osc := a0b a2x) (vs := ["_law_room"]) {}) rfl rfl (b0b (pv 4)) (fun _ _ _ _ => a2t) (fun _ _ _ _ => (a1x (IxR.k (K := K) rIxT a2k rfl) (pv 2) (c6a (K := K) c2v rfl (d2l PySem.F.slot_tuple_index PySem.F.type_tuple_index c2w (pv 3) (a0g (pv 0) a0j))) (fun _ _ => rfl)))) a0j)) a0j))) (a0f (a6m (a1s (b3i hu) (pv 5) (a1x a2k (pv 0) a0q (fun _ _ => rfl)) (by with_unfolding_all rfl)) (a0i (a1b b2h)) a3c) (a0i (a4k (a9t a2F a3E a3F a3l (pv 3) (a0g (a9t a2F a7H a7I (a9f hu) (a1x a2k (pv 0) a0q (fun _ _ => rfl)) (a0g (pv 5) a0j)) a0j))))))) (a0i (a1b (a1a a1d rfl m_tuple a6O (a0g (pv 3) a0j))))))), ?_⟩
 obtain ⟨s', t', v', bs, ds, cs, h1, h2, h3, h4, h5, h6, h7, h8⟩ := id lv
 have hU := b4g M ff lp
 have c0 : c[0]? = some (c.headD []) := by
  cases c with
  | nil => exact absurd rfl (a0o lp.cls).1
  | cons x c => rfl
 obtain ⟨b0, eb0⟩ : ∃ b0, bs[0]? = some b0 := ⟨_, a0A (by rw [h3.len]; exact (a0B.mp c0).1)⟩
 have hb0 := h3.is 0 b0 _ eb0 c0
 have hat0 : atI (bs.map V.ref) ((0 : Nat) : Int) = some (.ref b0) := a2r (by rw [a0E, eb0]; rfl)
 obtain ⟨uU, few⟩ := lp.inU M ff
 have tf := a2o M ff (c.headD [])
 rw [<- lp.tl] at tf
 have tile := fun {u : List Nat} (hu : u ∈ us) => b7x M ff lp kw hu
 have und := a5x M ff lp
 have l5 := h5.len
 have n5 := M.n5
 have inj := c4f M hU kw
 generalize hx : c.headD [] = x at hb0 hU c0 tf inj kw eo
 refine ⟨_, rfl, a, _, _, _, rfl, rfl, SqT.of h1, rfl, s', _, _, _, rfl, rfl, SqL.of h2, hat0, ?_⟩
 refine ⟨a2U _, fun L hL => ?_⟩
 have kL := a0c hL (.lst [])
 have ltw : (tw ts us w).length = us.length := by unfold tw; rw [List.length_map]
 let Pv : Nat -> L2.St -> Hp -> Prop := fun i σ H' => Same H H' /\ H' L = some (.lst (((tw ts us w).take i).map nv)) /\ ∃ o4 o5, σ = [some (.ref a), some (.ref o), some (.ref b0), some (.ref L), o4, o5]
 refine ⟨_, rfl, a, _, _, _, rfl, rfl, SqT.of (kL _ _ h1), rfl, t', rfl, ⟨_, SqL.of (kL _ _ h4)⟩, a3x (xs := ds.map .ref) Pv ⟨kL, a0a, none, none, rfl⟩ (fun i σ H' _ p => SqL.of (p.1 _ _ h4)) (fun i v σ H1 hv p => ?_) (fun σ H1 p => ?_)⟩
 ·obtain ⟨g1, eL, o4, o5, rfl⟩ := p
  rw [a0E] at hv
  obtain ⟨d, ed, rfl⟩ := a0O.mp hv
  have ld := (a0B.mp ed).1
  obtain ⟨u, eu⟩ : ∃ u, us[i]? = some u := ⟨_, a0A (by lia)⟩
  have hu := a0H eu
  have hd := g1 _ _ (h5.is i d u ed eu)
  have sb : ∀ r ∈ u, r ∈ x := sub_iff.mp (tf.mem u hu).2.2
  have u5 := a3b n5 (uU u hu)
  have ndr : (a2p ts u w).Nodup := c7w (a2y (uU u hu)) fun a ha b hb e => inj a (sb a ha) b (sb b hb) e
  refine ⟨_, rfl, d, rfl, ⟨_, SqT.of hd⟩, a8v (f := fun v => match v with | .int i => nv (a3d ts i.toNat w) | v => v) (by rw [a0D]; exact small (by lia)) (SqT.of hd) (fun v Q hv q => ?_) (fun p hp => ?_)⟩
  ·obtain ⟨r, hr, rfl⟩ := a0M.mp hv
   have hb1 : SqT K H1 b0 ((zN x).map V.int) := by
    unfold zN
    rw [a1T]
    exact SqT.of (g1 _ _ hb0)
   have at1 : atI ((a2p ts x w).map nv) (((zN x).idxOf ((r : Nat) : Int) : Nat) : Int) = some (nv (a3d ts r w)) := a2r (by rw [c7v, a0E, c4g (sb r hr)]; rfl)
   exact ⟨_, rfl, _, rfl, ⟨b0, _, rfl, g1 _ _ hb0⟩, _, rfl, b0, zN x, _, rfl, rfl, hb1, zN_mem.mpr (sb r hr), o, _, _, _, rfl, rfl, SqT.of (g1 _ _ eo), at1, q⟩
  have e : (u.map nv).map (fun v => match v with | .int i => nv (a3d ts i.toNat w) | v => v) = (a2p ts u w).map nv := by
   unfold a2p
   rw [a1T, a1T]
   rfl
  rw [e]
  have hpI : SqL K (upd H1 p (.lst ((a2p ts u w).map nv))) p ((zN (a2p ts u w)).map V.int) := by
   unfold zN
   rw [a1T]
   exact SqL.of a0a
  refine ⟨p, zN (a2p ts u w), rfl, hpI, by unfold zN a2p; rw [List.length_map, List.length_map]; lia, fun D js hD jp jw => ?_⟩
  have eV : js.map V.int = (a0z (a0k ts) u w).map nv := by
   rw [b7y M (uU u hu) kw.1 ndr jp jw]
   unfold zN
   rw [a1T]
   rfl
  rw [eV]
  have kp := a0c hp (.lst ((a2p ts u w).map nv))
  have eL1 := kp _ _ eL
  generalize upd H1 p (.lst ((a2p ts u w).map nv)) = H2 at kp hD eL1 ⊢
  refine ⟨D, _, rfl, .inl ⟨SqL.of a0a, fun th hth => ?_⟩⟩
  have k3 := (a0c hD (.lst ((a0z (a0k ts) u w).map nv))).trans (a0c hth (.tup ((a0z (a0k ts) u w).map nv)))
  have e3 : upd (upd H2 D (.lst ((a0z (a0k ts) u w).map nv))) th (.tup ((a0z (a0k ts) u w).map nv)) th = some (.tup ((a0z (a0k ts) u w).map nv)) := a0a
  have eL3 := k3 _ _ eL1
  generalize upd (upd H2 D (.lst ((a0z (a0k ts) u w).map nv))) th (.tup ((a0z (a0k ts) u w).map nv)) = H3 at k3 e3 eL3 ⊢
  have g3 := (g1.trans kp).trans k3
  have my := tile hu
  obtain ⟨lx, ex⟩ := b4e my
  have no : ∀ j : Nat, j < ixl us (a0z (a0k ts) u w) -> us[j]? ≠ some (a0z (a0k ts) u w) := fun j hj e => by
   have := (a2P lx und).mp (ex.trans e.symm)
   lia
  refine ⟨_, rfl, _, rfl, a, _, _, _, rfl, rfl, SqT.of (g3 _ _ h1), rfl, t', 1, .tup (dtN (a0z (a0k ts) u w)), us.map fun u => Dt.tup (dtN u), _, rfl, SqL.of (g3 _ _ h4), by rw [a0D, a0D, l5], a4x (SqT.of e3), a5o (h5.same g3), by decide, fun cc hc => ⟨_, rfl, ?_⟩⟩
  have hc' : cc = true := hc.mpr (in_dts.mpr my)
  subst hc'
  refine a9u ?_
  refine ⟨_, rfl, .inl ⟨rfl, _, SqL.of eL3⟩, _, rfl, a, _, _, _, rfl, rfl, SqT.of (g3 _ _ h1), rfl, .inl ⟨rfl, _, SqL.of (g3 _ _ h4)⟩, _, rfl, t', _, 1, .tup (dtN (a0z (a0k ts) u w)), us.map fun u => Dt.tup (dtN u), _, ixl us (a0z (a0k ts) u w), rfl, rfl, SqL.of (g3 _ _ h4), by rw [a0D, a0D, l5], a4x (SqT.of e3), a5o (h5.same g3), by decide, at_dts.mpr ex, fun i hi e => no i hi (at_dts.mp e), L, _, _, rfl, rfl, eL3, by rw [a0D, a1U, a1B]; lia, ?_⟩
  refine ⟨a1t g3 hL, ?_, _, _, rfl⟩
  rw [a0a, a2O, show (tw ts us w)[i]? = some (ixl us (a0z (a0k ts) u w)) by unfold tw; rw [List.getElem?_map, eu]; rfl, List.map_append]
  rfl
 ·obtain ⟨g1, eL, o4, o5, rfl⟩ := p
  rw [a0D, l5, <- ltw, a2B] at eL
  exact ⟨_, rfl, L, _, rfl, .inl ⟨SqL.of eL, fun p hp => q p _ (g1.trans (a0c hp _)) a0a⟩⟩
theorem LevAt.lv0 {H : Hp} {l : Addr} {ts fam : List (List Nat)} {ys : List WE} {a : Addr} {c : List (List Nat)} (h : LevAt H l ts fam (big fam) ys a c) (hc : c ∈ classes ts (big fam)) : ∃ wds, LvH H a c (a1k fam (c.headD [])) wds /\ LvP ts fam c (a1k fam (c.headD [])) wds /\ wds[0]? = some [] := by
 obtain ⟨s, t, v, bs, ds, cs, i, y, h1, h2, h3, h4, h5, h6, h7, h8, h9, h10, h11, h12, h13, h14, h15, h16⟩ := h
 obtain ⟨wds, l1, l2⟩ := a6l (n := c.length) (P := fun k wd => ∃ x b, c[k]? = some x /\ cs[k]? = some b /\ (x, wd) ∈ y.2.1 /\ H b = some (.lst (wd.map nv))) fun k hk => by
  obtain ⟨x, ex⟩ : ∃ x, c[k]? = some x := ⟨_, a0A hk⟩
  obtain ⟨b, eb⟩ : ∃ b, cs[k]? = some b := ⟨_, a0A (by lia)⟩
  obtain ⟨wd, z1, z2⟩ := h16 k x b ex eb
  exact ⟨wd, x, b, ex, eb, z1, z2⟩
 have c0 : c[0]? = some (c.headD []) := by
  cases c with
  | nil => exact absurd rfl (a0o hc).1
  | cons x c => rfl
 have lc := (a0B.mp c0).1
 obtain ⟨wd, ew⟩ : ∃ wd, wds[0]? = some wd := ⟨_, a0A (by lia)⟩
 have e0 : wd = [] := by
  obtain ⟨x', b', z1, _, z3, _⟩ := l2 0 wd ew
  rw [c0] at z1
  cases z1
  obtain ⟨j, ej⟩ := a3Z z3
  have a1 : (y.2.1.map (·.1))[j]? = some (c.headD []) := by rw [a0E, ej]; rfl
  have a2 : (y.2.1.map (·.1))[0]? = some (c.headD []) := by rw [a0E, h14.head]; rfl
  have ej0 := (a2P (a0B.mp a1).1 h14.keys).mp (a1.trans a2.symm)
  rw [ej0, h14.head] at ej
  cases ej
  rfl
 refine ⟨wds, ⟨s, t, v, bs, ds, cs, h1, h6, h7, h8, h9, h10, by lia, fun k b wd e1 e2 => ?_⟩, ⟨hc, rfl, l1, fun k x wd e1 e2 => ?_⟩, by rw [ew, e0]⟩
 ·obtain ⟨x', b', _, z2, _, z4⟩ := l2 k wd e2
  rw [e1] at z2
  cases z2
  exact z4
 ·obtain ⟨x', b', z1, _, z3, _⟩ := l2 k wd e2
  rw [e1] at z1
  cases z1
  exact h14.run _ z3
theorem d3a {H : Hp} {m : Addr} {ts : List (List Nat)} {n : Nat} {fam c us wds : List (List Nat)} (M : Mach H m ts n) (ff : FamOf ts n fam) (lp : LvP ts fam c us wds) {u v : List Nat} (ku : Kps ts (c.headD []) u) (kv : Kps ts (c.headD []) v) (e : a2p ts (c.headD []) u = a2p ts (c.headD []) v) : tw ts us u = tw ts us v := by
 obtain ⟨uU, _⟩ := lp.inU M ff
 have tf := a2o M ff (c.headD [])
 rw [<- lp.tl] at tf
 have el : ∀ r ∈ c.headD [], a3d ts r u = a3d ts r v := fun r hr => by
  have a1 := c4g (ts := ts) (w := u) hr
  rw [e, c4g hr] at a1
  exact (a1S a1).symm
 unfold tw
 refine a2D fun y hy => ?_
 have sb := sub_iff.mp (tf.mem y hy).2.2
 rw [a5p (a1i M (uU y hy) ku.1) (a1i M (uU y hy) kv.1) fun r => by
  rw [a1h M (uU y hy) ku.1, a1h M (uU y hy) kv.1]
  exact ⟨fun ⟨r0, h1, h2⟩ => ⟨r0, h1, by rw [<- el r0 (sb r0 h1)]; exact h2⟩, fun ⟨r0, h1, h2⟩ => ⟨r0, h1, by rw [el r0 (sb r0 h1)]; exact h2⟩⟩]
def c6q (K : W.Frag) : Sp := fun vs H Q _ => ∃ (a : Addr) (ns : List Int), vs = [.ref a] /\ SqL K H a (ns.map V.int) /\ ns.length <= 63 /\ Tabs H /\ ∀ H', Q (.bl true) H'
theorem d3b {T : Addr} (F : Fun K "law" "law" c6b f fd) (c__law_machine : a0l P w K mg base "_law_machine" 3 ["_law_script"] (b3w K)) (c_levels : a0l P w K mg base "levels" 18 ["machine"] (b7q T (⟨46, 40, 46, 93⟩ : Pos))) (c__law_led : a0l P w K mg base "_law_led" 3 ["_law_machine_here", "_law_level"] c7x) (c__law_turn_of : a0l P w K mg base "_law_turn_of" 3 ["_law_level", "_law_one"] b8a) (c_level_group : a0l P w K mg base "level_group" 13 ["machine", "level"] c3z) (m_list : mg "list" = none) (m_sorted : mg "sorted" = none) : FnOk P w K mg base CX0 20 f fd ["_law_script"] (c6q K) := by
 refine F.ok scLaw (fun vs H Q E h => ?_) (fun cdv A outer s H vs Q E hr h => ?_)
 ·obtain ⟨a, ns, rfl, _⟩ := h
  rfl
 obtain ⟨a, ns, rfl, hS, h63, hT, q⟩ := h
 have hu := hr.units
 have hu1 := a8r hr
 refine ⟨_, (a0f (a0r (i := 1) scLaw.nd rfl (Or.inl rfl) (a0m c__law_machine (hr.mono (by decide)) rfl (a0g (pv 0) a0j))) (a0f (a3w a2E rfl (a1v (a0m c_levels (hr.mono (by decide)) rfl (a0g (pv 1) a0j))) (a1y (i := 2) scLaw.nd rfl (Or.inl rfl)) (a0f (a0r (i := 3) scLaw.nd rfl (Or.inl rfl) b0y) (a0f (a3w a2E rfl (a1v (a0m c__law_led (hr.mono (by decide)) rfl (a2a (a0e (pv 1) (a0e (pv 2) a1c rfl) rfl)))) (a1y (i := 4) scLaw.nd rfl (Or.inl rfl)) (a0i (a8t hu1 (pv 3) (a0m c__law_turn_of (hr.mono (by decide)) rfl (a2a (a0e (pv 2) (a0e (pv 4) a1c rfl) rfl))) b8c rfl))) (a0i (a6m (PW.pt (pw_or (b2i (c9r hu1 b2h (pv 3))) (d0m (a1s (b2w hu) (a0v (b5i rfl) rfl m_sorted a8W (a0g (a1a (a9x rfl) rfl m_list boot_list (a0g (pv 3) a0j)) a0j)) (a0m c_level_group (hr.mono (by decide)) rfl (a2a (a0e (pv 1) (a0e (pv 2) a1c rfl) rfl))) (a2q _))))) (a0i (a1b b8c)) a3c))))) (a0i (a1b b8c)))), ?_⟩
 refine ⟨_, rfl, a, ns, rfl, hS, fun m ts n H1 g1 M => ?_⟩
 refine ⟨_, rfl, m, ts, n, rfl, M, hT.same g1, fun l as told fam ys H2 k2 T2 nl el ff od sub lim Lv nw ap nwl => ?_⟩
 have M2 := M.keeps k2
 have la := Lv.len
 let Pv : Nat -> L2.St -> Hp -> Prop := fun _ σ H' => Keeps H2 H' /\ Tabs H' /\ ∃ o2 o3 o4, σ = [some (.ref a), some (.ref m), o2, o3, o4]
 refine ⟨l, rfl, ⟨_, SqL.of el⟩, a3x (xs := as.map .ref) Pv ⟨Keeps.refl _, T2, none, none, none, rfl⟩ (fun i σ H' _ p => SqL.of (p.1 _ _ (a0y el fun _ e => nomatch e))) (fun i v σ H3 hv p => ?_) (fun σ H3 p => q _)⟩
 obtain ⟨k3, T3, o2, o3, o4, rfl⟩ := p
 rw [a0E] at hv
 obtain ⟨lv, elv, rfl⟩ := a0O.mp hv
 have li := (a0B.mp elv).1
 obtain ⟨c, ec⟩ : ∃ c, told[i]? = some c := ⟨_, a0A (by lia)⟩
 obtain ⟨wds, lvh, lp, w0⟩ := (Lv.is i lv c elv ec).lv0 (sub c (a0H ec))
 have lv3 := LvH.keeps lvh k3
 have M3 := M2.keeps k3
 intro D hD
 have kD := a0c hD (.dT [])
 refine ⟨_, rfl, _, rfl, m, lv, ts, n, fam, c, _, wds, rfl, M3.same kD, ff, lv3.same kD, lp, fun rl bs R H4 g4 erl Tb few mem => ?_⟩
 have g34 := kD.trans g4
 have eD4 := g4 _ _ (show upd H3 D (.dT []) D = some (.dT (kvB [])) from a0a)
 have lb := Tb.len
 let Pj : Nat -> L2.St -> Hp -> Prop := fun j σ H' => Same H3 H' /\ H' rl = some (.lst (bs.map .ref)) /\ TupsAt H' bs R /\ ∃ (ks : List (List Nat)) (o4 : Option V), ks.Nodup /\ ks.length <= j /\ H' D = some (.dT (kvB ks)) /\ (∀ t ∈ ks, ∃ w, Kps ts (c.headD []) w /\ t = tw ts (a1k fam (c.headD [])) w) /\ (∀ (i : Nat) (w : List Nat), i < j -> R[i]? = some (a2p ts (c.headD []) w) -> Kps ts (c.headD []) w -> tw ts (a1k fam (c.headD [])) w ∈ ks) /\ σ = [some (.ref a), some (.ref m), some (.ref lv), some (.ref D), o4]
 refine ⟨rl, rfl, ⟨_, SqL.of erl⟩, a3x (xs := bs.map .ref) Pj ⟨g34, erl, Tb, [], _, a9J, a0N _, eD4, (fun _ h => nomatch h), (fun i w h => absurd h (a4K _)), rfl⟩ (fun j σ H' _ p => SqL.of p.2.1) (fun j v σ H5 hv p => ?_) (fun σ H5 p => ?_)⟩
 ·obtain ⟨g5, erl5, Tb5, ks, o4, nd, lk, eD5, s1, s2, rfl⟩ := p
  rw [a0E] at hv
  obtain ⟨b, eb, rfl⟩ := a0O.mp hv
  have lbj := (a0B.mp eb).1
  obtain ⟨y, ey⟩ : ∃ y, R[j]? = some y := ⟨_, a0A (by lia)⟩
  obtain ⟨wd, kw, rfl⟩ := (mem y).mp (a0H ey)
  have hb := Tb5.is j b _ eb ey
  refine ⟨_, rfl, _, rfl, _, rfl, m, lv, b, ts, n, fam, c, _, wds, wd, rfl, M3.same g5, ff, lv3.same g5, lp, kw, hb, fun p H6 g6 e6 => ?_⟩
  have eD6 := g6 _ _ eD5
  refine ⟨D, _, rfl, DPut.t (k := nk (tw ts (a1k fam (c.headD [])) wd)) eD6 (by rw [a5y]; exact e6) (by unfold kvB; rw [List.length_map, sizeLine_eq]; lia), ?_⟩
  rw [c4c]
  have off : ∀ {o : HO} {x : Addr} {u : HO}, H6 x = some u -> (∀ kvs, u ≠ .dT kvs) -> upd H6 D o x = some u := fun {o x u} h nu => by
   rw [a0d (fun z => by rw [z, eD6] at h; cases h; exact nu _ rfl)]
   exact h
  have Tb6 : ∀ o, TupsAt (upd H6 D o) bs R := fun o => ⟨Tb5.len, fun i b u e1 e2 => off (g6 _ _ (Tb5.is i b u e1 e2)) fun _ e => nomatch e⟩
  have all : ∀ ks' : List (List Nat), (∀ t ∈ ks, t ∈ ks') -> tw ts (a1k fam (c.headD [])) wd ∈ ks' -> ∀ (i : Nat) (w : List Nat), i < j + 1 -> R[i]? = some (a2p ts (c.headD []) w) -> Kps ts (c.headD []) w -> tw ts (a1k fam (c.headD [])) w ∈ ks' := fun ks' sb hin i w hi e k => by
   by_cases z : i = j
   ·subst z
    rw [ey] at e
    rw [d3a M ff lp k kw (a1S e).symm]
    exact hin
   ·exact sb _ (s2 i w (by lia) e k)
  by_cases hin : tw ts (a1k fam (c.headD [])) wd ∈ ks
  ·rw [if_pos hin]
   exact ⟨a1t (g5.trans g6) hD, off (g6 _ _ erl5) (fun _ e => nomatch e), Tb6 _, ks, _, nd, by lia, a0a, s1, all ks (fun _ h => h) hin, rfl⟩
  ·rw [if_neg hin]
   refine ⟨a1t (g5.trans g6) hD, off (g6 _ _ erl5) (fun _ e => nomatch e), Tb6 _, ks ++ [tw ts (a1k fam (c.headD [])) wd], _, a6L.mpr ⟨nd, by simp, fun x hx y hy e => hin (by rw [<- List.mem_singleton.mp hy, <- e]; exact hx)⟩, by rw [List.length_append, List.length_singleton]; lia, a0a, fun t ht => ?_, all _ (fun t h => List.mem_append.mpr (.inl h)) (List.mem_append.mpr (.inr (List.mem_singleton.mpr rfl))), rfl⟩
   rcases a0K.mp ht with z | z
   ·exact s1 t z
   ·exact ⟨wd, kw, a0F.mp z⟩
 ·obtain ⟨g5, erl5, Tb5, ks, o4, nd, lk, eD5, s1, s2, rfl⟩ := p
  rw [a0D] at lk s2
  have kmem : ∀ t, t ∈ ks ↔ ∃ w, Kps ts (c.headD []) w /\ t = tw ts (a1k fam (c.headD [])) w := fun t => ⟨s1 t, fun ⟨w, k, e⟩ => by
   obtain ⟨i, ei⟩ := a3Z ((mem _).mpr ⟨w, k, rfl⟩)
   rw [e]
   exact s2 i w (by rw [lb]; exact (a0B.mp ei).1) ei k⟩
  have some1 := b0s M ff lp
  refine ⟨_, rfl, D, _, rfl, rfl, .inl eD5, _, rfl, a9u ?_⟩
  refine ⟨_, rfl, D, _, ks, rfl, eD5, c6o ks, fun l1 as1 hl1 Ta => ?_⟩
  have k1 := a0c hl1 (.lst (as1.map V.ref))
  refine ⟨l1, as1, ks, rfl, SqL.of a0a, Ta.same k1, fun t ht e => ?_, nd, by lia, fun D2 bs2 us2 hD2 Tb2 pm2 up2 => ?_⟩
  ·obtain ⟨w, _, rfl⟩ := s1 t ht
   have z := a2C List.length e
   unfold tw at z
   rw [a0D, a9V] at z
   lia
  have kk := a0c hD2 (.lst (bs2.map V.ref))
  have g6 := g5.trans (k1.trans kk)
  have eD2 : upd (upd H5 l1 (.lst (as1.map V.ref))) D2 (.lst (bs2.map V.ref)) D2 = some (.lst (bs2.map V.ref)) := a0a
  have Tb6 := Tb2.same kk
  generalize upd (upd H5 l1 (.lst (as1.map V.ref))) D2 (.lst (bs2.map V.ref)) = H6 at kk g6 eD2 Tb6 ⊢
  refine ⟨_, rfl, _, rfl, m, lv, ts, n, fam, c, _, wds, rfl, M3.same g6, ff, lv3.same g6, lp, T3.same g6, fun fl fbs fgs mk ws H7 k7 T7 nf ef Tf fpm fup Mk TT => ?_⟩
  have eg : us2 = fgs := a4u a6d b6v up2 fup fun t => by
   rw [pm2.mem_iff, kmem, fpm.mem_iff]
   exact (c4d M ff lp w0 Mk TT t).symm
  subst eg
  refine ⟨D2, fl, 1, _, _, rfl, rfl, b7l (k7 _ _ (a0y eD2 fun _ e => nomatch e)) (a2n Tb6 k7), b7l ef Tf, by decide, fun cc hc => ⟨_, rfl, ?_⟩⟩
  have hc' : cc = true := hc.mpr rfl
  subst hc'
  exact a9u ⟨(k3.trans g6.keeps).trans k7, T7, _, _, _, rfl⟩
end
theorem ln1 {α : Type} {P : List α -> Prop} (h : ∀ a0, P [a0]) : ∀ us : List α, us.length = 1 -> P us
 | [a0], _ => h a0
theorem ln2 {α : Type} {P : List α -> Prop} (h : ∀ a0 a1, P [a0, a1]) : ∀ us : List α, us.length = 2 -> P us
 | [a0, a1], _ => h a0 a1
theorem ln3 {α : Type} {P : List α -> Prop} (h : ∀ a0 a1 a2, P [a0, a1, a2]) : ∀ us : List α, us.length = 3 -> P us
 | [a0, a1, a2], _ => h a0 a1 a2
theorem ln4 {α : Type} {P : List α -> Prop} (h : ∀ a0 a1 a2 a3, P [a0, a1, a2, a3]) : ∀ us : List α, us.length = 4 -> P us
 | [a0, a1, a2, a3], _ => h a0 a1 a2 a3
set_option maxHeartbeats 0 in
theorem d3c {l : W.OpenLaw} {w : World} {K : W.Frag} {h : Heap} {mg : Str -> Option Value} {fa f1 f2 f3 f4 f5 f6 f7 f8 f9 f10 f11 f12 f13 f14 f15 f16 f17 f18 f19 f20 f21 f22 f23 f24 f25 f26 f27 f28 f29 f30 f31 dD3 cL8 cL25 : Addr} (X : K.In h) (G : h.Ns mainGlobals mg) (hfa : mg "law" = some (.ref fa))
  {od1 an1 od2 an2 od3 an3 od4 an4 od5 an5 od6 an6 od7 an7 od8 an8 od9 an9 od10 an10 od11 an11 od12 an12 od13 an13 od14 an14 od15 an15 od16 an16 od17 an17 od18 an18 od19 an19 od20 an20 od21 an21 od22 an22 od23 an23 od24 an24 od25 an25 od26 an26 od27 an27 od28 an28 od29 an29 od30 an30 od31 an31 : Option Addr} {sl1 sl2 sl3 sl4 sl5 sl6 sl7 sl8 sl9 sl10 sl11 sl12 sl13 sl14 sl15 sl16 sl17 sl18 sl19 sl20 sl21 sl22 sl23 sl24 sl25 sl26 sl27 sl28 sl29 sl30 sl31 : Array (Option Value)} {oc1 kV1 dc1 pm1 cd1 ct1 oc2 kV2 dc2 pm2 cd2 ct2 oc3 kV3 dc3 pm3 cd3 ct3 oc4 kV4 dc4 pm4 cd4 ct4 oc5 kV5 dc5 pm5 cd5 ct5 oc6 kV6 dc6 pm6 cd6 ct6 oc7 kV7 dc7 pm7 cd7 ct7 oc8 kV8 dc8 pm8 ct8 oc9 kV9 dc9 pm9 cd9 ct9 oc10 kV10 dc10 pm10 cd10 ct10 oc11 kV11 dc11 pm11 cd11 ct11 oc12 kV12 dc12 pm12 cd12 ct12 oc13 kV13 dc13 pm13 cd13 ct13 oc14 kV14 dc14 pm14 cd14 ct14 oc15 kV15 dc15 pm15 cd15 ct15 oc16 kV16 dc16 pm16 cd16 ct16 oc17 kV17 dc17 pm17 cd17 ct17 oc18 kV18 dc18 pm18 cd18 ct18 oc19 kV19 dc19 pm19 cd19 ct19 oc20 kV20 dc20 pm20 cd20 ct20 oc21 kV21 dc21 pm21 cd21 ct21 oc22 kV22 dc22 pm22 cd22 ct22 oc23 kV23 dc23 pm23 cd23 ct23 oc24 kV24 dc24 pm24 cd24 ct24 oc25 kV25 dc25 pm25 ct25 oc26 kV26 dc26 pm26 cd26 ct26 oc27 kV27 dc27 pm27 cd27 ct27 oc28 kV28 dc28 pm28 cd28 ct28 oc29 kV29 dc29 pm29 cd29 ct29 oc30 kV30 dc30 pm30 cd30 ct30 oc31 kV31 dc31 pm31 cd31 ct31 : Value} {oD3 : Obj} {nD3 : Nat}
  (a1 : W.nsIn K mainGlobals "led" = some (some (.ref f1))) (l1 : K.lookup f1 = some ⟨oc1, od1, .func (W.fnOf "led" "led" (a0p d0f) (a0n d0f) (a0b d0f) .none kV1 dc1 pm1 an1 cd1 ct1), sl1⟩) (c1 : W.codeIn K cd1 "led" = true) (k1 : W.keepIn K (.ref f1) = true)
  (a2 : W.nsIn K mainGlobals "refuse_more" = some (some (.ref f2))) (l2 : K.lookup f2 = some ⟨oc2, od2, .func (W.fnOf "refuse_more" "refuse_more" (a0p a2u) (a0n a2u) (a0b a2u) .none kV2 dc2 pm2 an2 cd2 ct2), sl2⟩) (c2 : W.codeIn K cd2 "refuse_more" = true) (k2 : W.keepIn K (.ref f2) = true)
  (a3 : W.nsIn K mainGlobals "reached" = some (some (.ref f3))) (l3 : K.lookup f3 = some ⟨oc3, od3, .func (W.fnOf "reached" "reached" (a0p a3h) (a0n a3h) (a0b a3h) (.ref dD3) kV3 dc3 pm3 an3 cd3 ct3), sl3⟩) (c3 : W.codeIn K cd3 "reached" = true) (k3 : W.keepIn K (.ref f3) = true)
  (lD3 : K.lookup dD3 = some oD3) (qD3 : oD3.data = .seq ([.none] : List Value).toArray nD3)
  (a4 : W.nsIn K mainGlobals "place_of" = some (some (.ref f4))) (l4 : K.lookup f4 = some ⟨oc4, od4, .func (W.fnOf "place_of" "place_of" (a0p a5s) (a0n a5s) (a0b a5s) .none kV4 dc4 pm4 an4 cd4 ct4), sl4⟩) (c4 : W.codeIn K cd4 "place_of" = true) (k4 : W.keepIn K (.ref f4) = true)
  (a5 : W.nsIn K mainGlobals "in_order" = some (some (.ref f5))) (l5 : K.lookup f5 = some ⟨oc5, od5, .func (W.fnOf "in_order" "in_order" (a0p a5t) (a0n a5t) (a0b a5t) .none kV5 dc5 pm5 an5 cd5 ct5), sl5⟩) (c5 : W.codeIn K cd5 "in_order" = true) (k5 : W.keepIn K (.ref f5) = true)
  (a6 : W.nsIn K mainGlobals "lies_in" = some (some (.ref f6))) (l6 : K.lookup f6 = some ⟨oc6, od6, .func (W.fnOf "lies_in" "lies_in" (a0p a6i) (a0n a6i) (a0b a6i) .none kV6 dc6 pm6 an6 cd6 ct6), sl6⟩) (c6 : W.codeIn K cd6 "lies_in" = true) (k6 : W.keepIn K (.ref f6) = true)
  (a7 : W.nsIn K mainGlobals "carried" = some (some (.ref f7))) (l7 : K.lookup f7 = some ⟨oc7, od7, .func (W.fnOf "carried" "carried" (a0p a4q) (a0n a4q) (a0b a4q) .none kV7 dc7 pm7 an7 cd7 ct7), sl7⟩) (c7 : W.codeIn K cd7 "carried" = true) (k7 : W.keepIn K (.ref f7) = true)
  (a8 : W.nsIn K mainGlobals "sets_reached" = some (some (.ref f8))) (l8 : K.lookup f8 = some ⟨oc8, od8, .func (W.fnOf "sets_reached" "sets_reached" (a0p a1e) (a0n a1e) (a0b a1e) .none kV8 dc8 pm8 an8 (.ref cL8) ct8), sl8⟩) (c8 : W.codeIn K (.ref cL8) "sets_reached" = true) (k8 : W.keepIn K (.ref f8) = true)
  (hd8 : W.codeHdIn K cL8 94 = true)
  (a9 : W.nsIn K mainGlobals "still" = some (some (.ref f9))) (l9 : K.lookup f9 = some ⟨oc9, od9, .func (W.fnOf "still" "still" (a0p b0n) (a0n b0n) (a0b b0n) .none kV9 dc9 pm9 an9 cd9 ct9), sl9⟩) (c9 : W.codeIn K cd9 "still" = true) (k9 : W.keepIn K (.ref f9) = true)
  (a10 : W.nsIn K mainGlobals "behind" = some (some (.ref f10))) (l10 : K.lookup f10 = some ⟨oc10, od10, .func (W.fnOf "behind" "behind" (a0p a6j) (a0n a6j) (a0b a6j) .none kV10 dc10 pm10 an10 cd10 ct10), sl10⟩) (c10 : W.codeIn K cd10 "behind" = true) (k10 : W.keepIn K (.ref f10) = true)
  (a11 : W.nsIn K mainGlobals "pictures" = some (some (.ref f11))) (l11 : K.lookup f11 = some ⟨oc11, od11, .func (W.fnOf "pictures" "pictures" (a0p a4i) (a0n a4i) (a0b a4i) .none kV11 dc11 pm11 an11 cd11 ct11), sl11⟩) (c11 : W.codeIn K cd11 "pictures" = true) (k11 : W.keepIn K (.ref f11) = true)
  (a12 : W.nsIn K mainGlobals "family" = some (some (.ref f12))) (l12 : K.lookup f12 = some ⟨oc12, od12, .func (W.fnOf "family" "family" (a0p a4r) (a0n a4r) (a0b a4r) .none kV12 dc12 pm12 an12 cd12 ct12), sl12⟩) (c12 : W.codeIn K cd12 "family" = true) (k12 : W.keepIn K (.ref f12) = true)
  (a13 : W.nsIn K mainGlobals "is_covered" = some (some (.ref f13))) (l13 : K.lookup f13 = some ⟨oc13, od13, .func (W.fnOf "is_covered" "is_covered" (a0p a2v) (a0n a2v) (a0b a2v) .none kV13 dc13 pm13 an13 cd13 ct13), sl13⟩) (c13 : W.codeIn K cd13 "is_covered" = true) (k13 : W.keepIn K (.ref f13) = true)
  (a14 : W.nsIn K mainGlobals "tiles" = some (some (.ref f14))) (l14 : K.lookup f14 = some ⟨oc14, od14, .func (W.fnOf "tiles" "tiles" (a0p a7y) (a0n a7y) (a0b a7y) .none kV14 dc14 pm14 an14 cd14 ct14), sl14⟩) (c14 : W.codeIn K cd14 "tiles" = true) (k14 : W.keepIn K (.ref f14) = true)
  (a15 : W.nsIn K mainGlobals "words_between" = some (some (.ref f15))) (l15 : K.lookup f15 = some ⟨oc15, od15, .func (W.fnOf "words_between" "words_between" (a0p a2c) (a0n a2c) (a0b a2c) .none kV15 dc15 pm15 an15 cd15 ct15), sl15⟩) (c15 : W.codeIn K cd15 "words_between" = true) (k15 : W.keepIn K (.ref f15) = true)
  (a16 : W.nsIn K mainGlobals "alike_sets" = some (some (.ref f16))) (l16 : K.lookup f16 = some ⟨oc16, od16, .func (W.fnOf "alike_sets" "alike_sets" (a0p a2w) (a0n a2w) (a0b a2w) .none kV16 dc16 pm16 an16 cd16 ct16), sl16⟩) (c16 : W.codeIn K cd16 "alike_sets" = true) (k16 : W.keepIn K (.ref f16) = true)
  (a17 : W.nsIn K mainGlobals "sets_of_levels" = some (some (.ref f17))) (l17 : K.lookup f17 = some ⟨oc17, od17, .func (W.fnOf "sets_of_levels" "sets_of_levels" (a0p a2d) (a0n a2d) (a0b a2d) .none kV17 dc17 pm17 an17 cd17 ct17), sl17⟩) (c17 : W.codeIn K cd17 "sets_of_levels" = true) (k17 : W.keepIn K (.ref f17) = true)
  (a18 : W.nsIn K mainGlobals "is_led_to" = some (some (.ref f18))) (l18 : K.lookup f18 = some ⟨oc18, od18, .func (W.fnOf "is_led_to" "is_led_to" (a0p a4s) (a0n a4s) (a0b a4s) .none kV18 dc18 pm18 an18 cd18 ct18), sl18⟩) (c18 : W.codeIn K cd18 "is_led_to" = true) (k18 : W.keepIn K (.ref f18) = true)
  (a19 : W.nsIn K mainGlobals "levels_in_order" = some (some (.ref f19))) (l19 : K.lookup f19 = some ⟨oc19, od19, .func (W.fnOf "levels_in_order" "levels_in_order" (a0p a1f) (a0n a1f) (a0b a1f) .none kV19 dc19 pm19 an19 cd19 ct19), sl19⟩) (c19 : W.codeIn K cd19 "levels_in_order" = true) (k19 : W.keepIn K (.ref f19) = true)
  (a20 : W.nsIn K mainGlobals "levels" = some (some (.ref f20))) (l20 : K.lookup f20 = some ⟨oc20, od20, .func (W.fnOf "levels" "levels" (a0p a6k) (a0n a6k) (a0b a6k) .none kV20 dc20 pm20 an20 cd20 ct20), sl20⟩) (c20 : W.codeIn K cd20 "levels" = true) (k20 : W.keepIn K (.ref f20) = true)
  (a21 : W.nsIn K mainGlobals "tile" = some (some (.ref f21))) (l21 : K.lookup f21 = some ⟨oc21, od21, .func (W.fnOf "tile" "tile" (a0p b9d) (a0n b9d) (a0b b9d) .none kV21 dc21 pm21 an21 cd21 ct21), sl21⟩) (c21 : W.codeIn K cd21 "tile" = true) (k21 : W.keepIn K (.ref f21) = true)
  (a22 : W.nsIn K mainGlobals "tiles_of_set" = some (some (.ref f22))) (l22 : K.lookup f22 = some ⟨oc22, od22, .func (W.fnOf "tiles_of_set" "tiles_of_set" (a0p a2i) (a0n a2i) (a0b a2i) .none kV22 dc22 pm22 an22 cd22 ct22), sl22⟩) (c22 : W.codeIn K cd22 "tiles_of_set" = true) (k22 : W.keepIn K (.ref f22) = true)
  (a23 : W.nsIn K mainGlobals "tiles_turned" = some (some (.ref f23))) (l23 : K.lookup f23 = some ⟨oc23, od23, .func (W.fnOf "tiles_turned" "tiles_turned" (a0p a1z) (a0n a1z) (a0b a1z) .none kV23 dc23 pm23 an23 cd23 ct23), sl23⟩) (c23 : W.codeIn K cd23 "tiles_turned" = true) (k23 : W.keepIn K (.ref f23) = true)
  (a24 : W.nsIn K mainGlobals "all_tiles_turned" = some (some (.ref f24))) (l24 : K.lookup f24 = some ⟨oc24, od24, .func (W.fnOf "all_tiles_turned" "all_tiles_turned" (a0p a1p) (a0n a1p) (a0b a1p) .none kV24 dc24 pm24 an24 cd24 ct24), sl24⟩) (c24 : W.codeIn K cd24 "all_tiles_turned" = true) (k24 : W.keepIn K (.ref f24) = true)
  (a25 : W.nsIn K mainGlobals "level_group" = some (some (.ref f25))) (l25 : K.lookup f25 = some ⟨oc25, od25, .func (W.fnOf "level_group" "level_group" (a0p a1j) (a0n a1j) (a0b a1j) .none kV25 dc25 pm25 an25 (.ref cL25) ct25), sl25⟩) (c25 : W.codeIn K (.ref cL25) "level_group" = true) (k25 : W.keepIn K (.ref f25) = true)
  (hd25 : W.codeHdIn K cL25 193 = true)
  (a26 : W.nsIn K mainGlobals "_law_cell_at" = some (some (.ref f26))) (l26 : K.lookup f26 = some ⟨oc26, od26, .func (W.fnOf "_law_cell_at" "_law_cell_at" (a0p a3j) (a0n a3j) (a0b a3j) .none kV26 dc26 pm26 an26 cd26 ct26), sl26⟩) (c26 : W.codeIn K cd26 "_law_cell_at" = true) (k26 : W.keepIn K (.ref f26) = true)
  (a27 : W.nsIn K mainGlobals "_law_turn" = some (some (.ref f27))) (l27 : K.lookup f27 = some ⟨oc27, od27, .func (W.fnOf "_law_turn" "_law_turn" (a0p a5u) (a0n a5u) (a0b a5u) .none kV27 dc27 pm27 an27 cd27 ct27), sl27⟩) (c27 : W.codeIn K cd27 "_law_turn" = true) (k27 : W.keepIn K (.ref f27) = true)
  (a28 : W.nsIn K mainGlobals "_law_machine" = some (some (.ref f28))) (l28 : K.lookup f28 = some ⟨oc28, od28, .func (W.fnOf "_law_machine" "_law_machine" (a0p a2j) (a0n a2j) (a0b a2j) .none kV28 dc28 pm28 an28 cd28 ct28), sl28⟩) (c28 : W.codeIn K cd28 "_law_machine" = true) (k28 : W.keepIn K (.ref f28) = true)
  (a29 : W.nsIn K mainGlobals "_law_led" = some (some (.ref f29))) (l29 : K.lookup f29 = some ⟨oc29, od29, .func (W.fnOf "_law_led" "_law_led" (a0p a5k) (a0n a5k) (a0b a5k) .none kV29 dc29 pm29 an29 cd29 ct29), sl29⟩) (c29 : W.codeIn K cd29 "_law_led" = true) (k29 : W.keepIn K (.ref f29) = true)
  (a30 : W.nsIn K mainGlobals "_law_turn_of" = some (some (.ref f30))) (l30 : K.lookup f30 = some ⟨oc30, od30, .func (W.fnOf "_law_turn_of" "_law_turn_of" (a0p a2x) (a0n a2x) (a0b a2x) .none kV30 dc30 pm30 an30 cd30 ct30), sl30⟩) (c30 : W.codeIn K cd30 "_law_turn_of" = true) (k30 : W.keepIn K (.ref f30) = true)
  (a31 : W.nsIn K mainGlobals "law" = some (some (.ref f31))) (l31 : K.lookup f31 = some ⟨oc31, od31, .func (W.fnOf "law" "law" (a0p c6b) (a0n c6b) (a0b c6b) .none kV31 dc31 pm31 an31 cd31 ct31), sl31⟩) (c31 : W.codeIn K cd31 "law" = true) (k31 : W.keepIn K (.ref f31) = true)
  (z_len : W.nsIn K mainGlobals "len" = some none) (z_range : W.nsIn K mainGlobals "range" = some none) (z_tuple : W.nsIn K mainGlobals "tuple" = some none) (z_list : W.nsIn K mainGlobals "list" = some none) (z_sorted : W.nsIn K mainGlobals "sorted" = some none) (z_set : W.nsIn K mainGlobals "set" = some none) (z_all : W.nsIn K mainGlobals "all" = some none) (z_any : W.nsIn K mainGlobals "any" = some none) :
  ∃ fd : FuncData, (∀ (s : Shared) (v : Value), BindsTo s fd ⟨[v], []⟩ [("_law_script", v)]) /\ ∀ base : Heap, K.In base -> base.Ns mainGlobals mg -> b1c mg base -> FnOk l.prog w K mg base CX0 20 fa fd ["_law_script"] (c6q K) := by
 have e := hfa.symm.trans (a3X X G a31)
 cases e
 have F1 := a1l (st := d0f) l1 c1 k1
 have F2 := a1l (st := a2u) l2 c2 k2
 have F3 : DefAt K "reached" a3h f3 (W.fnOf "reached" "reached" (a0p a3h) (a0n a3h) (a0b a3h) (.ref dD3) kV3 dc3 pm3 an3 cd3 ct3) (.ref dD3) cd3 := ⟨c3, ⟨_, _, _, _, _, rfl⟩, _, _, _, l3⟩
 have F4 := a1l (st := a5s) l4 c4 k4
 have F5 := a1l (st := a5t) l5 c5 k5
 have F6 := a1l (st := a6i) l6 c6 k6
 have F7 := a1l (st := a4q) l7 c7 k7
 have F8 : DefAt K "sets_reached" a1e f8 (W.fnOf "sets_reached" "sets_reached" (a0p a1e) (a0n a1e) (a0b a1e) .none kV8 dc8 pm8 an8 (.ref cL8) ct8) .none (.ref cL8) := ⟨c8, ⟨_, _, _, _, _, rfl⟩, _, _, _, l8⟩
 have F9 := a1l (st := b0n) l9 c9 k9
 have F10 := a1l (st := a6j) l10 c10 k10
 have F11 := a1l (st := a4i) l11 c11 k11
 have F12 := a1l (st := a4r) l12 c12 k12
 have F13 := a1l (st := a2v) l13 c13 k13
 have F14 := a1l (st := a7y) l14 c14 k14
 have F15 := a1l (st := a2c) l15 c15 k15
 have F16 := a1l (st := a2w) l16 c16 k16
 have F17 := a1l (st := a2d) l17 c17 k17
 have F18 := a1l (st := a4s) l18 c18 k18
 have F19 := a1l (st := a1f) l19 c19 k19
 have F20 := a1l (st := a6k) l20 c20 k20
 have F21 := a1l (st := b9d) l21 c21 k21
 have F22 := a1l (st := a2i) l22 c22 k22
 have F23 := a1l (st := a1z) l23 c23 k23
 have F24 := a1l (st := a1p) l24 c24 k24
 have F25 : DefAt K "level_group" a1j f25 (W.fnOf "level_group" "level_group" (a0p a1j) (a0n a1j) (a0b a1j) .none kV25 dc25 pm25 an25 (.ref cL25) ct25) .none (.ref cL25) := ⟨c25, ⟨_, _, _, _, _, rfl⟩, _, _, _, l25⟩
 have F26 := a1l (st := a3j) l26 c26 k26
 have F27 := a1l (st := a5u) l27 c27 k27
 have F28 := a1l (st := a2j) l28 c28 k28
 have F29 := a1l (st := a5k) l29 c29 k29
 have F30 := a1l (st := a2x) l30 c30 k30
 have F31 := a1l (st := c6b) l31 c31 k31
 have m_len := a6I X G z_len
 have m_range := a6I X G z_range
 have m_tuple := a6I X G z_tuple
 have m_list := a6I X G z_list
 have m_sorted := a6I X G z_sorted
 have m_set := a6I X G z_set
 have m_all := a6I X G z_all
 have m_any := a6I X G z_any
 refine ⟨W.fnOf "law" "law" (a0p c6b) (a0n c6b) (a0b c6b) .none kV31 dc31 pm31 an31 cd31 ct31, fun s v => .of_eq rfl, fun base KB _ hbm => ?_⟩
 have hC_sets_reached := W.codeHd_of_K KB hd8
 have hC_level_group := W.codeHd_of_K KB hd25
 have c__law_cell_at : a0l l.prog w K mg base "_law_cell_at" _ _ _ := ⟨_, _, b9e (P := l.prog) (w := w) (base := base) F26 m_len, a3X X G a26, k26, F26.binds (ps := ["_law_script", "_law_k"]) fun _ _ _ _ _ _ => ln2 (fun _ _ => rfl)⟩
 have c__law_turn : a0l l.prog w K mg base "_law_turn" _ _ _ := ⟨_, _, c9v (P := l.prog) (w := w) (base := base) F27 m_range m_tuple m_list, a3X X G a27, k27, F27.binds (ps := ["_law_cell", "_law_rooms"]) fun _ _ _ _ _ _ => ln2 (fun _ _ => rfl)⟩
 have c__law_machine : a0l l.prog w K mg base "_law_machine" _ _ _ := ⟨_, _, b9g (P := l.prog) (w := w) (base := base) F28 c__law_cell_at c__law_turn m_range m_tuple, a3X X G a28, k28, F28.binds (ps := ["_law_script"]) fun _ _ _ _ _ _ => ln1 (fun _ => rfl)⟩
 have c_led : a0l l.prog w K mg base "led" _ _ _ := ⟨_, _, d2o (P := l.prog) (w := w) (base := base) F1, a3X X G a1, k1, F1.binds (ps := ["machine", "room", "word"]) fun _ _ _ _ _ _ => ln3 (fun _ _ _ => rfl)⟩
 have c_place_of : a0l l.prog w K mg base "place_of" _ _ _ := ⟨_, _, c6g (P := l.prog) (w := w) (base := base) F4 m_len, a3X X G a4, k4, F4.binds (ps := ["rooms"]) fun _ _ _ _ _ _ => ln1 (fun _ => rfl)⟩
 have c_in_order : a0l l.prog w K mg base "in_order" _ _ _ := ⟨_, _, b5r (P := l.prog) (w := w) (base := base) F5 c_place_of m_sorted, a3X X G a5, k5, F5.binds (ps := ["sets"]) fun _ _ _ _ _ _ => ln1 (fun _ => rfl)⟩
 have c_carried : a0l l.prog w K mg base "carried" _ _ _ := ⟨_, _, b9i (P := l.prog) (w := w) (base := base) F7 c_led m_tuple m_sorted m_set, a3X X G a7, k7, F7.binds (ps := ["machine", "rooms", "word"]) fun _ _ _ _ _ _ => ln3 (fun _ _ _ => rfl)⟩
 have c_refuse_more : a0l l.prog w K mg base "refuse_more" _ _ _ := ⟨_, _, a9y (P := l.prog) (w := w) (base := base) F2 m_len, a3X X G a2, k2, F2.binds (ps := ["things", "most"]) fun _ _ _ _ _ _ => ln2 (fun _ _ => rfl)⟩
 have c_reached : b1d l.prog w K mg base "reached" _ _ _ [.non] := ⟨_, _, [.none], b9j (P := l.prog) (w := w) (base := base) F3 c_refuse_more m_range, a3X X G a3, k3, (fun s us KX hl => by have hl3 : us.length = 3 := (by simpa using hl); clear hl; revert us; exact ln3 (fun _ _ _ => BindsTo.of_defaults rfl (KX _ _ lD3) qD3 rfl rfl)), .cons rfl .nil⟩
 have c_sets_reached : a0l l.prog w K mg base "sets_reached" _ _ _ := ⟨_, _, a9k (P := l.prog) (w := w) (base := base) F8 hC_sets_reached hbm hqT0 c_carried c_reached m_len, a3X X G a8, k8, .all (ln2 (fun _ _ => rfl))⟩
 have c_still : a0l l.prog w K mg base "still" _ _ _ := ⟨_, _, c6f (P := l.prog) (w := w) (base := base) F9 m_tuple m_range, a3X X G a9, k9, F9.binds (ps := ["rooms"]) fun _ _ _ _ _ _ => ln1 (fun _ => rfl)⟩
 have c_behind : a0l l.prog w K mg base "behind" _ _ _ := ⟨_, _, c3b (P := l.prog) (w := w) (base := base) F10 m_tuple, a3X X G a10, k10, F10.binds (ps := ["one", "other"]) fun _ _ _ _ _ _ => ln2 (fun _ _ => rfl)⟩
 have c_pictures : a0l l.prog w K mg base "pictures" _ _ _ := ⟨_, _, b5t (P := l.prog) (w := w) (base := base) F11 c_still c_sets_reached m_len m_list, a3X X G a11, k11, F11.binds (ps := ["machine"]) fun _ _ _ _ _ _ => ln1 (fun _ => rfl)⟩
 have c_family : a0l l.prog w K mg base "family" _ _ _ := ⟨_, _, c3h (P := l.prog) (w := w) (base := base) F12 c_pictures c_in_order m_len m_range, a3X X G a12, k12, F12.binds (ps := ["machine"]) fun _ _ _ _ _ _ => ln1 (fun _ => rfl)⟩
 have c_lies_in : a0l l.prog w K mg base "lies_in" _ _ _ := ⟨_, _, b9l (P := l.prog) (w := w) (base := base) F6 m_all, a3X X G a6, k6, F6.binds (ps := ["one", "other"]) fun _ _ _ _ _ _ => ln2 (fun _ _ => rfl)⟩
 have c_is_covered : a0l l.prog w K mg base "is_covered" _ _ _ := ⟨_, _, b9m (P := l.prog) (w := w) (base := base) F13 c_lies_in m_any, a3X X G a13, k13, F13.binds (ps := ["part", "sets"]) fun _ _ _ _ _ _ => ln2 (fun _ _ => rfl)⟩
 have c_tiles : a0l l.prog w K mg base "tiles" _ _ _ := ⟨_, _, c6i (P := l.prog) (w := w) (base := base) F14 c_family c_lies_in c_is_covered, a3X X G a14, k14, F14.binds (ps := ["machine", "rooms"]) fun _ _ _ _ _ _ => ln2 (fun _ _ => rfl)⟩
 have c_words_between : a0l l.prog w K mg base "words_between" _ _ _ := ⟨_, _, a8e (P := l.prog) (w := w) (base := base) F15 c_family c_sets_reached m_len, a3X X G a15, k15, F15.binds (ps := ["machine"]) fun _ _ _ _ _ _ => ln1 (fun _ => rfl)⟩
 have c_alike_sets : a0l l.prog w K mg base "alike_sets" _ _ _ := ⟨_, _, c6j (P := l.prog) (w := w) (base := base) F16, a3X X G a16, k16, F16.binds (ps := ["words", "rooms"]) fun _ _ _ _ _ _ => ln2 (fun _ _ => rfl)⟩
 have c_sets_of_levels : a0l l.prog w K mg base "sets_of_levels" _ _ _ := ⟨_, _, b9n (P := l.prog) (w := w) (base := base) F17 c_alike_sets, a3X X G a17, k17, F17.binds (ps := ["words"]) fun _ _ _ _ _ _ => ln1 (fun _ => rfl)⟩
 have c_is_led_to : a0l l.prog w K mg base "is_led_to" _ _ _ := ⟨_, _, b4c (P := l.prog) (w := w) (base := base) F18 m_any, a3X X G a18, k18, F18.binds (ps := ["words", "sets", "waiting"]) fun _ _ _ _ _ _ => ln3 (fun _ _ _ => rfl)⟩
 have c_levels_in_order : a0l l.prog w K mg base "levels_in_order" _ _ _ := ⟨_, _, a7d (P := l.prog) (w := w) (base := base) F19 c_is_led_to, a3X X G a19, k19, F19.binds (ps := ["words", "waiting"]) fun _ _ _ _ _ _ => ln2 (fun _ _ => rfl)⟩
 have c_levels : a0l l.prog w K mg base "levels" _ _ _ := ⟨_, _, c3o (P := l.prog) (w := w) (base := base) F20 c_words_between c_sets_of_levels c_levels_in_order c_tiles, a3X X G a20, k20, F20.binds (ps := ["machine"]) fun _ _ _ _ _ _ => ln1 (fun _ => rfl)⟩
 have c_tile : a0l l.prog w K mg base "tile" _ _ _ := ⟨_, _, c9z (P := l.prog) (w := w) (base := base) F21 c_carried, a3X X G a21, k21, F21.binds (ps := ["machine", "level", "k", "j"]) fun _ _ _ _ _ _ => ln4 (fun _ _ _ _ => rfl)⟩
 have c_tiles_of_set : a0l l.prog w K mg base "tiles_of_set" _ _ _ := ⟨_, _, a9p (P := l.prog) (w := w) (base := base) F22 c_tile m_len m_range, a3X X G a22, k22, F22.binds (ps := ["machine", "level", "k"]) fun _ _ _ _ _ _ => ln3 (fun _ _ _ => rfl)⟩
 have c_tiles_turned : a0l l.prog w K mg base "tiles_turned" _ _ _ := ⟨_, _, a9q (P := l.prog) (w := w) (base := base) F23 c_carried c_tiles_of_set m_tuple, a3X X G a23, k23, F23.binds (ps := ["machine", "level", "k", "letter"]) fun _ _ _ _ _ _ => ln4 (fun _ _ _ _ => rfl)⟩
 have c_all_tiles_turned : a0l l.prog w K mg base "all_tiles_turned" _ _ _ := ⟨_, _, b2c (P := l.prog) (w := w) (base := base) F24 c_tiles_turned m_len m_range, a3X X G a24, k24, F24.binds (ps := ["machine", "level"]) fun _ _ _ _ _ _ => ln2 (fun _ _ => rfl)⟩
 have c_level_group : a0l l.prog w K mg base "level_group" _ _ _ := ⟨_, _, b0a (P := l.prog) (w := w) (base := base) F25 hC_level_group hbm hqT1 c_all_tiles_turned c_still c_behind c_reached m_len m_sorted, a3X X G a25, k25, .all (ln2 (fun _ _ => rfl))⟩
 have c__law_led : a0l l.prog w K mg base "_law_led" _ _ _ := ⟨_, _, d0e (P := l.prog) (w := w) (base := base) F29 m_len m_tuple m_set m_sorted, a3X X G a29, k29, F29.binds (ps := ["_law_machine_here", "_law_level"]) fun _ _ _ _ _ _ => ln2 (fun _ _ => rfl)⟩
 have c__law_turn_of : a0l l.prog w K mg base "_law_turn_of" _ _ _ := ⟨_, _, b9s (P := l.prog) (w := w) (base := base) F30 m_tuple m_sorted, a3X X G a30, k30, F30.binds (ps := ["_law_level", "_law_one"]) fun _ _ _ _ _ _ => ln2 (fun _ _ => rfl)⟩
 exact d3b (P := l.prog) (w := w) (base := base) F31 c__law_machine c_levels c__law_led c__law_turn_of c_level_group m_list m_sorted
def tabsW : List (Str × Addr) := [("sets_reached", 94), ("level_group", 193)]
theorem walk {l : PySem.W.OpenLaw} {q : Program} {loose : List Str} {XP : (Str -> Option Value) -> Heap -> Prop} {YP : World -> Heap -> Prop} {d : DefRec} {K : Params -> W.Frag} (hn : l.most = some 63) (hdf : d.params.defaults = [])
  (hY : ∀ (w : World) (h : Heap), YP w h -> (K w.params).In h) (hT : ∀ w : World, ∀ t ∈ tabsW, (K w.params).lookup t.2 = none /\ (∃ c, PySem.W.tabIn (K w.params) t.1 = some (c, t.2)) /\ ∃ e, (recsOf q).find? (fun r => r.name == t.1) = some e)
  (F : ∀ (w : World) (mg : Str -> Option Value) (fa : Addr) (h : Heap), (K w.params).In h -> h.Ns mainGlobals mg -> mg d.name = some (.ref fa) ->
   ∃ fd : FuncData, (∀ (s : Shared) (u : Value), BindsTo s fd ⟨[u], []⟩ [("_law_script", u)]) /\ ∀ base : Heap, (K w.params).In base -> base.Ns mainGlobals mg -> b1c mg base -> FnOk l.prog w (K w.params) mg base CX0 20 fa fd ["_law_script"] (c6q (K w.params))) :
  PySem.W.WalkO q loose XP YP l.row.toRowW d [] (fun f vs => PySem.call f vs) :=
 L2.c5n (n := 63) (k := 20) (x := "_law_script") (tabs := tabsW) (sp := fun w => c6q (K w.params)) hn (by decide) hdf ⟨rfl, by decide, by decide⟩ hY hT F fun w H a ns hl ht hS => ⟨a, ns, rfl, hS, hl, (fun q hq => by
  have z : q.2.2 ∈ tabsW.map (·.2) := (show tabsL.map (·.2.2) = tabsW.map (·.2) from rfl) ▸ List.mem_map_of_mem hq
  obtain ⟨t, ht2, e⟩ := a0M.mp z
  rw [<- e]
  exact .inl (ht t ht2)), fun _ => rfl⟩
end My
namespace PySem.W.Fast
def tw5053707705744688274 := ()
theorem te5053707705744688274 : True := ⟨⟩
def tw15336422589059607557:=()
def tw11635609196987834565:=()
def tw7478190581708872:=()
def tw1403451248519956432:=()
def tw3188618296312681657:=()
def tw11272617508351273625:=()
def tw16740080323526676986:=()
def tw16063780308659874621:=()
end PySem.W.Fast
open PySem PySem.W PyProof.Rows
set_option maxRecDepth 100000 in
set_option maxHeartbeats 0 in
theorem PySem.Challenge.cw_cascade_k44_whole_words_that_keep_a_face_holds : PySem.Challenge.rw_cascade_k44_whole_words_that_keep_a_face.Holds := by
 w_on; o_law; k_head; (case hw => w_witness2)
 k_fill
 refine' My.walk (l := PySem.Challenge.rw_cascade_k44_whole_words_that_keep_a_face) rfl rfl (fun w h Y => PySem.W.km_in_of Y) ?hT ?F
 case hT =>
  intro w t ht
  simp only [My.tabsW, List.mem_cons, List.not_mem_nil, or_false] at ht
  rcases ht with rfl | rfl
  ·exact ⟨by kernel_rfl, ⟨98, by kernel_rfl⟩, _, rfl⟩
  ·exact ⟨by kernel_rfl, ⟨197, by kernel_rfl⟩, _, rfl⟩
 case F =>
  intro w mg fa h KX G hmg
  refine' My.d3c KX G hmg ?a1 ?l1 ?c1 ?k1 ?a2 ?l2 ?c2 ?k2 ?a3 ?l3 ?c3 ?k3 ?lD3 ?qD3 ?a4 ?l4 ?c4 ?k4 ?a5 ?l5 ?c5 ?k5 ?a6 ?l6 ?c6 ?k6 ?a7 ?l7 ?c7 ?k7 ?a8 ?l8 ?c8 ?k8 ?hd8 ?a9 ?l9 ?c9 ?k9 ?a10 ?l10 ?c10 ?k10 ?a11 ?l11 ?c11 ?k11 ?a12 ?l12 ?c12 ?k12 ?a13 ?l13 ?c13 ?k13 ?a14 ?l14 ?c14 ?k14 ?a15 ?l15 ?c15 ?k15 ?a16 ?l16 ?c16 ?k16 ?a17 ?l17 ?c17 ?k17 ?a18 ?l18 ?c18 ?k18 ?a19 ?l19 ?c19 ?k19 ?a20 ?l20 ?c20 ?k20 ?a21 ?l21 ?c21 ?k21 ?a22 ?l22 ?c22 ?k22 ?a23 ?l23 ?c23 ?k23 ?a24 ?l24 ?c24 ?k24 ?a25 ?l25 ?c25 ?k25 ?hd25 ?a26 ?l26 ?c26 ?k26 ?a27 ?l27 ?c27 ?k27 ?a28 ?l28 ?c28 ?k28 ?a29 ?l29 ?c29 ?k29 ?a30 ?l30 ?c30 ?k30 ?a31 ?l31 ?c31 ?k31   ?z0 ?z1 ?z2 ?z3 ?z4 ?z5 ?z6 ?z7
  (case a1 => k_is); (case l1 => k_is); (case c1 => k_is); (case k1 => k_is)
  (case a2 => k_is); (case l2 => k_is); (case c2 => k_is); (case k2 => k_is)
  (case a3 => k_is); (case l3 => k_is); (case c3 => k_is); (case k3 => k_is)
  (case lD3 => k_is); (case qD3 => rfl)
  (case a4 => k_is); (case l4 => k_is); (case c4 => k_is); (case k4 => k_is)
  (case a5 => k_is); (case l5 => k_is); (case c5 => k_is); (case k5 => k_is)
  (case a6 => k_is); (case l6 => k_is); (case c6 => k_is); (case k6 => k_is)
  (case a7 => k_is); (case l7 => k_is); (case c7 => k_is); (case k7 => k_is)
  (case a8 => k_is); (case l8 => k_is); (case c8 => k_is); (case k8 => k_is)
  (case hd8 => kernel_rfl)
  (case a9 => k_is); (case l9 => k_is); (case c9 => k_is); (case k9 => k_is)
  (case a10 => k_is); (case l10 => k_is); (case c10 => k_is); (case k10 => k_is)
  (case a11 => k_is); (case l11 => k_is); (case c11 => k_is); (case k11 => k_is)
  (case a12 => k_is); (case l12 => k_is); (case c12 => k_is); (case k12 => k_is)
  (case a13 => k_is); (case l13 => k_is); (case c13 => k_is); (case k13 => k_is)
  (case a14 => k_is); (case l14 => k_is); (case c14 => k_is); (case k14 => k_is)
  (case a15 => k_is); (case l15 => k_is); (case c15 => k_is); (case k15 => k_is)
  (case a16 => k_is); (case l16 => k_is); (case c16 => k_is); (case k16 => k_is)
  (case a17 => k_is); (case l17 => k_is); (case c17 => k_is); (case k17 => k_is)
  (case a18 => k_is); (case l18 => k_is); (case c18 => k_is); (case k18 => k_is)
  (case a19 => k_is); (case l19 => k_is); (case c19 => k_is); (case k19 => k_is)
  (case a20 => k_is); (case l20 => k_is); (case c20 => k_is); (case k20 => k_is)
  (case a21 => k_is); (case l21 => k_is); (case c21 => k_is); (case k21 => k_is)
  (case a22 => k_is); (case l22 => k_is); (case c22 => k_is); (case k22 => k_is)
  (case a23 => k_is); (case l23 => k_is); (case c23 => k_is); (case k23 => k_is)
  (case a24 => k_is); (case l24 => k_is); (case c24 => k_is); (case k24 => k_is)
  (case a25 => k_is); (case l25 => k_is); (case c25 => k_is); (case k25 => k_is)
  (case hd25 => kernel_rfl)
  (case a26 => k_is); (case l26 => k_is); (case c26 => k_is); (case k26 => k_is)
  (case a27 => k_is); (case l27 => k_is); (case c27 => k_is); (case k27 => k_is)
  (case a28 => k_is); (case l28 => k_is); (case c28 => k_is); (case k28 => k_is)
  (case a29 => k_is); (case l29 => k_is); (case c29 => k_is); (case k29 => k_is)
  (case a30 => k_is); (case l30 => k_is); (case c30 => k_is); (case k30 => k_is)
  (case a31 => k_is); (case l31 => k_is); (case c31 => k_is); (case k31 => k_is)
  (case z0 => k_is)
  (case z1 => k_is)
  (case z2 => k_is)
  (case z3 => k_is)
  (case z4 => k_is)
  (case z5 => k_is)
  (case z6 => k_is)
  (case z7 => k_is)
