import PyProof.Rows.All
import Wide.All
import OpenK.AllK
import Wide.FinOn
import Lean
import PyProof.EqAt
import PyProof.EqKinds
import PyProof.TupleCall
import PyProof.NeKinds
import PySem.Challenge.RW_cascade_k56_whole_only_what_is_ahead
set_option maxHeartbeats 2000000
set_option Elab.async false
set_option linter.all false
set_option maxRecDepth 100000
abbrev a0A:=@List.getElem?_eq_getElem
abbrev a0B:=@List.getElem?_eq_some_iff
abbrev a0C:=@List.length_map
abbrev a0D:=@PySem.wpAny_bind
abbrev a0E:=@List.mem_of_getElem?
abbrev a0F:=@List.getElem?_map
abbrev a0G:=@PySem.wpAny_pure
abbrev a0H:=@PySem.Heap.get?_push_of_some
abbrev a0I:=@List.getD_eq_getElem?_getD
abbrev a0J:=@List.mem_singleton
abbrev a0K:=@Nat.le_refl
abbrev a0L:=@List.length_append
abbrev a0M:=@List.getElem?_append_right
abbrev a0N:=@List.getElem?_append_left
abbrev a0O:=@Option.map_eq_some_iff
abbrev a0P:=@Array.length_toList
abbrev a0Q:=@List.mem_append
abbrev a0R:=@List.mem_map
abbrev a0S:=@List.mem_filter
abbrev a0T:=@List.mem_cons_self
abbrev a0U:=@PySem.Heap.lt_size
abbrev a0V:=@List.size_toArray
abbrev a0W:=@List.length_take
abbrev a0X:=@PySem.Heap.get?_push_size
abbrev a0Y:=@PySem.sizeLine_eq
abbrev a0Z:=@PyProof.Rows.wpS_bind
abbrev a1A:=@decide_eq_true
abbrev a1B:=@List.map_append
abbrev a1C:=@Nat.le_trans
abbrev a1D:=@List.mem_cons_of_mem
abbrev a1E:=@List.mem_append_right
abbrev a1F:=@List.mem_iff_getElem?
abbrev a1G:=@List.append_assoc
abbrev a1H:=@Bool.false_ne_true
abbrev a1I:=@PyProof.Rows.wpS_pure
abbrev a1J:=@decide_eq_false
abbrev a1K:=@List.contains_iff_mem
abbrev a1L:=@List.mem_cons
abbrev a1M:=@Nat.ne_of_lt
abbrev a1N:=@Nat.lt_of_lt_of_le
abbrev a1O:=@List.getElem?_eq_none
abbrev a1P:=@PySem.F.plainAttrs_list
abbrev a1Q:=@List.mem_range
abbrev a1R:=@Array.getElem?_eq_getElem
abbrev a1S:=@Nat.le_of_lt
abbrev a1T:=@List.pairwise_append
abbrev a1U:=@Int.toNat_natCast
abbrev a1V:=@of_decide_eq_true
abbrev a1W:=@congrArg
abbrev a1X:=@Option.some.inj
abbrev a1Y:=@List.length_filter_le
abbrev a1Z:=@PySem.Heap.get?_update_other
abbrev a2A:=@List.length_range
abbrev a2B:=@List.take_length
abbrev a2C:=@Array.getElem?_toList
abbrev a2D:=@PySem.F.slot_list_append
abbrev a2E:=@PySem.F.type_list_append
abbrev a2F:=@Nat.exists_eq_add_one_of_ne_zero
abbrev a2G:=@List.getElem?_take_of_lt
abbrev a2H:=@Array.perm_iff_toList_perm
abbrev a2I:=@List.append_nil
abbrev a2J:=@PySem.PassesOwn.never
abbrev a2K:=@List.map_cons
abbrev a2L:=@List.take_add_one
abbrev a2M:=@List.getElem?_inj
abbrev a2N:=@PySem.wpAny_call_entry
abbrev a2O:=@List.pairwise_iff_getElem
abbrev a2P:=@Bool.and_eq_true
abbrev a2Q:=@Array.getD_eq_getD_getElem?
abbrev a2R:=@Array.toList_append
abbrev a2S:=@PySem.wpAny_newObj_type
abbrev a2T:=@PySem.wpAny_holding
abbrev a2U:=@PySem.wpAny_callSpecial?_slot
abbrev a2V:=@List.length_eq_zero_iff
abbrev a2W:=@List.take_append_drop
abbrev a2X:=@PySem.F.slot_dict_keyiterator_next
abbrev a2Y:=@List.getElem_mem
abbrev a2Z:=@PyProof.Rows.slot_tuple_getitem
abbrev a3A:=@List.Nodup.length_le_of_subset
abbrev a3B:=@List.Pairwise.sublist
abbrev a3C:=@List.getElem?_range
abbrev a3D:=@Bool.eq_iff_iff
abbrev a3E:=@List.length_cons
abbrev a3F:=@List.nodup_cons
abbrev a3G:=@List.mem_append_left
abbrev a3H:=@PyProof.Rows.wpS_forRange
abbrev a3I:=@PySem.wpAny_setField_rec
abbrev a3J:=@beq_eq_false_iff_ne
abbrev a3K:=@Nat.zero_le
abbrev a3L:=@PySem.mem_of_lookup
abbrev a3M:=@Nat.add_sub_cancel'
abbrev a3N:=@List.length_drop
abbrev a3O:=@List.mem_reverse
abbrev a3P:=@Nat.le_add_right
abbrev a3Q:=@PySem.wpAny_mono
abbrev a3R:=@List.pairwise_singleton
abbrev a3S:=@List.ext_getElem?
abbrev a3T:=@Ne.symm
abbrev a3U:=@Nat.lt_succ_self
abbrev a3V:=@PySem.F.slot_dict_itemiterator_next
abbrev a3W:=@Classical.choose_spec
abbrev a3X:=@List.map_map
abbrev a3Y:=@PySem.wpAny_loadPart'
abbrev a3Z:=@Nat.add_sub_cancel_left
abbrev a4A:=@List.lookup_cons
abbrev a4B:=@Array.getElem?_eq_some_iff
abbrev a4C:=@PySem.boot_len
abbrev a4D:=@List.foldl_append
abbrev a4E:=@List.map_congr_left
abbrev a4F:=@List.filter_sublist
abbrev a4G:=@Nat.lt_irrefl
abbrev a4H:=@Nat.sub_lt_left_of_lt_add
abbrev a4I:=@PySem.Heap.get?_update_self
abbrev a4J:=@PySem.wpAny_typeNameOfWhole_itemiter
abbrev a4K:=@Nat.min_eq_left
abbrev a4L:=@Array.size_push
abbrev a4M:=@PySem.wpAny_Call_Name_kw
abbrev a4N:=@List.idxOf_lt_length_iff
abbrev a4O:=@PySem.wpAny_typeNameOfWhole_keyiter
abbrev a4P:=@PySem.lookup_relabel_local
abbrev a4Q:=@PySem.Around.under_plainId
abbrev a4R:=@List.mem_of_mem_take
abbrev a4S:=@List.getElem?_of_mem
abbrev a4T:=@PySem.F.slot_dict_keyiterator_iter
abbrev a4U:=@PySem.wpAny_truthy_bool
abbrev a4V:=@PySem.wpAny_dictEntries
abbrev a4W:=@PySem.wpAny_setState_of
abbrev a4X:=@PyProof.Rows.callWith_type1
abbrev a4Y:=@List.take_of_length_le
abbrev a4Z:=@PySem.Paired.length
abbrev a5A:=@Nat.ne_of_gt
abbrev a5B:=@List.length_singleton
abbrev a5C:=@List.Perm.append_left
abbrev a5D:=@Nat.sub_self
abbrev a5E:=@List.getElem?_drop
abbrev a5F:=@PySem.W.mg_none_of
abbrev a5G:=@List.drop_eq_getElem_cons
abbrev a5H:=@Classical.byContradiction
abbrev a5I:=@List.extract_eq_take_drop
abbrev a5J:=@PySem.wpAny_passesOwn
abbrev a5K:=@List.take_sublist
abbrev a5L:=@List.length_set
abbrev a5M:=@Nat.lt_succ_of_lt
abbrev a5N:=@PySem.codeAny_builtin
abbrev a5O:=@Array.toList_push
abbrev a5P:=@PySem.wpAny_pyIter_slot
abbrev a5Q:=@List.pairwise_map
abbrev a5R:=@Nat.not_lt_zero
abbrev a5S:=@Bool.eq_false_iff
abbrev a5T:=@List.filter_congr
abbrev a5U:=@PySem.codeAny_mono
abbrev a5V:=@List.replicate_succ
abbrev a5W:=@Nat.add_le_add_left
abbrev a5X:=@PySem.wpAny_attempt
abbrev a5Y:=@PySem.F.plain_extend_loop
abbrev a5Z:=@PyProof.Rows.wpS_mono
abbrev a6A:=@PySem.F.slot_list_index
abbrev a6B:=@PySem.F.type_list_index
abbrev a6C:=@List.all_eq_true
abbrev a6D:=@List.cons_append
abbrev a6E:=@List.getElem_map
abbrev a6F:=@PySem.wpAny_rule
abbrev a6G:=@List.take_take
abbrev a6H:=@List.length_pos_of_mem
abbrev a6I:=@List.Perm.append_right
abbrev a6J:=@Nat.lt_of_le_of_lt
abbrev a6K:=@Nat.lt_of_le_of_ne
abbrev a6L:=@List.filter_append
abbrev a6M:=@decide_eq_true_iff
abbrev a6N:=@List.countP_eq_length_filter
abbrev a6O:=@List.length_replicate
abbrev a6P:=@PySem.wpAny_field
abbrev a6Q:=@PySem.F.called_set
abbrev a6R:=@PySem.wpAny_dictEpoch
abbrev a6S:=@List.perm_append_comm
abbrev a6T:=@beq_iff_eq
abbrev a6U:=@PyProof.Rows.wpS_modify
abbrev a6V:=@PyProof.Rows.boot_tuple
abbrev a6W:=@Array.toList_extract
abbrev a6X:=@Array.toList_reverse
abbrev a6Y:=@List.mem_erase_of_ne
abbrev a6Z:=@PySem.Calls.call_function_entry
abbrev a7A:=@List.drop_zero
abbrev a7B:=@PySem.wpAny_fieldsOf
abbrev a7C:=@beq_self_eq_true
abbrev a7D:=@PySem.wpAny_askSetting
abbrev a7E:=@Nat.le_succ
abbrev a7F:=@List.toList_toArray
abbrev a7G:=@Nat.add_lt_add_left
abbrev a7H:=@Nat.le_of_eq
abbrev a7I:=@PySem.call_meets
abbrev a7J:=@Int.zero_add
abbrev a7K:=@List.length_erase_of_mem
abbrev a7L:=@List.Pairwise.imp_of_mem
abbrev a7M:=@PySem.W.callWith_K
abbrev a7N:=@List.any_cons
abbrev a7O:=@PySem.tupleKind_room_in1
abbrev a7P:=@PySem.plainId_quiet
abbrev a7Q:=@PyProof.Rows.F.plain_set_update_loop
abbrev a7R:=@PyProof.Rows.get?_update_seq
abbrev a7S:=@PyProof.Rows.listUpdate_at
abbrev a7T:=@List.pairwise_cons
abbrev a7U:=@of_decide_eq_false
abbrev a7V:=@List.getElem_idxOf
abbrev a7W:=@List.flatten_replicate_singleton
abbrev a7X:=@PySem.Calls.callWith_builtin
abbrev a7Y:=@PySem.wpAny_isOneOf_itemiter
abbrev a7Z:=@Array.getElem?_eq_none
abbrev a8A:=@PySem.wpAny_pyIter_list
abbrev a8B:=@List.any_eq_false
abbrev a8C:=@List.flatten_cons
abbrev a8D:=@PySem.F.args_dict_itemiterator_next_1
abbrev a8E:=@Nat.le_of_lt_succ
abbrev a8F:=@Array.size_append
abbrev a8G:=@PySem.Heap.size_push
abbrev a8H:=@PySem.wpAny_typeOf
abbrev a8I:=@Nat.add_zero
abbrev a8J:=@PySem.F.entry_dict_itemiterator_next
abbrev a8K:=@PySem.F.args_dict_keyiterator_next_1
abbrev a8L:=@PySem.F.args_dict_keyiterator_iter_1
abbrev a8M:=@Array.mem_of_getElem?
abbrev a8N:=@Nat.zero_add
abbrev a8O:=@Nat.le_of_not_lt
abbrev a8P:=@List.any_eq_true
abbrev a8Q:=@PySem.F.entry_dict_keyiterator_next
abbrev a8R:=@PySem.F.entry_dict_keyiterator_iter
abbrev a8S:=@Array.toList_map
abbrev a8T:=@List.countP_cons
abbrev a8U:=@List.take_append_of_le_length
abbrev a8V:=@Array.mem_toList_iff
abbrev a8W:=@Nat.le_sub_of_add_le
abbrev a8X:=@List.mem_of_mem_drop
abbrev a8Y:=@Int.ofNat.inj
abbrev a8Z:=@PySem.wpAny_newList
abbrev a9A:=@List.dropLast_concat_getLast
abbrev a9B:=@Bool.true_and
abbrev a9C:=@PySem.wpAny_execs_nil
abbrev a9D:=@PySem.W.plainGet_of
abbrev a9E:=@List.of_mem_zip
abbrev a9F:=@List.nil_append
abbrev a9G:=@PySem.F.slot_int_rmul
abbrev a9H:=@PySem.size_of_entries
abbrev a9I:=@PySem.wpAny_raiseNew_none
abbrev a9J:=@PySem.wpAny_updateSeq
abbrev a9K:=@PyProof.Rows.wpS_get
abbrev a9L:=@List.map_eq_nil_iff
abbrev a9M:=@PySem.Calls.Name_function_global
abbrev a9N:=@Array.toList_setIfInBounds
abbrev a9O:=@List.nodup_iff_pairwise_ne
abbrev a9P:=@Nat.lt_trans
abbrev a9Q:=@Array.Perm.mem_iff
abbrev a9R:=@Int.lt_trans
abbrev a9S:=@List.getElem?_take
abbrev a9T:=@Nat.min_self
abbrev a9U:=@Bool.false_and
abbrev a9V:=@Option.isSome_map
abbrev a9W:=@List.nodup_append
abbrev a9X:=@PySem.wpAny_standAt
abbrev a9Y:=@PySem.noFill_tuple_add
abbrev a9Z:=@List.ext_getElem
abbrev b0A:=@PySem.concat_meets
abbrev b0B:=@List.map_nil
abbrev b0C:=@List.foldl_cons
abbrev b0D:=@Nat.add_comm
abbrev b0E:=@Nat.sub_zero
abbrev b0F:=@PySem.wpAny_ite_false
abbrev b0G:=@PySem.wpAny_ite_split
abbrev b0H:=@PyProof.Rows.entry_list_sort
abbrev b0I:=@List.any_map
abbrev b0J:=@ite_congr
abbrev b0K:=@Array.Perm.refl
abbrev b0L:=@List.range_succ
abbrev b0M:=@PySem.wpAny_call
abbrev b0N:=@PySem.typeIs_int
abbrev b0O:=@PySem.intKind_is
abbrev b0P:=@PyProof.Rows.wpS_lift
abbrev b0Q:=@PySem.wpAny_of_eq
abbrev b0R:=@PyProof.Rows.seqEpoch_at
section
open PySem
abbrev L3q:=List (List (List Nat))
abbrev LN:=List (List Nat)
abbrev Nsq:=List Nat
abbrev VP:=Value -> Shared -> Prop
abbrev AO:=List (Addr × Obj)
abbrev SV:=Str -> Option Value
abbrev As:=List Addr
abbrev Vs:=List Value
abbrev AV:=Array Value
abbrev Zs:=List Int
abbrev Ss:=List Str
abbrev Sh:=Shared
abbrev Vl:=Value
abbrev Pg:=Program
abbrev Fd:=FuncData
abbrev Ar:=Around
end
abbrev wA:=@if_neg
abbrev wB:=@if_pos
abbrev wC:=@absurd
abbrev wE:=@False.elim
open PySem in
abbrev Ad:=Addr
namespace L2
open PySem PySem.Spec PyProof.Rows
abbrev Key:=Sum Int Str
def c2w:Key->Vl->Bool
 | .inl k,v=>Value.isInt k v
 | .inr x,v=>Value.isStrOf x v
def keyH(w:World):Key->Int
 | .inl k=>hashInt k
 | .inr x=>hashStr w x
theorem a1z: ∀{k:Key} {v:Vl},c2w k v=true->(∃i t,k=Sum.inl i/\v=Value.int i t)∨(∃x t,k=Sum.inr x/\v=Value.str x t)
 | .inl i,v,h=>by
  obtain⟨t,e⟩:=Value.isInt_shape (k:=i) (v:=v) h;exact .inl ⟨i,t,rfl,e⟩
 | .inr x,v,h=>by
  obtain⟨t,e⟩:=Value.isStrOf_shape (x:=x) (v:=v) h;exact .inr ⟨x,t,rfl,e⟩
theorem c4w(i:Int)(t:Tok):c2w (.inl i) (.int i t)=true:=by simp[c2w,Value.isInt]
theorem c4x(x:Str)(t:Tok):c2w (.inr x) (.str x t)=true:=by simp[c2w,Value.isStrOf]
theorem d7g(a b:Int):decide ((Sum.inl a:Key)=Sum.inl b)=(a==b):=by
 by_cases e:a=b
 ·subst e;simp
 ·have h: ¬(Sum.inl a:Key)=Sum.inl b:=fun q=>e (Sum.inl.inj q);rw[a1J h];exact(a3J.mpr e).symm
theorem d7h(a b:Str):decide ((Sum.inr a:Key)=Sum.inr b)=decide (a=b):=by
 by_cases e:a=b
 ·subst e;simp
 ·have h: ¬(Sum.inr a:Key)=Sum.inr b:=fun q=>e (Sum.inr.inj q);rw[a1J h,a1J e]
theorem d7i(a:Int)(b:Str):decide ((Sum.inl a:Key)=Sum.inr b)=false:=a1J (fun q=>nomatch q)
theorem d7j(a:Str)(b:Int):decide ((Sum.inr a:Key)=Sum.inl b)=false:=a1J (fun q=>nomatch q)
def a3e(prog:Pg)(w:World):PySem.KeyKind prog w Key where
 is:=c2w
 hash:=keyH w
 inj:=fun v a b ha hb=>by
  rcases a1z ha with⟨i,t,rfl,rfl⟩|⟨x,t,rfl,rfl⟩
  ·rcases a1z hb with⟨j,u,rfl,e⟩|⟨y,u,rfl,e⟩
   ·injection e with e1 _;rw[e1]
   ·exact nomatch e
  ·rcases a1z hb with⟨j,u,rfl,e⟩|⟨y,u,rfl,e⟩
   ·exact nomatch e
   ·injection e with e1 _;rw[e1]
 byValue:=fun k v h=>by
  rcases a1z h with⟨i,t,rfl,rfl⟩|⟨x,t,rfl,rfl⟩<;>rfl
 pyHash:=fun hv h=>by
  rcases a1z hv with⟨i,t,rfl,rfl⟩|⟨x,t,rfl,rfl⟩
  ·exact wpAny_pyHash_int h
  ·exact wpAny_pyHash_str h
 eqBool:=fun hu hv h=>by
  rcases a1z hu with⟨i,t,rfl,rfl⟩|⟨x,t,rfl,rfl⟩
  ·rcases a1z hv with⟨j,u,rfl,rfl⟩|⟨y,u,rfl,rfl⟩
   ·rw[d7g]at h;exact wpAny_eqBool_int h
   ·rw[d7i]at h;exact SeqAt.EqAt.int_str i t y u _ _ _ _ h
  ·rcases a1z hv with⟨j,u,rfl,rfl⟩|⟨y,u,rfl,rfl⟩
   ·rw[d7j]at h;exact SeqAt.EqAt.str_int x t j u _ _ _ _ h
   ·rw[d7h]at h;exact wpAny_eqBool_str h
 «strs»:=fun k x t v h=>by
  rcases a1z h with⟨i,u,rfl,e⟩|⟨y,u,rfl,e⟩
  ·exact nomatch e
  ·injection e with e1 _
   subst e1;cases v<;>rfl
theorem b8p(prog:Pg)(w:World)(i:Int)(t:Tok):(a3e prog w).is (.inl i) (.int i t)=true:=c4w i t
theorem b8q(prog:Pg)(w:World)(x:Str)(t:Tok):(a3e prog w).is (.inr x) (.str x t)=true:=c4x x t
inductive V where
 |non|bl (b:Bool)|int (i:Int)|str (x:Str)|byt (b:Array UInt8)|flt (b:UInt64)|ref (a:Ad)|ty (n:String)
 deriving DecidableEq
def RelV:V->Vl->Prop
 | .non,u=>u=Value.none
 | .bl b,u=>u=Value.bool b
 | .int i,u=> ∃t,u=Value.int i t
 | .str x,u=> ∃t,u=Value.str x t
 | .byt b,u=> ∃t,u=Value.bytes b t
 | .flt b,u=> ∃t,u=Value.float b t
 | .ref a,u=>u=Value.ref a
 | .ty n,u=>u=Value.type n
abbrev Vals:List V->List Vl->Prop:=Paired RelV
theorem Vals.length{xs:List V}{us:Vs}(r:Vals xs us):xs.length=us.length:=a4Z r
theorem Vals.get: ∀{xs:List V} {us:Vs} {i:Nat} {x:V},Vals xs us->xs[i]? =some x-> ∃u,us[i]? =some u/\RelV x u
 |_,_,_,_,.nil,e=>by simp at e
 |_,_,0,_,.cons r _,e=>by simp at e;subst e;exact⟨_,rfl,r⟩
 |_,_,i+1,x,.cons _ t,e=>by
  obtain⟨u,h1,h2⟩:=Vals.get (i:=i) (x:=x) t (by simpa using e);exact⟨u,by simpa using h1,h2⟩
theorem Vals.set{x:V}{u:Vl}(r:RelV x u): ∀{xs:List V} {us:Vs} (i:Nat),Vals xs us->Vals (xs.set i x) (us.set i u)
 |_,_,_,.nil=> .nil
 |_,_,0,.cons _ t=> .cons r t
 |_,_,i+1,.cons q t=> .cons q (Vals.set r i t)
theorem Vals.append: ∀{xs ys:List V} {us ws:Vs},Vals xs us->Vals ys ws->Vals (xs++ys) (us++ws)
 |_,_,_,_,.nil,s=>s
 |_,_,_,_,.cons r t,s=> .cons r (Vals.append t s)
theorem Vals.take: ∀{xs:List V} {us:Vs} (n:Nat),Vals xs us->Vals (xs.take n) (us.take n)
 |_,_,0,_=> .nil
 |_,_,_+1,.nil=> .nil
 |_,_,n+1,.cons r t=> .cons r (Vals.take n t)
theorem Vals.drop: ∀{xs:List V} {us:Vs} (n:Nat),Vals xs us->Vals (xs.drop n) (us.drop n)
 |_,_,0,r=>r
 |_,_,_+1,.nil=> .nil
 |_,_,n+1,.cons _ t=>Vals.drop n t
def RelO:Option V->Option Vl->Prop
 |some v,some u=>RelV v u
 |none,none=>True
 |_,_=>False
def KV{κ:Type}:List (κ×V)->List (κ×Vl)->Prop:=Paired fun(p:κ×V) (q:κ×Vl)=>p.1=q.1/\RelV p.2 q.2
def kV:Key->V
 | .inl i=> .int i
 | .inr x=> .str x
inductive HO where
 |lst (xs:List V)
 |tup (xs:List V)
 |dK (kvs:List (Key×V))|dT (kvs:List (List Key×V))
 |set (S:Int->Bool) (n:Nat)
 |ins (C dx:Ad) (fs:List (Str×V))
 |own (x:Ad)
 |xd (fs:List (Str×V))
 |met (f x:Ad)
 |rng (lo hi:Int)
 |frz (o:Obj) (u:HO)
 |tbl (ps:AV)
 |ext (φ:Heap->Prop)
abbrev Hp:=Ad->Option HO
def upd(H:Hp)(a:Ad)(o:HO):Hp:=fun b=>if b=a then some o else H b
theorem a0a{H:Hp}{a:Ad}{o:HO}:upd H a o a=some o:=by unfold upd;rw[wB rfl]
theorem a0f{H:Hp}{a b:Ad}{o:HO}(h:b≠a):upd H a o b=H b:=by unfold upd;rw[wA h]
theorem d4r{H:Hp}{a:Ad}{o u:HO}:upd (upd H a o) a u=upd H a u:=by
 funext b;unfold upd;split<;>rfl
theorem a8s{H:Hp}{a b:Ad}{o u:HO}(h:H a=some o)(h':H b=some u)(d:o≠u):a≠b:=by
 intro e;subst e;rw[h]at h';exact d (a1X h')
def hoT:HO->Nat
 | .lst _=>0
 | .tup _=>1
 | .dK _=>2
 | .dT _=>3
 | .tbl _=>4
 | .ext _=>5
 | .rng _ _=>6
 | .frz _ _=>7
 |_=>8
theorem nE{H:Hp}{a b:Ad}{o u:HO}(h:H a=some o)(k:H b=some u)(d:(hoT o==hoT u)=false:=by rfl):a≠b:=a8s h k fun e=>by rw[e,a7C]at d;cases d
theorem a0j{H:Hp}{a b:Ad}{o:HO}(h:H a=some o)(h':H b=none):a≠b:=by
 intro e;subst e;rw[h]at h';cases h'
def TupD(h:Heap)(a:Ad)(items:AV):Prop:= ∃o,h.get? a=some o/\o.cls= .type "tuple"/\ ∃n,o.data= .seq items n/\o.dict=none
theorem TupD.is{h:Heap}{a:Ad}{items:AV}(p:TupD h a items):IsTup h a items:=let⟨o,e,c,n,d,_⟩:=p;⟨o,e,c,n,d⟩
theorem TupD.new(h:Heap)(items:AV):TupD (h.push {cls:= .type "tuple",data:= .seq items}) h.objs.size items:=⟨_,a0X _ rfl,rfl,_,rfl,rfl⟩
section
variable(P:Pg)(w:World)
def ObjOk(H:Hp)(h:Heap)(a:Ad):HO->Prop
 | .lst xs=>xs.length<=sizeLine/\ ∃(its:Vs) (n:Nat),Vals xs its/\h.get? a=some {cls:= .type "list",data:= .seq its.toArray n}
 | .tup xs=>xs.length<=sizeLine/\ ∃its:Vs,Vals xs its/\TupD h a its.toArray
 | .dK kvs=>kvs.length<=sizeLine/\(a==sysModules)=false/\ ∃vs,KV kvs vs/\h.DictOf (a3e P w) a vs
 | .dT kvs=>kvs.length<=sizeLine/\(a==sysModules)=false/\ ∃xs:List (List Key×Ad×Vl),
   Paired (fun(p:List Key×V) (q:List Key×Ad×Vl)=>p.1=q.1/\H q.2.1=some (.tup (p.1.map kV))/\RelV p.2 q.2.2) kvs xs/\
   ∃o es ep,h.get? a=some o/\o.ExactDict/\o.data= .dict es ep/\es.toList=xs.map (entryOfKey (tupleKind (a3e P w)))/\(xs.map (·.1)).Nodup
 | .set S n=>h.SetOf (intKind P w) a S n
 | .ins C dx fs=>H dx=some (.own a)/\fs.length<=1000/\dx≠a/\h.get? a=some (PySem.W.instObj C dx)/\
   ∃mA,h.Ns1 dx mA/\(∀f,RelO (fs.lookup f) (mA f))/\PySem.Within mA (fs.map (·.1))
 | .own _=> ∃o,h.get? a=some o
 | .xd fs=> ∃mA,h.Ns1 a mA/\ ∀f,RelO (fs.lookup f) (mA f)
 | .rng lo hi=> ∃t u v,h.get? a=some {cls:= .type "range",data:= .fields #[.int lo t,.int hi u,.int 1 v]}
 | .frz o u=>h.get? a=some o/\ObjOk H h a u
 | .tbl ps=>h.get? a=some {cls:= .none,data:= .fields ps}
 | .met f x=>h.get? a=some (PySem.W.methodObj (.ref f) (.ref x))
 | .ext φ=>φ h/\(∃o,h.get? a=some o)/\ ∀h1 h2:Heap,φ h1->(∀o,h1.get? a=some o->h2.get? a=some o)->φ h2
def HOk(H:Hp)(h:Heap):Prop:= ∀a o,H a=some o->ObjOk P w H h a o
end
section
variable{P:Pg}{w:World}{H H':Hp}{h h':Heap}{a:Ad}{o:HO}
theorem ObjOk.lt(x:ObjOk P w H h a o):a<h.objs.size:=by
 cases o with
 |lst xs=>obtain⟨_,_,_,_,e⟩:=x;exact a0U e
 |tup xs=>obtain⟨_,_,_,p⟩:=x;exact p.is.lt
 |dK kvs=>obtain⟨_,_,_,_,o,_,_,e,_⟩:=x;exact a0U e
 |dT kvs=>obtain⟨_,_,_,_,o,_,_,e,_⟩:=x;exact a0U e
 |set S n=>obtain⟨o,_,_,_,e,_⟩:=x;exact a0U e
 |ins C dx fs=>obtain⟨_,_,_,e,_⟩:=x;exact a0U e
 |own y=>obtain⟨_,e⟩:=x;exact a0U e
 |xd fs=>obtain⟨_,⟨_,_,_,e,_⟩,_⟩:=x;exact a0U e
 |rng lo hi=>obtain⟨_,_,_,e⟩:=x;exact a0U e
 |frz ob u=>obtain⟨e,_⟩:=x;exact a0U e
 |tbl ps=>exact a0U (show h.get? a=some _ from x)
 |met f y=>exact a0U (show h.get? a=some _ from x)
 |ext φ=>obtain⟨_,⟨_,e⟩,_⟩:=x;exact a0U e
theorem Paired.mapP{α β:Type}{F G:α->β->Prop}: ∀{l₁:List α} {l₂:List β},Paired F l₁ l₂->(∀a b,F a b->G a b)->Paired G l₁ l₂
 |_,_,.nil,_=> .nil
 |_,_,.cons r t,f=> .cons (f _ _ r) (Paired.mapP t f)
theorem ObjOk.stay(x:ObjOk P w H h a o)(k: ∀b u,(b=a∨H b=some (.own a))->h.get? b=some u->h'.get? b=some u)
  (ho: ∀b,H b=some (.own a)->H' b=some (.own a)) (ht: ∀b xs,H b=some (.tup xs)->H' b=some (.tup xs)):ObjOk P w H' h' a o:=by
 induction o with
 |lst xs=>obtain⟨z,its,n,r,e⟩:=x;exact⟨z,its,n,r,k _ _ (.inl rfl) e⟩
 |tup xs=>obtain⟨z,its,r,ob,e,c⟩:=x;exact⟨z,its,r,ob,k _ _ (.inl rfl) e,c⟩
 |dK kvs=>obtain⟨z,y,vs,r,ob,es,ep,e,c⟩:=x;exact⟨z,y,vs,r,ob,es,ep,k _ _ (.inl rfl) e,c⟩
 |dT kvs=>
  obtain⟨z,y,xs,r,ob,es,ep,e,c⟩:=x;exact⟨z,y,xs,Paired.mapP r fun p q z=>⟨z.1,ht _ _ z.2.1,z.2.2⟩,ob,es,ep,k _ _ (.inl rfl) e,c⟩
 |set S n=>obtain⟨ob,es,ep,t,e,c⟩:=x;exact⟨ob,es,ep,t,k _ _ (.inl rfl) e,c⟩
 |ins C dx fs=>
  obtain⟨d,z,ne,e,mA,⟨od,es,ep,e2,c⟩,r⟩:=x;exact⟨ho _ d,z,ne,k _ _ (.inl rfl) e,mA,⟨od,es,ep,k _ _ (.inr d) e2,c⟩,r⟩
 |own y=>obtain⟨ob,e⟩:=x;exact⟨ob,k _ _ (.inl rfl) e⟩
 |xd fs=>obtain⟨mA,⟨od,es,ep,e,c⟩,r⟩:=x;exact⟨mA,⟨od,es,ep,k _ _ (.inl rfl) e,c⟩,r⟩
 |rng lo hi=>obtain⟨t,u,v,e⟩:=x;exact⟨t,u,v,k _ _ (.inl rfl) e⟩
 |frz ob u ih=>obtain⟨e,q⟩:=x;exact⟨k _ _ (.inl rfl) e,ih q⟩
 |tbl ps=>
  have e:h.get? a=some {cls:= .none,data:= .fields ps}:=x;show h'.get? a=some {cls:= .none,data:= .fields ps};exact k a _ (.inl rfl) e
 |met f y=>
  have e:h.get? a=some (PySem.W.methodObj (.ref f) (.ref y)):=x;show h'.get? a=some (PySem.W.methodObj (.ref f) (.ref y));exact k a _ (.inl rfl) e
 |ext φ=>obtain⟨p,⟨o,e⟩,st⟩:=x;exact⟨st _ _ p fun o q=>k _ _ (.inl rfl) q,⟨o,k _ _ (.inl rfl) e⟩,st⟩
theorem HOk.lt(x:HOk P w H h)(e:H a=some o):a<h.objs.size:=(x a o e).lt
theorem HOk.fresh(x:HOk P w H h)(e:h.objs.size<=a):H a=none:=by
 cases q:H a with
 |none=>rfl
 |some u=>exact wC (a1N (x.lt q) e) (a4G _)
theorem HOk.kept(x:HOk P w H h)(k: ∀b u,h.get? b=some u->h'.get? b=some u):HOk P w H h':=fun a o e=>
 (x a o e).stay (fun b u _ q=>k b u q) (fun _ q=>q) fun _ _ q=>q
theorem HOk.laid(x:HOk P w H h)(k: ∀b u,h.get? b=some u->h'.get? b=some u)(hp:h.objs.size<=a)(new:ObjOk P w (upd H a o) h' a o):HOk P w (upd H a o) h':=fun b u e=>by
 have hn:=x.fresh hp;by_cases hb:b=a
 ·subst hb;rw[a0a]at e;cases e;exact new
 ·rw[a0f hb]at e;exact(x b u e).stay (fun c v _ q=>k c v q) (fun c q=>by rw[a0f (a0j q hn)];exact q) fun c xs q=>by rw[a0f (a0j q hn)];exact q
end
def Rd(H:Hp)(a:Ad)(u:HO):Prop:=H a=some u∨ ∃o,H a=some (.frz o u)
theorem Rd.ok{P:Pg}{w:World}{H:Hp}{h:Heap}{a:Ad}{u:HO}(r:Rd H a u)(x:HOk P w H h):ObjOk P w H h a u:=by
 rcases r with r|⟨o,r⟩
 ·exact x a u r
 ·obtain⟨_,q⟩:=x a _ r;exact q
def Mut:Option HO->Prop
 |some (.lst _)=>True
 |some (.dK _)=>True
 |some (.dT _)=>True
 |some (.set _ _)=>True
 |some (.ins _ _ _)=>True
 |some (.ext _)=>True
 |_=>False
section
variable{P:Pg}{w:World}{H:Hp}{h h':Heap}{x e:Ad}{o':HO}
theorem HOk.write(ok:HOk P w H h)(mu:Mut (H x))(he:e=x∨H e=some (.own x))(k: ∀b u,b≠e->h.get? b=some u->h'.get? b=some u)(heo: ∃u,h'.get? e=some u)
  (new:ObjOk P w (upd H x o') h' x o'):HOk P w (upd H x o') h':=fun b u q=>by
 have nown: ∀c y,H c=some (.own y)->c≠x:=fun c y r z=>by subst z;rw[r]at mu;exact mu
 have ntup: ∀c xs,H c=some (.tup xs)->c≠x:=fun c xs r z=>by subst z;rw[r]at mu;exact mu
 by_cases hb:b=x
 ·subst hb;rw[a0a]at q;cases q;exact new
 ·rw[a0f hb]at q;by_cases hbe:b=e
  ·have q':H b=some (.own x):=by
    rcases he with z|z
    ·exact wC (hbe.trans z) hb
    ·rw[hbe];exact z
   rw[q]at q';cases q';obtain⟨v,hv⟩:=heo;exact⟨v,by rw[hbe];exact hv⟩
  ·refine(ok b u q).stay (fun c v hc r=>k c v ?_ r) (fun c r=>by rw[a0f (nown c b r)];exact r) fun c xs r=>by rw[a0f (ntup c xs r)];exact r
   rcases hc with rfl|hc
   ·exact hbe
   ·rintro rfl
    rcases he with z|z
    ·exact nown c b hc z
    ·rw[hc]at z;cases z;exact hb rfl
end
structure Un(fs ex:As)(H H':Hp)(h h':Heap):Prop where
 keep: ∀b o,h.get? b=some o->H b=none->b∉fs->b∉ex->h'.get? b=some o
 slot: ∀b o,h.get? b=some o->H b=none->b∈fs->b∉ex-> ∃sl,h'.get? b=some {o with slots:=sl}
 free: ∀b o,h.get? b=some o->H b=none->b∉ex->H' b=none
 there: ∀b o,h.get? b=some o->b∉ex-> ∃o',h'.get? b=some o'
 tups: ∀b xs,H b=some (.tup xs)->H' b=some (.tup xs)
 frzs: ∀b o u,H b=some (.frz o u)->H' b=some (.frz o u)
 tbls: ∀b ps,H b=some (.tbl ps)-> ∃more,H' b=some (.tbl (ps++more))
section
variable{fs fs' ex ex':As}{H H1 H2:Hp}{h h1 h2 h':Heap}{a x e:Ad}{o:HO}
theorem Un.any(u:Un fs ex H H1 h h1){b:Ad}{ob:Obj}(q:h.get? b=some ob)(n:H b=none)(hx:b∉ex): ∃sl,h1.get? b=some {ob with slots:=sl}:=by
 by_cases hb:b∈fs
 ·exact u.slot b ob q n hb hx
 ·exact⟨ob.slots,u.keep b ob q n hb hx⟩
theorem Un.kept(k: ∀b u,h.get? b=some u->h'.get? b=some u):Un fs ex H H h h':=
 ⟨fun b ob q _ _ _=>k b ob q,fun b ob q _ _ _=>⟨ob.slots,k b ob q⟩,fun _ _ _ n _=>n,fun b ob q _=>⟨ob,k b ob q⟩,fun _ _ q=>q,fun _ _ _ q=>q,fun _ ps q=>⟨#[],by rw[q];simp⟩⟩
theorem Un.refl:Un fs ex H H h h:=Un.kept fun _ _ q=>q
theorem Un.laid(k: ∀b u,h.get? b=some u->h'.get? b=some u)(hp:h.objs.size<=a)(hn:H a=none):Un fs ex H (upd H a o) h h' where
 keep:=fun b u q _ _ _=>k b u q
 slot:=fun b u q _ _ _=>⟨u.slots,k b u q⟩
 free:=fun b u q n _=>by rw[a0f (a1M (a1N (a0U q) hp))];exact n
 there:=fun b u q _=>⟨u,k b u q⟩
 tups:=fun b xs q=>by rw[a0f (a0j q hn)];exact q
 frzs:=fun b u xs q=>by rw[a0f (a0j q hn)];exact q
 tbls:=fun b ps q=>⟨#[],by rw[a0f (a0j q hn),q];simp⟩
theorem Un.write(mu:Mut (H x))(he:e=x∨H e=some (.own x))(k: ∀b u,b≠e->h.get? b=some u->h'.get? b=some u)(heo: ∃u,h'.get? e=some u):Un fs ex H (upd H x o) h h':=by
 have hx: ∀b,H b=none->b≠x:=fun b n z=>by subst z;rw[n]at mu;exact mu
 have hb: ∀b,H b=none->b≠e:=fun b n z=>by
  subst z
  rcases he with r|r
  ·exact hx b n r
  ·rw[n]at r;cases r
 have hm: ∀b u,H b=some u-> ¬Mut (some u)->b≠x:=fun b u q nm z=>by subst z;rw[q]at mu;exact nm mu
 refine⟨fun b u q n _ _=>k b u (hb b n) q,fun b u q n _ _=>⟨u.slots,k b u (hb b n) q⟩,fun b u q n _=>by rw[a0f (hx b n)];exact n,fun b u q _=>?_,
  fun b xs q=>by rw[a0f (hm b _ q fun z=>z)];exact q,fun b u xs q=>by rw[a0f (hm b _ q fun z=>z)];exact q,fun b ps q=>⟨#[],by rw[a0f (hm b _ q fun z=>z),q];simp⟩⟩
 by_cases hbe:b=e
 ·subst hbe;exact heo
 ·exact⟨u,k b u hbe q⟩
end
def trk(h:Heap)(H:Hp):As:=(List.range h.objs.size).filter fun a=>(H a).isSome
def d0k(h:Heap)(H:Hp):Heap:=PySem.W.hideAll h (trk h H)
theorem c4y(h:Heap)(H:Hp):(d0k h H).objs.size=h.objs.size:=PySem.W.hideAll_size _ _
theorem b4d{h:Heap}{H:Hp}{b:Ad}{o:Obj}(e:h.get? b=some o)(n:H b=none):(d0k h H).get? b=some o:=
 PySem.W.hideAll_get _ e fun hm=>by
  have q:(H b).isSome=true:=(a0S.mp hm).2;rw[n]at q;simp at q
theorem d4s{h:Heap}{H:Hp}{b:Ad}{o:Obj}(e:(d0k h H).get? b=some o):h.get? b=some o/\H b=none:=by
 have e':h.get? b=some o:=PySem.W.of_hideAll (trk h H) e;refine⟨e',?_⟩;cases q:H b with
 |none=>rfl
 |some x=>
  have hm:b∈trk h H:=a0S.mpr ⟨a1Q.mpr (a0U e'),by simp[q]⟩;have z:(d0k h H).get? b=none:=PySem.W.hideAll_none (trk h H) hm;rw[z]at e;cases e
def d4t(g h:Heap)(L:Ad):AO:=(List.range h.objs.size).filterMap fun a=>if a=L∨(g.get? a).isSome=true then none else(h.get? a).map fun o=>(a,o)
def rest(g h:Heap)(L d:Ad):AO:=(d4t g h L).filter fun p=>decide (p.1≠d)
structure Mod(K:W.Frag)(mg:SV)(base:Heap):Prop where
 kin:K.In base
 glob:base.Ns mainGlobals mg
 blt: ∃mb,base.Ns builtinsNs mb/\ ∀x:Str,x≠"__name__"->mb x=bootBuiltins x
 nolimit:base.NoLimit
structure Cx where
 prog:Pg
 w:World
 K:W.Frag
 mg:SV
 base:Heap
 A:Ar
 N:Ss
 s₀:Sh
 H₀:Hp
 env:Env
 outer:List Env
 stack:List Env
 ex:As
 fn:Str->Bool
 calm:Bool
 pn:AO
 xe:VP
def frs(l:List Env):As:=l.filterMap (·.frame)
abbrev Cx.fs(X:Cx):As:=frs X.outer
def Vis(sc:Scope)(x:Str):Prop:=sc.names.lookup x=some .local∨sc.names.lookup x=some .cell∨sc.names.lookup x=some .free
def Loc(sc:Scope)(x:Str):Prop:=sc.names.lookup x=some .local∨sc.names.lookup x=some .cell
def Look(env:Env)(h:Heap)(m:SV)(x:Str)(u:Vl):Prop:=
 (env.kindOf x=some .local/\m x=some u)∨((env.kindOf x=some .cell∨env.kindOf x=some .free)/\ ∃c,env.cells.lookup x=some c/\h.IsCell c (some u))
structure Cx.Ok(X:Cx):Prop where
 mod:Mod X.K X.mg X.base
 kind:X.env.scope.kind= .function
 glob:X.env.globals=mainGlobals
 blt:X.env.builtins=builtinsNs
 above:X.s₀.heap.objs.size<=X.env.locals
 inj: ∀x y c,X.env.cells.lookup x=some c->X.env.cells.lookup y=some c->x=y
 has: ∀x,(X.env.kindOf x=some .cell∨X.env.kindOf x=some .free)-> ∃c,X.env.cells.lookup x=some c
 cab: ∀x c,X.fn x=true->X.env.cells.lookup x=some c->X.s₀.heap.objs.size<=c
 hd:X.calm=true->X.A.handled=none
 frames:X.A.frames=some X.stack
 stk:X.stack=X.outer∨(X.stack=X.env::X.outer/\X.env.frame=some X.env.locals)
 exf: ∀b∈X.ex,b≠X.env.locals/\ ∀x c,X.env.cells.lookup x=some c->c≠b
 bs: ∀b o,X.base.get? b=some o->X.s₀.heap.get? b=some o/\X.H₀ b=none
 bsz:X.base.objs.size<=X.s₀.heap.objs.size
 noex: ∀b o,X.base.get? b=some o->b∉X.ex
 exfs: ∀b∈X.ex,b∉X.fs
 funs:X.s₀.heap.FunFrames X.base X.outer
 frf: ∀b∈X.fs,X.H₀ b=none
structure Inv(X:Cx)(za:AO)(σ:List (Option V))(H:Hp)(s:Sh):Prop where
 ok:X.Ok
 os:s.os=X.s₀.os
 bare:AllBare s.gens
 base:Un X.fs X.ex X.H₀ H X.s₀.heap s.heap
 loc: ∃m,s.heap.Ns X.env.locals m/\ ∀(i:Nat) (x:Str) (v:V),X.N[i]? =some x->σ[i]? =some (some v)->Vis X.env.scope x-> ∃u,RelV v u/\Look X.env s.heap m x u
 cell: ∀x c,X.env.cells.lookup x=some c-> ∃v,s.heap.IsCell c v
 free:H X.env.locals=none
 freeC: ∀x c,X.env.cells.lookup x=some c->H c=none
 pin: ∀p∈X.pn++za,s.heap.get? p.1=some p.2/\H p.1=none/\p.1≠X.env.locals/\p.1∉X.fs/\ ∀v,p.2.data≠ .cell v
 hok:HOk X.prog X.w H s.heap
 len:σ.length=X.N.length
section
variable{X:Cx}{za:AO}{σ:List (Option V)}{H H':Hp}{s:Sh}{h':Heap}
theorem Cx.Ok.nofr(ok:X.Ok){b:Ad}{o:Obj}(e:X.base.get? b=some o):b∉X.fs:=fun hb=>by
 have:=(ok.funs.mem hb).1;rw[e]at this;cases this
theorem Inv.bs(I:Inv X za σ H s): ∀b o,X.base.get? b=some o->s.heap.get? b=some o/\H b=none:=fun b o e=>
 ⟨I.base.keep b o (I.ok.bs b o e).1 (I.ok.bs b o e).2 (I.ok.nofr e) (I.ok.noex b o e),I.base.free b o (I.ok.bs b o e).1 (I.ok.bs b o e).2 (I.ok.noex b o e)⟩
theorem Inv.bk(I:Inv X za σ H s): ∀b o,X.base.get? b=some o->s.heap.get? b=some o:=fun b o e=>(I.bs b o e).1
theorem Inv.mod(I:Inv X za σ H s):Mod X.K X.mg X.base:=I.ok.mod
theorem Inv.kIn(I:Inv X za σ H s):X.K.In s.heap:=I.ok.mod.kin.keeps I.bk
theorem Inv.lt(I:Inv X za σ H s):X.env.locals<s.heap.objs.size:=let⟨_,hn,_⟩:=I.loc;hn.lt
theorem Inv.sz(I:Inv X za σ H s):X.s₀.heap.objs.size<=s.heap.objs.size:=a1C I.ok.above (a1S I.lt)
theorem Inv.nofs(I:Inv X za σ H s){a:Ad}(h:s.heap.objs.size<=a):a∉X.fs:=fun hb=>by
 obtain⟨_,o,ho,_⟩:=I.ok.funs.mem hb;exact wC (a1N (a0U ho) (a1C I.sz h)) (a4G _)
theorem Inv.cne(I:Inv X za σ H s): ∀x c,X.env.cells.lookup x=some c->c≠X.env.locals:=fun x c e z=>by
 obtain⟨v,o,ho,hd⟩:=I.cell x c e;obtain⟨m,⟨o',es,ep,ho',hd',_⟩,_⟩:=I.loc;rw[z,ho']at ho;cases ho;rw[hd']at hd;cases hd
theorem Inv.funs(I:Inv X za σ H s):s.heap.FunFrames X.base X.outer:=by
 have all: ∀(l:List Env),(∀b∈frs l,b∈X.fs)->X.s₀.heap.FunFrames X.base l->s.heap.FunFrames X.base l:=by
  intro l
  induction l with
  |nil=>intro _ _;trivial
  |cons env r ih=>
   intro hs hl;obtain⟨hk,⟨L,o,hf,hn,ho,hd⟩,hr⟩:=hl;have hL:L∈X.fs:=hs L (by unfold frs;rw[List.filterMap_cons,hf];exact List.mem_cons_self);obtain⟨sl,e⟩:=I.base.slot L o ho (I.ok.frf L hL) hL fun z=>I.ok.exfs L z hL
   exact⟨hk,⟨L,_,hf,hn,e,hd⟩,ih (fun b hb=>hs b (by unfold frs;rw[List.filterMap_cons,hf];exact List.mem_cons_of_mem _ hb)) hr⟩
 exact all X.outer (fun _ hb=>hb) I.ok.funs
theorem Inv.stack(I:Inv X za σ H s):s.heap.FunFrames X.base X.stack:=by
 rcases I.ok.stk with e|⟨e,hf⟩
 ·rw[e];exact I.funs
 ·rw[e];obtain⟨m,hn,_⟩:=I.loc;refine .cons (by rw[I.ok.kind];decide) hf hn ?_ I.funs;exact Heap.get?_none_of_le (a1C I.ok.bsz I.ok.above)
theorem Inv.stkSub(I:Inv X za σ H s): ∀b∈frs X.stack,b∈X.env.locals::X.fs:=fun b hb=>by
 rcases I.ok.stk with e|⟨e,hf⟩
 ·rw[e]at hb;exact a1D _ hb
 ·rw[e]at hb;unfold frs at hb;rw[List.filterMap_cons,hf]at hb;exact hb
theorem Inv.stkFree(I:Inv X za σ H s): ∀b∈frs X.stack,H b=none:=fun b hb=>by
 rcases a1L.mp (I.stkSub b hb)with e|hb
 ·rw[e];exact I.free
 ·obtain⟨_,o,ho,_⟩:=I.ok.funs.mem hb;exact I.base.free b o ho (I.ok.frf b hb) fun z=>I.ok.exfs b z hb
theorem Inv.step{g':Array GenState}{t':Nat}{d':Drawn}{ch:As}(I:Inv X za σ H s)
  (hch: ∀b∈ch,(b∈X.ex∨X.s₀.heap.objs.size<=b)/\b≠X.env.locals/\(∀x c,X.env.cells.lookup x=some c->c≠b)/\ ∀p∈X.pn++za,p.1≠b)
  (keep: ∀b o,b≠X.env.locals->b∉X.fs->b∉ch->s.heap.get? b=some o->H b=none->h'.get? b=some o)
  (slot: ∀b o,b≠X.env.locals->b∈X.fs->b∉ch->s.heap.get? b=some o->H b=none-> ∃sl,h'.get? b=some {o with slots:=sl}) (free: ∀b o,b∉ch->s.heap.get? b=some o->H b=none->H' b=none)
  (there: ∀b o,b∉ch->s.heap.get? b=some o-> ∃o',h'.get? b=some o')
  (tups: ∀b xs,H b=some (.tup xs)->H' b=some (.tup xs)) (frzs: ∀b o u,H b=some (.frz o u)->H' b=some (.frz o u)) (tbls: ∀b ps,H b=some (.tbl ps)-> ∃more,H' b=some (.tbl (ps++more)))
  (ns: ∀m,s.heap.Ns X.env.locals m->h'.Ns X.env.locals m) (hok:HOk X.prog X.w H' h') (hg:AllBare g'):
  Inv X za σ H' {s with heap:=h',gens:=g',drawn:=d',toks:=t'}:=by
 have neL: ∀b o,X.s₀.heap.get? b=some o->b≠X.env.locals:=fun b o e=>a1M (a1N (a0U e) I.ok.above);have neC: ∀b o,X.s₀.heap.get? b=some o->b∉X.ex->b∉ch:=fun b o e hx hb=>by
  rcases (hch b hb).1 with z|z
  ·exact hx z
  ·exact wC (a1N (a0U e) z) (a4G _)
 have cellK: ∀x c,X.env.cells.lookup x=some c-> ∀v,s.heap.IsCell c v->h'.IsCell c v:=fun x c e v ⟨o,ho,hd⟩=>by
  have nch:c∉ch:=fun z=>(hch c z).2.2.1 x c e rfl;by_cases hc:c∈X.fs
  ·obtain⟨sl,q⟩:=slot c o (I.cne x c e) hc nch ho (I.freeC x c e);exact⟨_,q,hd⟩
  ·exact⟨o,keep c o (I.cne x c e) hc nch ho (I.freeC x c e),hd⟩
 refine⟨I.ok,I.os,hg,⟨fun b o e n hb hx=>?_,fun b o e n hb hx=>?_,fun b o e n hx=>?_,fun b o e hx=>?_,fun b xs e=>tups b xs (I.base.tups b xs e),fun b o xs e=>frzs b o xs (I.base.frzs b o xs e),fun b ps e=>?_⟩,?_,fun x c e=>?_,?_,fun x c e=>?_,fun p hp=>?_,hok,I.len⟩
 ·exact keep b o (neL b o e) hb (neC b o e hx) (I.base.keep b o e n hb hx) (I.base.free b o e n hx)
 ·obtain⟨sl,e1⟩:=I.base.slot b o e n hb hx;obtain⟨sl',e2⟩:=slot b _ (neL b o e) hb (neC b o e hx) e1 (I.base.free b o e n hx);exact⟨sl',e2⟩
 ·obtain⟨o',e1⟩:=I.base.there b o e hx;exact free b o' (neC b o e hx) e1 (I.base.free b o e n hx)
 ·obtain⟨o',e1⟩:=I.base.there b o e hx;exact there b o' (neC b o e hx) e1
 ·obtain⟨m1,e1⟩:=I.base.tbls b ps e;obtain⟨m2,e2⟩:=tbls b _ e1;exact⟨m1++m2,by rw[e2,Array.append_assoc]⟩
 ·obtain⟨m,hn,hl⟩:=I.loc;refine⟨m,ns m hn,fun i x v e1 e2 e3=>?_⟩;obtain⟨u,r,l⟩:=hl i x v e1 e2 e3;refine⟨u,r,?_⟩
  rcases l with l|⟨k,c,e,z⟩
  ·exact .inl l
  ·exact .inr ⟨k,c,e,cellK x c e _ z⟩
 ·obtain⟨v,z⟩:=I.cell x c e;exact⟨v,cellK x c e v z⟩
 ·obtain⟨m,⟨o,_,_,ho,_⟩,_⟩:=I.loc;exact free _ o (fun z=>(hch _ z).2.1 rfl) ho I.free
 ·obtain⟨v,o,ho,hd⟩:=I.cell x c e;exact free c o (fun z=>(hch c z).2.2.1 x c e rfl) ho (I.freeC x c e)
 ·obtain⟨e,n,ne,nf,d⟩:=I.pin p hp;have nch:p.1∉ch:=fun z=>(hch p.1 z).2.2.2 p hp rfl;exact⟨keep p.1 p.2 ne nf nch e n,free p.1 p.2 nch e n,ne,nf,d⟩
theorem Inv.un{t':Nat}(I:Inv X za σ H s)(u:Un X.fs [] H H' s.heap h')(hok:HOk X.prog X.w H' h'):Inv X za σ H' {s with heap:=h',toks:=t'}:=by
 obtain⟨m,⟨o,es,ep,ho,r⟩,_⟩:=id I.loc;obtain⟨sl,hL⟩:=u.any ho I.free (by simp);exact I.step (g':=s.gens) (d':=s.drawn) (ch:=[]) (fun _ z=>nomatch z) (fun b o _ hb _ e n=>u.keep b o e n hb (by simp)) (fun b o _ hb _ e n=>u.slot b o e n hb (by simp)) (fun b o _ e n=>u.free b o e n (by simp)) (fun b o _ e=>u.there b o e (by simp)) u.tups u.frzs u.tbls (fun m' hm=>by
  obtain⟨o',es',ep',ho',r'⟩:=hm;rw[ho]at ho';cases ho';exact⟨_,es',ep',hL,r'⟩) hok I.bare
theorem Inv.call{g':Array GenState}{t':Nat}{d':Drawn}{ch:As}(I:Inv X za σ H s)(u:Un (frs X.stack) ch H H' s.heap h')(hok:HOk X.prog X.w H' h')(hg:AllBare g')
  (hch: ∀b∈ch,(b∈X.ex∨X.s₀.heap.objs.size<=b)/\b≠X.env.locals/\(∀x c,X.env.cells.lookup x=some c->c≠b)/\ ∀p∈X.pn++za,p.1≠b):
  Inv X za σ H' {s with heap:=h',gens:=g',drawn:=d',toks:=t'}:=by
 obtain⟨m,⟨o,es,ep,ho,r⟩,_⟩:=id I.loc;obtain⟨sl,hL⟩:=u.any ho I.free fun z=>(hch _ z).2.1 rfl;exact I.step (ch:=ch) hch (fun b o hL hb hc e n=>u.keep b o e n (fun z=>(a1L.mp (I.stkSub b z)).elim hL hb) hc) (fun b o _ _ hc e n=>u.any e n hc) (fun b o hc e n=>u.free b o e n hc) (fun b o hc e=>u.there b o e hc) u.tups u.frzs u.tbls (fun m' hm=>by
  obtain⟨o',es',ep',ho',r'⟩:=hm;rw[ho]at ho';cases ho';exact⟨_,es',ep',hL,r'⟩) hok hg
theorem Inv.turned{t':Nat}{it:Ad}(I:Inv X za σ H s)(k: ∀b o,b≠it->s.heap.get? b=some o->h'.get? b=some o)(hn:H it=none)(hL:it≠X.env.locals)
  (h1:it∈X.ex∨X.s₀.heap.objs.size<=it) (h2: ∀x c,X.env.cells.lookup x=some c->c≠it) (h3: ∀p∈X.pn++za,p.1≠it):Inv X za σ H {s with heap:=h',toks:=t'}:=by
 have nit: ∀b u,H b=some u->b≠it:=fun b u e z=>by rw[z,hn]at e;cases e
 refine I.step (g':=s.gens) (d':=s.drawn) (ch:=[it]) (fun b hb=>?_) (fun b o _ _ hc e _=>k b o (fun z=>hc (by simp[z])) e) (fun b o _ _ hc e _=>⟨o.slots,k b o (fun z=>hc (by simp[z])) e⟩) (fun _ _ _ _ n=>n)
  (fun b o hc e=>⟨o,k b o (fun z=>hc (by simp[z])) e⟩) (fun _ _ e=>e) (fun _ _ _ e=>e) (fun b ps e=>⟨#[],by rw[e];simp⟩) (fun m hm=>?_) (fun b u e=>?_) I.bare
 ·have e:b=it:=by simpa using hb
  subst e;exact⟨h1,hL,h2,h3⟩
 ·obtain⟨o,es,ep,ho,r⟩:=hm;exact⟨o,es,ep,k _ o (a3T hL) ho,r⟩
 ·refine(I.hok b u e).stay (fun c v hc q=>k c v ?_ q) (fun _ q=>q) fun _ _ q=>q
  rcases hc with z|z
  ·rw[z];exact nit b u e
  ·exact nit c _ z
theorem Inv.tok(I:Inv X za σ H s)(t:Nat):Inv X za σ H {s with toks:=t}:=I.un (h':=s.heap) (t':=t) Un.refl I.hok
theorem Inv.kept{t':Nat}(I:Inv X za σ H s)(k: ∀b u,s.heap.get? b=some u->h'.get? b=some u):Inv X za σ H {s with heap:=h',toks:=t'}:=I.un (Un.kept k) (I.hok.kept k)
theorem Inv.laid{a:Ad}{o:HO}{t':Nat}(I:Inv X za σ H s)(k: ∀b u,s.heap.get? b=some u->h'.get? b=some u)(hp:s.heap.objs.size<=a)(new:ObjOk X.prog X.w (upd H a o) h' a o):
  Inv X za σ (upd H a o) {s with heap:=h',toks:=t'}:=I.un (Un.laid k hp (I.hok.fresh hp)) (I.hok.laid k hp new)
theorem Inv.write{x e:Ad}{o:HO}{t':Nat}(I:Inv X za σ H s)(mu:Mut (H x))(he:e=x∨H e=some (.own x))(k: ∀b u,b≠e->s.heap.get? b=some u->h'.get? b=some u)(heo: ∃u,h'.get? e=some u)
  (new:ObjOk X.prog X.w (upd H x o) h' x o):Inv X za σ (upd H x o) {s with heap:=h',toks:=t'}:=I.un (Un.write mu he k heo) (I.hok.write mu he k heo new)
theorem Inv.weak{σ':List (Option V)}(I:Inv X za σ H s)(hl:σ'.length=σ.length)(w: ∀(i:Nat) v,σ'[i]? =some (some v)->σ[i]? =some (some v)):Inv X za σ' H s:=
 ⟨I.ok,I.os,I.bare,I.base,let⟨m,hn,hl'⟩:=I.loc;⟨m,hn,fun i x v e1 e2 e3=>hl' i x v e1 (w i v e2) e3⟩,I.cell,I.free,I.freeC,I.pin,I.hok,hl.trans I.len⟩
theorem Inv.pins_of{pins':AO}(I:Inv X za σ H s)(h: ∀p∈pins',s.heap.get? p.1=some p.2/\H p.1=none/\p.1≠X.env.locals/\p.1∉X.fs/\ ∀v,p.2.data≠ .cell v):Inv X pins' σ H s:=
 ⟨I.ok,I.os,I.bare,I.base,I.loc,I.cell,I.free,I.freeC,fun p hp=>(a0Q.mp hp).elim (fun z=>I.pin p (a3G _ z)) (h p),I.hok,I.len⟩
theorem c0l{N:Ss}(hN:N.Nodup){i j:Nat}{x:Str}(a:N[i]? =some x)(b:N[j]? =some x):i=j:=by
 obtain⟨h1,e1⟩:=a0B.mp a;obtain⟨h2,e2⟩:=a0B.mp b;exact(List.getElem_inj hN).mp (e1.trans e2.symm)
theorem b6j{M:Model}{A:Ar}{E:VP}{i:Nat}{x:Str}{v:V}{u:Vl}{Q:Unit->Sh->Prop}(I:Inv X za σ H s)(hN:X.N.Nodup)(hi:X.N[i]? =some x)(hx:Loc X.env.scope x)(r:RelV v u)
  (h: ∀s',Inv X za (σ.set i (some v)) H s'->(∃a,Heap.SameBut a s.heap s'.heap/\(a=X.env.locals∨X.env.cells.lookup x=some a))->Q () s') (hf:X.fn x=true∨X.env.scope.names.lookup x=some .local:=by first|exact .inl rfl|exact .inr rfl|assumption):wpAny M A (storeName X.env x u) Q E s:=by
 obtain⟨m,hn,hl⟩:=id I.loc;have hcls:(X.env.scope.kind== .class || (X.env.scope.kind== .module&&X.env.locals != X.env.globals))=false:=by rw[I.ok.kind];rfl
 have hiσ:i<σ.length:=by rw[I.len];exact(a0B.mp hi).1
 have cne:=I.cne;have tracked: ∀{a:Ad} {h':Heap},(∃o,s.heap.get? a=some o/\H a=none)->Heap.SameBut a s.heap h'->HOk X.prog X.w H h':=fun {a h'} ha hs b ob e=>by
  obtain⟨_,_,hfree⟩:=ha;refine(I.hok b ob e).stay (fun c w' hc q=>(hs.2 c ?_).trans q) (fun _ q=>q) fun _ _ q=>q;rintro rfl
  rcases hc with rfl|hc
  ·rw[hfree]at e;cases e
  ·rw[hfree]at hc;cases hc
 rcases hx with hk|hk
 ·refine wpAny_storeName_local hk hn (fun h' hn' hs=>?_) hcls;obtain⟨oL,_,_,hoL,_⟩:=id hn;refine h _ ⟨I.ok,I.os,I.bare,⟨fun b o e n hb hx=>?_,fun b o e n hb hx=>?_,I.base.free,fun b o e hx=>?_,I.base.tups,I.base.frzs,I.base.tbls⟩,⟨_,hn',fun j y v' e1 e2 e3=>?_⟩,fun y c e=>?_,I.free,I.freeC,fun p hp=>?_,tracked ⟨oL,hoL,I.free⟩ hs,by simpa using I.len⟩ ⟨_,hs,.inl rfl⟩
  ·exact(hs.2 b (a1M (a1N (a0U e) I.ok.above))).trans (I.base.keep b o e n hb hx)
  ·obtain⟨sl,e1⟩:=I.base.slot b o e n hb hx;exact⟨sl,(hs.2 b (a1M (a1N (a0U e) I.ok.above))).trans e1⟩
  ·obtain⟨o',e1⟩:=I.base.there b o e hx;exact⟨o',(hs.2 b (a1M (a1N (a0U e) I.ok.above))).trans e1⟩
  ·by_cases hj:j=i
   ·subst hj;rw[hi]at e1;cases e1;rw[List.getElem?_set_self hiσ]at e2;cases e2;exact⟨u,r,.inl ⟨hk,by simp⟩⟩
   ·rw[List.getElem?_set_ne (a3T hj)]at e2;obtain⟨u',r',q⟩:=hl j y v' e1 e2 e3;refine⟨u',r',?_⟩
    rcases q with⟨k,e⟩|⟨k,c,e,z⟩
    ·refine .inl ⟨k,?_⟩;have:y≠x:=fun e=>hj (c0l hN e1 (e▸hi));simp[this,e]
    ·exact .inr ⟨k,c,e,z.sameBut hs (cne y c e)⟩
  ·obtain⟨w',z⟩:=I.cell y c e;exact⟨w',z.sameBut hs (cne y c e)⟩
  ·obtain⟨e,n,ne,nf,d⟩:=I.pin p hp;exact⟨(hs.2 p.1 ne).trans e,n,ne,nf,d⟩
 ·have hfn:X.fn x=true:=by
   rcases hf with z|z
   ·exact z
   ·rw[z]at hk;cases hk
  obtain⟨c,hc⟩:=I.ok.has x (.inl hk);obtain⟨w',z⟩:=I.cell x c hc;refine wpAny_storeName_cell I.ok.kind hk hc z (fun h' hc' hs=>?_);obtain⟨oc,hoc,hocd⟩:=id z;refine h {s with heap:=h'} ⟨I.ok,I.os,I.bare,⟨fun b o e n hb hx=>?_,fun b o e n hb hx=>?_,I.base.free,fun b o e hx=>?_,I.base.tups,I.base.frzs,I.base.tbls⟩,⟨m,hn.sameBut hs (a3T (cne x c hc)),fun j y v' e1 e2 e3=>?_⟩,fun y c' e=>?_,I.free,I.freeC,fun p hp=>?_,tracked ⟨oc,hoc,I.freeC x c hc⟩ hs,by simpa using I.len⟩ ⟨c,hs,.inr hc⟩
  ·exact(hs.2 b (a1M (a1N (a0U e) (I.ok.cab x c hfn hc)))).trans (I.base.keep b o e n hb hx)
  ·obtain⟨sl,e1⟩:=I.base.slot b o e n hb hx;exact⟨sl,(hs.2 b (a1M (a1N (a0U e) (I.ok.cab x c hfn hc)))).trans e1⟩
  ·obtain⟨o',e1⟩:=I.base.there b o e hx;exact⟨o',(hs.2 b (a1M (a1N (a0U e) (I.ok.cab x c hfn hc)))).trans e1⟩
  ·by_cases hj:j=i
   ·subst hj;rw[hi]at e1;cases e1;rw[List.getElem?_set_self hiσ]at e2;cases e2;exact⟨u,r,.inr ⟨.inl hk,c,hc,hc'⟩⟩
   ·rw[List.getElem?_set_ne (a3T hj)]at e2;obtain⟨u',r',q⟩:=hl j y v' e1 e2 e3;refine⟨u',r',?_⟩
    rcases q with q|⟨k,c',e,z'⟩
    ·exact .inl q
    ·refine .inr ⟨k,c',e,z'.sameBut hs ?_⟩;rintro rfl;exact hj (c0l hN e1 (I.ok.inj _ _ _ e hc▸hi))
  ·by_cases hcc:c'=c
   ·subst hcc;exact⟨_,hc'⟩
   ·obtain⟨w2,z2⟩:=I.cell y c' e;exact⟨w2,z2.sameBut hs hcc⟩
  ·obtain⟨e,n,ne,nf,d⟩:=I.pin p hp;refine⟨(hs.2 p.1 ?_).trans e,n,ne,nf,d⟩;intro q;rw[q,hoc]at e;have q':oc=p.2:=a1X e;exact d w' (by rw[<-q'];exact hocd)
theorem b4e{M:Model}{A:Ar}{E:VP}{i:Nat}{x:Str}{v:V}{u:Vl}{Q:Unit->Sh->Prop}(I:Inv X za σ H s)(hN:X.N.Nodup)(hi:X.N[i]? =some x)(hx:Loc X.env.scope x)(r:RelV v u)
  (h: ∀s',Inv X za (σ.set i (some v)) H s'->Q () s') (hf:X.fn x=true∨X.env.scope.names.lookup x=some .local:=by first|exact .inl rfl|exact .inr rfl|assumption):wpAny M A (storeName X.env x u) Q E s:=
 b6j I hN hi hx r (fun s' I' _=>h s' I') hf
theorem Inv.call'{s':Sh}{ch:As}(I:Inv X za σ H s)(ho:s'.os=s.os)(u:Un (frs X.stack) ch H H' s.heap s'.heap)(hok:HOk X.prog X.w H' s'.heap)(hg:AllBare s'.gens)
  (hch: ∀b∈ch,(b∈X.ex∨X.s₀.heap.objs.size<=b)/\b≠X.env.locals/\(∀x c,X.env.cells.lookup x=some c->c≠b)/\ ∀p∈X.pn++za,p.1≠b):Inv X za σ H' s':=by
 obtain⟨h',g',d',t',o'⟩:=s';have e:o'=s.os:=ho;subst e;exact I.call (g':=g') (t':=t') (d':=d') u hok hg hch
end
abbrev XK:=Vl->Option Ad->Hp->Prop
abbrev St:=List (Option V)
abbrev VK:=V->Hp->Prop
abbrev TE:=St->Hp->VK->Prop
abbrev TT:=St->Hp->(Bool->Hp->Prop)->Prop
abbrev TA:=St->Hp->(List V->Hp->Prop)->Prop
structure Ends where
 nx:St->Hp->Prop
 rt:VK
 bk:St->Hp->Prop:=fun _ _=>False
 ct:St->Hp->Prop:=fun _ _=>False
abbrev TS:=Ends->St->Hp->Prop
def EP(X:Cx)(za:AO)(σ:St)(Q:VK)(u:Vl)(s':Sh):Prop:= ∃v H',Inv X za σ H' s'/\RelV v u/\Q v H'
def TP(X:Cx)(za:AO)(σ:St)(Q:Bool->Hp->Prop)(b:Bool)(s':Sh):Prop:= ∃H',Inv X za σ H' s'/\Q b H'
def AP(X:Cx)(za:AO)(σ:St)(Q:List V->Hp->Prop)(us:Vs)(s':Sh):Prop:= ∃vs H',Inv X za σ H' s'/\Vals vs us/\Q vs H'
def SP(X:Cx)(za:AO)(D:Ends)(f:Flow)(s':Sh):Prop:=
 match f with
 | .next=> ∃σ' H',Inv X za σ' H' s'/\D.nx σ' H'
 | .brk=> ∃σ' H',Inv X za σ' H' s'/\D.bk σ' H'
 | .cont=> ∃σ' H',Inv X za σ' H' s'/\D.ct σ' H'
 | .ret u=> ∃v σ' H',Inv X za σ' H' s'/\RelV v u/\D.rt v H'
def PE(X:Cx)(e:Expr)(t:TE):Prop:=
 ∀(za:AO) (s:Sh) (σ:St) (H:Hp) (Q:VK),Inv X za σ H s->t σ H Q->wpAny (model X.prog X.w) X.A (eval e X.env) (EP X za σ Q) X.xe s
def PT(X:Cx)(e:Expr)(t:TT):Prop:=
 ∀(za:AO) (s:Sh) (σ:St) (H:Hp) (Q:Bool->Hp->Prop),Inv X za σ H s->t σ H Q->wpAny (model X.prog X.w) X.A (isTrue e X.env (eval e X.env)) (TP X za σ Q) X.xe s
def PW(X:Cx)(e:Expr)(t:TT):Prop:=
 ∀(whole:Sem Vl) (za:AO) (s:Sh) (σ:St) (H:Hp) (Q:Bool->Hp->Prop),Inv X za σ H s->t σ H Q->wpAny (model X.prog X.w) X.A (isTrue e X.env whole) (TP X za σ Q) X.xe s
theorem PW.pt{X:Cx}{e:Expr}{t:TT}(h:PW X e t):PT X e t:=h _
def PA(X:Cx)(es:List Expr)(t:TA):Prop:=
 ∀(pos:Pos) (za:AO) (s:Sh) (σ:St) (H:Hp) (Q:List V->Hp->Prop),Inv X za σ H s->t σ H Q->wpAny (model X.prog X.w) X.A (spliced (backTo pos (starEach es X.env))) (AP X za σ Q) X.xe s
def PS(X:Cx)(st:Stmt)(t:TS):Prop:=
 ∀(za:AO) (s:Sh) (σ:St) (H:Hp) (D:Ends),Inv X za σ H s->t D σ H->wpAny (model X.prog X.w) X.A (exec st X.env) (SP X za D) X.xe s
def PSs(X:Cx)(st:List Stmt)(t:TS):Prop:=
 ∀(za:AO) (s:Sh) (σ:St) (H:Hp) (D:Ends),Inv X za σ H s->t D σ H->wpAny (model X.prog X.w) X.A (execs st X.env) (SP X za D) X.xe s
theorem thn{α:Type}{t:Sem α}{Q Q':α->Sh->Prop}{M:Model}{A:Ar}{E:VP}{s:Sh}(h:wpAny M A t Q E s)(hQ: ∀a s,Q a s->Q' a s):wpAny M A t Q' E s:=a3Q h hQ fun _ _ x=>x
section
variable{X:Cx}
def a9k(i:Nat):TE:=fun σ H Q=> ∃v,σ[i]? =some (some v)/\Q v H
def tC(v:V):TE:=fun _ H Q=>Q v H
theorem d7k{i:Nat}{x:Str}{pos:Pos}(hN:X.N[i]? =some x)(hv:Vis X.env.scope x)(hd:(x==("__debug__":Str))=false:=by decide)(hcd:(x==("__classdict__":Str))=false:=by decide):PE X (.Name x pos) (a9k i):=by
 intro za s σ H Q I h;obtain⟨v,e,h⟩:=h;obtain⟨m,hn,hl⟩:=I.loc;obtain⟨u,r,l⟩:=hl i x v hN e hv;have fin:EP X za σ Q u s:=⟨v,H,I,r,h⟩
 rcases l with⟨hk,hm⟩|⟨hk,c,hc,hcell⟩
 ·exact wpAny_Name (wpAny_loadName_local I.ok.kind hk hn hm fin) hd
 ·rcases hk with hk|hk
  ·exact wpAny_Name (wpAny_loadName_cell I.ok.kind hk hc hcell fin) hd
  ·exact wpAny_Name (wpAny_loadName_free I.ok.kind hk hc hcell fin hcd) hd
theorem a0l{i j pos}:PE X (.Constant (.int i) j pos) (tC (.int i)):=fun _ _ _ H _ I h=>wpAny_Constant_int ⟨.int i,H,I.tok _,⟨_,rfl⟩,h⟩
theorem c4z{b j pos}:PE X (.Constant (.bool b) j pos) (tC (.bl b)):=fun _ _ _ H _ I h=>Constant_bool ⟨.bl b,H,I,rfl,h⟩
theorem b3c{j pos}:PE X (.Constant .none j pos) (tC .non):=fun _ _ _ H _ I h=>Constant_none ⟨.non,H,I,rfl,h⟩
theorem c5a{x j pos}:PE X (.Constant (.str x) j pos) (tC (.str x)):=fun _ _ _ H _ I h=>Calls.Constant_str ⟨.str x,H,I.tok _,⟨_,rfl⟩,h⟩
def Gl(X:Cx)(x:Str):Prop:=X.env.kindOf x=some .globalImplicit
theorem b4f{E:VP}{za:AO}{s:Sh}{σ:St}{H:Hp}{x:Str}{u:Vl}{pos:Pos}{Q:VP}(I:Inv X za σ H s)(hg:Gl X x)(hm:X.mg x=some u)(h:Q u s)
  (hd:(x==("__debug__":Str))=false:=by decide):wpAny (model X.prog X.w) X.A (eval (.Name x pos) X.env) Q E s:=
 a9M I.ok.kind hg (Calls.loadGlobal_global (by rw[I.ok.glob];exact I.mod.glob.keeps I.bk) hm h) hd
theorem b3d{E:VP}{za:AO}{s:Sh}{σ:St}{H:Hp}{x:Str}{u:Vl}{pos:Pos}{Q:VP}(I:Inv X za σ H s)(hg:Gl X x)(hm:X.mg x=none)(hv:bootBuiltins x=some u)(h:Q u s)
  (hn:x≠"__name__":=by decide) (hd:(x==("__debug__":Str))=false:=by decide):wpAny (model X.prog X.w) X.A (eval (.Name x pos) X.env) Q E s:=by
 obtain⟨mb,h1,h2⟩:=I.mod.blt;exact a9M I.ok.kind hg (Calls.loadGlobal_builtin (by rw[I.ok.glob];exact I.mod.glob.keeps I.bk) hm (by rw[I.ok.blt];exact h1.keeps I.bk) ((h2 x hn).trans hv) h) hd
variable{a b:Expr}{ta tb:TE}{pos:Pos}
def PC(X:Cx)(op:CmpOp)(a b:Expr)(t:TE):Prop:=
 ∀(za:AO) (s:Sh) (σ:St) (H:Hp) (Q:VK),Inv X za σ H s->t σ H Q->
  wpAny (model X.prog X.w) X.A (eval a X.env) (fun v s₁=>wpAny (model X.prog X.w) X.A (eval b X.env) (fun u s₂=>wpAny (model X.prog X.w) X.A (compareOp op v u) (EP X za σ Q) X.xe s₂) X.xe s₁) X.xe s
theorem c0m(b:Expr){op:CmpOp}(h:op≠ .In)(h2:op≠ .NotIn):behindInMarks op b=false:=by
 have e1:(op==CmpOp.In)=false:=by cases op<;>first|rfl|exact wC rfl h
 have e2:(op==CmpOp.NotIn)=false:=by cases op<;>first|rfl|exact wC rfl h2
 cases b<;>simp[behindInMarks,e1,e2]
def tB(t:TE):TT:=fun σ H Q=>t σ H fun x H1=> ∃c,x= .bl c/\Q c H1
theorem d7l{op:CmpOp}{t:TE}(h:PC X op a b t)(h1:behindInMarks op b=false:=by first|exact c0m _ (by decide) (by decide)|rfl):PE X (.Compare a [op] [b] pos) t:=fun za s σ H Q I hw=>wpAny_Compare1 (h za s σ H Q I hw) h1
theorem b3e{op:CmpOp}{t:TE}(h:PC X op a b t)(h1:behindInMarks op b=false:=by first|exact c0m _ (by decide) (by decide)|rfl):PT X (.Compare a [op] [b] pos) (tB t):=by
 intro za s σ H Q I hw;refine wpAny_isTrue_Compare1 (thn (h za s σ H _ I hw) fun v s1 h1=>thn h1 fun u s2 h2=>thn h2 fun c s3 ⟨x,H1,I1,r1,q1⟩=>?_) h1;obtain⟨d,rfl,q⟩:=q1;cases r1;exact a4U ⟨H1,I1,q⟩
theorem b3f{e:Expr}{t:TE}(h:PE X e t)(he: ∀whole,isTrue e X.env whole=(do let v <-whole;standAt e.pos;holding [v] (truthy v)):=by intro _;rfl):PT X e (tB t):=by
 intro za s σ H Q I hw;refine isTrue_plain (thn (h za s σ H _ I hw) fun v s1 ⟨x,H1,I1,r1,q1⟩=>?_) (he _);obtain⟨d,rfl,q⟩:=q1;cases r1;exact a4U ⟨H1,I1,q⟩
variable{tA tB':TT}{rest:List Expr}
def tAnd(t u:TT):TT:=fun σ H Q=>t σ H fun c H1=>if c=true then u σ H1 Q else Q false H1
def tNot(t:TT):TT:=fun σ H Q=>t σ H fun c H1=>Q (!c) H1
theorem a8t(ha:PT X a tA):PW X (.BoolOp .And [a] pos) tA:=by
 intro wh za s σ H Q I h;refine isTrue_and (thn (ha za s σ H Q I h) fun c s1 e=>?_);cases c with
 |true=>exact isTrue_and_nil e
 |false=>exact e
theorem b3g(ha:PT X a tA)(hb:PW X (.BoolOp .And (b::rest) pos) tB'):PW X (.BoolOp .And (a::b::rest) pos) (tAnd tA tB'):=by
 intro wh za s σ H Q I h;refine isTrue_and (thn (ha za s σ H _ I h) fun c s1 ⟨H1,I1,q1⟩=>?_);cases c with
 |true=>exact hb wh za s1 σ H1 Q I1 q1
 |false=>exact⟨H1,I1,q1⟩
theorem d3h(ha:PT X a tA):PT X (.UnaryOp .Not a pos) (tNot tA):=by
 intro za s σ H Q I h;exact isTrue_not (ha za s σ H (fun c H1=>Q (!c) H1) I h)
def tAndV(ta tb:TE):TE:=fun σ H Q=>ta σ H fun x H1=> ∃c,x= .bl c/\if c=true then tb σ H1 Q else Q (.bl false) H1
theorem d3i{op}{t:TE}(h:PE X a t):PE X (.BoolOp op [a] pos) t:=fun za s σ H Q I hw=>BoolOp_one (h za s σ H Q I hw)
theorem d3j(ha:PE X a ta)(hb:PE X (.BoolOp .And (b::rest) pos) tb):PE X (.BoolOp .And (a::b::rest) pos) (tAndV ta tb):=by
 intro za s σ H Q I h;refine BoolOp_and (thn (ha za s σ H _ I h) fun v s1 ⟨x,H1,I1,r1,q1⟩=>?_);obtain⟨c,rfl,q1⟩:=q1;cases r1;refine a4U ?_;cases c with
 |true=>exact hb za s1 σ H1 Q I1 q1
 |false=>exact⟨.bl false,H1,I1,rfl,q1⟩
end
def SqL(K:W.Frag)(H:Hp)(a:Ad)(xs:List V):Prop:=
 Rd H a (.lst xs)∨
  ∃(o:Obj) (its:AV) (n:Nat),K.lookup a=some o/\o.cls= .type "list"/\o.dict=none/\o.data= .seq its n/\its.size<=sizeLine/\Vals xs its.toList
def SqT(K:W.Frag)(H:Hp)(a:Ad)(xs:List V):Prop:=
 Rd H a (.tup xs)∨
  ∃(o:Obj) (its:AV) (n:Nat),K.lookup a=some o/\o.cls= .type "tuple"/\o.data= .seq its n/\its.size<=sizeLine/\Vals xs its.toList
def absV:Vl->Option V
 | .none=>some .non
 | .bool b=>some (.bl b)
 | .int i _=>some (.int i)
 | .str x _=>some (.str x)
 | .bytes b _=>some (.byt b)
 | .float b _=>some (.flt b)
 | .ref a=>some (.ref a)
 | .type n=>some (.ty n)
 |_=>none
theorem RelV.abs{x:V}{u:Vl}(r:RelV x u):absV u=some x:=by
 cases x with
 |non=>cases r;rfl
 |bl _=>cases r;rfl
 |int _=>obtain⟨t,rfl⟩:=r;rfl
 |str _=>obtain⟨t,rfl⟩:=r;rfl
 |byt _=>obtain⟨t,rfl⟩:=r;rfl
 |flt _=>obtain⟨t,rfl⟩:=r;rfl
 |ref _=>cases r;rfl
 |ty _=>cases r;rfl
theorem RelV.inj{x y:V}{u:Vl}(r:RelV x u)(q:RelV y u):x=y:=a1X (r.abs.symm.trans q.abs)
theorem Vals.inj: ∀{xs ys:List V} {us:Vs},Vals xs us->Vals ys us->xs=ys
 |_,_,_,.nil,.nil=>rfl
 |_,_,_,.cons r t,.cons r' t'=>by rw[r.inj r',Vals.inj t t']
section
variable{X:Cx}{za:AO}{σ:St}{H:Hp}{s:Sh}{a:Ad}{xs ys:List V}
theorem SqL.of{K:W.Frag}(h:H a=some (.lst xs)):SqL K H a xs:= .inl (.inl h)
theorem SqT.of{K:W.Frag}(h:H a=some (.tup xs)):SqT K H a xs:= .inl (.inl h)
theorem Inv.list(I:Inv X za σ H s)(h:SqL X.K H a xs): ∃its:Vs,Vals xs its/\PlainL s.heap a its.toArray/\xs.length<=sizeLine:=by
 rcases h with h|⟨o,its,n,hk,hc,hd,hs,hz,r⟩
 ·obtain⟨z,its,n,r,e⟩:=h.ok I.hok;exact⟨its,r,⟨_,n,e,rfl,rfl,rfl⟩,z⟩
 ·refine⟨its.toList,r,⟨o,n,I.kIn a o hk,hc,hd,by simpa using hs⟩,?_⟩;have e:=r.length;simp only[Array.length_toList]at e;lia
theorem Inv.tuple(I:Inv X za σ H s)(h:SqT X.K H a xs): ∃its:Vs,Vals xs its/\IsTup s.heap a its.toArray/\xs.length<=sizeLine:=by
 rcases h with h|⟨o,its,n,hk,hc,hs,hz,r⟩
 ·obtain⟨z,its,r,p⟩:=h.ok I.hok;exact⟨its,r,p.is,z⟩
 ·refine⟨its.toList,r,⟨o,I.kIn a o hk,hc,n,by simpa using hs⟩,?_⟩;have e:=r.length;simp only[Array.length_toList]at e;lia
theorem Inv.list_inj(I:Inv X za σ H s)(h:SqL X.K H a xs)(h':SqL X.K H a ys):xs=ys:=by
 obtain⟨its,r,⟨o,n,e,_,_,d⟩,_⟩:=I.list h;obtain⟨its',r',⟨o',n',e',_,_,d'⟩,_⟩:=I.list h';rw[e]at e';cases e';rw[d]at d';injection d' with d1 _
 have:its=its':=by simpa using congrArg Array.toList d1
 subst this;exact r.inj r'
theorem Inv.tuple_inj(I:Inv X za σ H s)(h:SqT X.K H a xs)(h':SqT X.K H a ys):xs=ys:=by
 obtain⟨its,r,⟨o,e,_,n,d⟩,_⟩:=I.tuple h;obtain⟨its',r',⟨o',e',_,n',d'⟩,_⟩:=I.tuple h';rw[e]at e';cases e';rw[d]at d';injection d' with d1 _
 have:its=its':=by simpa using congrArg Array.toList d1
 subst this;exact r.inj r'
end
abbrev Cx.wish(X:Cx)(E:VP):Cx:={X with xe:=E}
abbrev Cx.nox(X:Cx):Cx:=X.wish fun _ _=>False
theorem Cx.Ok.wish{X:Cx}(ok:X.Ok)(E:VP):(X.wish E).Ok:=
 ⟨ok.mod,ok.kind,ok.glob,ok.blt,ok.above,ok.inj,ok.has,ok.cab,ok.hd,ok.frames,ok.stk,ok.exf,ok.bs,ok.bsz,ok.noex,ok.exfs,ok.funs,ok.frf⟩
theorem Cx.Ok.unwish{X:Cx}{E:VP}(ok:(X.wish E).Ok):X.Ok:=
 ⟨ok.mod,ok.kind,ok.glob,ok.blt,ok.above,ok.inj,ok.has,ok.cab,ok.hd,ok.frames,ok.stk,ok.exf,ok.bs,ok.bsz,ok.noex,ok.exfs,ok.funs,ok.frf⟩
section
variable{X:Cx}{za:AO}{σ:St}{H:Hp}{s:Sh}{E:VP}
theorem Inv.wish(I:Inv X za σ H s)(E:VP):Inv (X.wish E) za σ H s:=⟨I.ok.wish E,I.os,I.bare,I.base,I.loc,I.cell,I.free,I.freeC,I.pin,I.hok,I.len⟩
theorem Inv.unwish(I:Inv (X.wish E) za σ H s):Inv X za σ H s:=⟨I.ok.unwish,I.os,I.bare,I.base,I.loc,I.cell,I.free,I.freeC,I.pin,I.hok,I.len⟩
theorem SP.unwish{D:Ends}{f:Flow}{s':Sh}(h:SP (X.wish E) za D f s'):SP X za D f s':=by
 cases f with
 |next=>obtain⟨σ',H',I,q⟩:=h;exact⟨σ',H',I.unwish,q⟩
 |brk=>obtain⟨σ',H',I,q⟩:=h;exact⟨σ',H',I.unwish,q⟩
 |cont=>obtain⟨σ',H',I,q⟩:=h;exact⟨σ',H',I.unwish,q⟩
 |ret u=>obtain⟨v,σ',H',I,r,q⟩:=h;exact⟨v,σ',H',I.unwish,r,q⟩
theorem PSs.nox{st:List Stmt}{t:TS}(h:PSs X.nox st t):PSs X st t:=fun za s σ H D I hw=>
 a3Q (h za s σ H D (I.wish _) hw) (fun _ _ q=>q.unwish) fun _ _ z=>wE z
end
section
variable{X:Cx}{st:Stmt}{rest:List Stmt}{t u:TS}{e:Expr}{te:TE}{pos:Pos}
def d7m:TS:=fun D σ H=>D.nx σ H
def d0i(t u:TS):TS:=fun D σ H=>t {D with nx:=u D} σ H
theorem a1v:PSs X [] d7m:=fun _ _ σ H _ I h=>a9C ⟨σ,H,I,h⟩
theorem a0d(h1:PS X st t)(h2:PSs X rest u):PSs X (st::rest) (d0i t u):=by
 intro za s σ H D I h;refine wpAny_execs_cons (thn (h1 za s σ H {D with nx:=u D} I h) fun f s1 q=>?_);cases f with
 |next=>
  obtain⟨σ',H',I',q⟩:=q;exact h2 za s1 σ' H' D I' q
 |ret v=>exact q
 |brk=>exact q
 |cont=>exact q
theorem a0h(h1:PS X st t):PSs X [st] t:=by
 intro za s σ H D I h;refine wpAny_execs_cons (thn (h1 za s σ H D I h) fun f s1 q=>?_);cases f with
 |next=>exact a9C q
 |ret v=>exact q
 |brk=>exact q
 |cont=>exact q
theorem Inv.quiet{za:AO}{σ:St}{H:Hp}{s:Sh}(I:Inv X za σ H s):interactive X.env=false:=by simp[interactive,I.ok.kind]
def d0l(te:TE):TS:=fun D σ H=>te σ H fun _ H1=>D.nx σ H1
theorem a3f(he:PE X e te)(hs:swapsWith e none pos.line X.env=pure false:=by rfl):PS X (.Expr e pos) (d0l te):=by
 intro za s σ H D I h;exact wpAny_Expr_any (thn (he za s σ H _ I h) fun v s1 ⟨x,H1,I1,r1,q1⟩=>⟨σ,H1,I1,q1⟩) I.quiet hs
def tRet(te:TE):TS:=fun D σ H=>te σ H D.rt
theorem a0s(he:PE X e te):PS X (.Return (some e) pos) (tRet te):=by
 intro za s σ H D I h;exact wpAny_Return_some (thn (he za s σ H _ I h) fun v s1 ⟨x,H1,I1,r1,q1⟩=>⟨x,σ,H1,I1,r1,q1⟩)
def tIfS(c:TT)(t u:TS):TS:=fun D σ H=>c σ H fun b H1=>if b=true then t D σ H1 else u D σ H1
theorem a4l{c:Expr}{a b:List Stmt}{tc:TT}(hc:PT X c tc)(ha:PSs X a t)(hb:PSs X b u):PS X (.If c a b pos) (tIfS tc t u):=by
 intro za s σ H D I h;refine wpAny_If (thn (hc za s σ H _ I h) fun d s1 ⟨H1,I1,q1⟩=>?_);cases d with
 |true=>exact ha za s1 σ H1 D I1 q1
 |false=>exact hb za s1 σ H1 D I1 q1
def d7n:TS:=fun _ _ _=>False
theorem d0m:PS X st d7n:=fun _ _ _ _ _ _ h=>h.elim
end
abbrev TG:=V->St->Hp->(St->Hp->Prop)->Prop
abbrev TGs:=List V->St->Hp->(St->Hp->Prop)->Prop
def PG(X:Cx)(target:Expr)(t:TG):Prop:=
 ∀(za:AO) (s:Sh) (σ:St) (H:Hp) (v:V) (u:Vl) (Q:St->Hp->Prop),Inv X za σ H s->RelV v u->t v σ H Q->
  wpAny (model X.prog X.w) X.A (assign target X.env u) (fun _ s'=> ∃σ' H',Inv X za σ' H' s'/\Q σ' H') X.xe s
def PGs(X:Cx)(ts:List Expr)(t:TGs):Prop:=
 ∀(za:AO) (s:Sh) (σ:St) (H:Hp) (vs:List V) (us:Vs) (Q:St->Hp->Prop),Inv X za σ H s->Vals vs us->t vs σ H Q->
  wpAny (model X.prog X.w) X.A (assignInOrder ((assignEach ts X.env).map (·.2)) us) (fun _ s'=> ∃σ' H',Inv X za σ' H' s'/\Q σ' H') X.xe s
abbrev TSet:=V->V->V->Hp->(Hp->Prop)->Prop
def PSet(X:Cx)(t:TSet):Prop:=
 ∀(za:AO) (s:Sh) (σ:St) (H:Hp) (o i v:V) (ov iv u:Vl) (Q:Hp->Prop),Inv X za σ H s->RelV o ov->RelV i iv->RelV v u->t o i v H Q->
  wpAny (model X.prog X.w) X.A (setItem ov iv u) (fun _ s'=> ∃H',Inv X za σ H' s'/\Q H') X.xe s
abbrev TIp:=V->V->Hp->VK->Prop
def PIp(X:Cx)(op:Operator)(t:TIp):Prop:=
 ∀(za:AO) (s:Sh) (σ:St) (H:Hp) (x y:V) (v u:Vl) (Q:VK),Inv X za σ H s->RelV x v->RelV y u->t x y H Q->
  wpAny (model X.prog X.w) X.A (inplaceOp op v u) (EP X za σ Q) X.xe s
section
variable{X:Cx}{pos:Pos}
def a5z(i:Nat):TG:=fun v σ H Q=>Q (σ.set i (some v)) H
theorem a1c{i:Nat}{x:Str}(hN:X.N.Nodup)(hi:X.N[i]? =some x)(hx:Loc X.env.scope x)(hf:X.fn x=true∨X.env.scope.names.lookup x=some .local:=by first|exact .inl rfl|exact .inr rfl|assumption):PG X (.Name x pos) (a5z i):=by
 intro za s σ H v u Q I r h;exact wpAny_assign_Name (b4e I hN hi hx r (fun s' I'=>⟨_,H,I',h⟩) hf)
def gNil:TGs:=fun vs σ H Q=>vs=[]/\Q σ H
def d4u(t:TG)(u:TGs):TGs:=fun vs σ H Q=> ∃v r,vs=v::r/\t v σ H fun σ' H'=>u r σ' H' Q
theorem a8u:PGs X [] gNil:=by
 intro za s σ H vs us Q I r h;obtain⟨e,h⟩:=h;subst e;cases r;exact assignInOrder_nil ⟨σ,H,I,h⟩
theorem a2m{e:Expr}{es:List Expr}{t:TG}{u:TGs}(h1:PG X e t)(h2:PGs X es u)
  (hs:(assignEach (e::es) X.env).map (·.2)=assign e X.env::(assignEach es X.env).map (·.2):=by rfl):PGs X (e::es) (d4u t u):=by
 intro za s σ H vs us Q I r h;obtain⟨v,vr,e1,h⟩:=h;subst e1;cases r with
 |cons r rr=>
  rw[hs];refine assignInOrder_cons (thn (h1 za s σ H _ _ _ I r h) fun _ s1 ⟨σ1,H1,I1,q1⟩=>?_);exact h2 za s1 σ1 H1 _ _ Q I1 rr q1
def gTup(K:W.Frag)(n:Nat)(t:TGs):TG:=fun v σ H Q=> ∃a xs,v= .ref a/\SqT K H a xs/\xs.length=n/\t xs σ H Q
theorem b3h{es:List Expr}{k:Nat}{t:TGs}{n:Nat}(hc:X.calm=true)(h:PGs X es t)
  (hn:(assignEach es X.env).length=n:=by rfl) (hst:(assignEach es X.env).findIdx? (·.1)=none:=by rfl):PG X (.Tuple es k pos) (gTup X.K n t):=by
 intro za s σ H v u Q I r hw;obtain⟨a,xs,e1,hq,hl,hw⟩:=hw;subst e1;cases r;obtain⟨its,rv,ht,hz⟩:=I.tuple hq;refine assign_Tuple_tuple (I.ok.hd hc) ht (by simp[hn,<-hl,rv.length]) hst fun h' hx=>?_;have I1:Inv X za σ H {s with heap:=h'}:=I.kept (t':=s.toks) fun b o e=>hx b o (a1M (a0U e)) e;exact h za _ σ H xs _ Q I1 (by simpa using rv) hw
def gSub(to ti:TE)(t:TSet):TG:=fun v σ H Q=>to σ H fun o H1=>ti σ H1 fun i H2=>t o i v H2 fun H3=>Q σ H3
theorem c0n{o i:Expr}{to ti:TE}{t:TSet}(ho:PE X o to)(hi:PE X i ti)(hs:PSet X t)
  (ha: ∀v,assign (.Subscript o i pos) X.env v=(do
   let ov <-holding [v] (eval o X.env)
   let iv <-holding [v,ov] (eval i X.env)
   standAt pos
   holding [v,ov,iv] (setItem ov iv v)
   release [v,ov,iv] []):=by intro _;rfl):PG X (.Subscript o i pos) (gSub to ti t):=by
 intro za s σ H v u Q I r h;rw[ha];refine a0D (a2T (thn (ho za s σ H _ I h) fun ov s1 ⟨x,H1,I1,r1,q1⟩=>?_));refine a0D (a2T (thn (hi za s1 σ H1 _ I1 q1) fun iv s2 ⟨y,H2,I2,r2,q2⟩=>?_));refine a0D (a9X (a0D (a2T (thn (hs za s2 σ H2 x y v ov iv u _ I2 r1 r2 r q2) fun _ s3 ⟨H3,I3,q3⟩=>?_))));exact wpAny_release ⟨σ,H3,I3,q3⟩
def d0n(te:TE)(g:TG):TS:=fun D σ H=>te σ H fun x H1=>g x σ H1 D.nx
theorem c0o{tg e:Expr}{te:TE}{g:TG}(he:PE X e te)(hg:PG X tg g)(hs:swapsWithSole [tg] e pos.line X.env=pure false:=by rfl)(hw:swappedStores [tg] e X.env=pure none:=by rfl)
  (h1:(assignEach [tg] X.env).map (·.2)=[assign tg X.env]:=by rfl):PS X (.Assign [tg] e pos) (d0n te g):=by
 intro za s σ H D I h;refine wpAny_Assign_stores (thn (he za s σ H _ I h) fun v s1 ⟨x,H1,I1,r1,q1⟩=>?_) hs hw;rw[h1];exact thn (hg za s1 σ H1 x v _ I1 r1 q1) fun _ s2 q=>q
theorem a0p{i:Nat}{x:Str}{e:Expr}{te:TE}{pos':Pos}(hN:X.N.Nodup)(hi:X.N[i]? =some x)(hx:Loc X.env.scope x)(he:PE X e te)(hs:swapsWith e (some (.Name x pos')) pos.line X.env=pure false:=by rfl)(hf:X.fn x=true∨X.env.scope.names.lookup x=some .local:=by first|exact .inl rfl|exact .inr rfl|assumption):
  PS X (.Assign [.Name x pos'] e pos) (d0n te (a5z i)):=by
 intro za s σ H D I h;refine wpAny_Assign_Name (thn (he za s σ H _ I h) fun v s1 ⟨y,H1,I1,r1,q1⟩=>?_) hs;exact b4e I1 hN hi hx r1 (fun s2 I2=>⟨_,H1,I2,q1⟩) hf
def tAug(i:Nat)(te:TE)(ti:TIp):TS:=fun D σ H=> ∃x,σ[i]? =some (some x)/\te σ H fun y H1=>ti x y H1 fun z H2=>D.nx (σ.set i (some z)) H2
theorem d3k{i:Nat}{x:Str}{e:Expr}{te:TE}{op:Operator}{ti:TIp}{pos':Pos}(hN:X.N.Nodup)(hi:X.N[i]? =some x)(hx:Loc X.env.scope x)(he:PE X e te)(ho:PIp X op ti)(hf:X.fn x=true∨X.env.scope.names.lookup x=some .local:=by first|exact .inl rfl|exact .inr rfl|assumption):
  PS X (.AugAssign (.Name x pos') op e pos) (tAug i te ti):=by
 intro za s σ H D I h;obtain⟨v,e1,h⟩:=h;obtain⟨m,hn,hl⟩:=I.loc;have vis:Vis X.env.scope x:=by rcases hx with k|k;exact .inl k;exact .inr (.inl k)
 obtain⟨u,r,l⟩:=hl i x v hi e1 vis;refine wpAny_AugAssign_Name ?_;have go:wpAny (model X.prog X.w) X.A (eval e X.env) (fun w s₂=>wpAny (model X.prog X.w) X.A (inplaceOp op u w) (fun r s₃=>wpAny (model X.prog X.w) X.A (storeName X.env x r) (fun _=>SP X za D .next) X.xe s₃) X.xe s₂) X.xe s:=by
  refine thn (he za s σ H _ I h) fun w s1 ⟨y,H1,I1,r1,q1⟩=>?_;refine thn (ho za s1 σ H1 v y u w _ I1 r r1 q1) fun z s2 ⟨zv,H2,I2,r2,q2⟩=>?_;exact b4e I2 hN hi hx r2 (fun s3 I3=>⟨_,H2,I3,q2⟩) hf
 rcases l with⟨hk,hm⟩|⟨hk,c,hc,hcell⟩
 ·exact wpAny_loadName_local I.ok.kind hk hn hm go
 ·rcases hk with hk|hk
  ·exact wpAny_loadName_cell I.ok.kind hk hc hcell go
  ·rcases hx with k|k
   ·have:X.env.scope.names.lookup x=some .free:=hk;rw[k]at this;cases this
   ·have:X.env.scope.names.lookup x=some .free:=hk;rw[k]at this;cases this
def ipI(f:Int->Int->Int):TIp:=fun x y H Q=> ∃i j,x= .int i/\y= .int j/\Q (.int (f i j)) H
theorem d3l:PIp X .Add (ipI fun i j=>i+j):=by
 intro za s σ H x y v u Q I r1 r2 h;obtain⟨i,j,e1,e2,q⟩:=h;subst e1;subst e2;obtain⟨t,rfl⟩:=r1;obtain⟨t',rfl⟩:=r2;exact iadd_int ⟨.int _,H,I.tok _,⟨_,rfl⟩,q⟩
end
section
variable{X:Cx}{pos:Pos}
def d3m(c:TT)(tb:TS):TS:=fun D σ H=> ∃W:Nat->St->Hp->Prop,(∃m,W m σ H)/\ ∀m σ H,W m σ H->
 c σ H fun b H1=>if b=true then ∃N:St->Hp->Prop,(∀σ' H',N σ' H'-> ∃m',m'<m/\W m' σ' H')/\tb {D with nx:=N,ct:=N,bk:=D.nx} σ H1 else D.nx σ H1
theorem c0p{c:Expr}{body:List Stmt}{tc:TT}{tb:TS}(hp:PassesOwn (model X.prog X.w) X.A X.env X.xe)(hc:PT X c tc)(hb:PSs X body tb):PS X (.While c body [] pos) (d3m tc tb):=by
 intro za s σ H D I h;obtain⟨W,⟨m0,w0⟩,turn⟩:=h;refine wpAny_While (codeAny_whileLoop (fun n s'=> ∃σ' H',Inv X za σ' H' s'/\W n σ' H') ?_ m0 ⟨σ,H,I,w0⟩);rintro n s1 ⟨σ1,H1,I1,w1⟩;refine a5J hp (thn (hc za s1 σ1 H1 _ I1 (turn n σ1 H1 w1)) fun b s2 ⟨H2,I2,q2⟩=>?_);cases b with
 | true=>
  obtain⟨N,hN,q2⟩:=q2;rw[wB rfl];refine a5J hp (thn (hb za s2 σ1 H2 _ I2 q2) fun f s3 q3=>?_);cases f with
  |next=>
   obtain⟨σ3,H3,I3,n3⟩:=q3;obtain⟨m',hm,w3⟩:=hN σ3 H3 n3;exact⟨m',hm,σ3,H3,I3,w3⟩
  |cont=>
   obtain⟨σ3,H3,I3,n3⟩:=q3;obtain⟨m',hm,w3⟩:=hN σ3 H3 n3;exact⟨m',hm,σ3,H3,I3,w3⟩
  |brk=>exact q3
  |ret v=>exact q3
 |false=>
  rw[wA a1H];exact a9C ⟨σ1,H2,I2,q2⟩
end
structure It where
 go:Nat->Hp->Prop
 yld:Nat->Hp->V->Hp->Prop
 stop:Nat->Hp->Prop
def FpOk(X:Cx)(za:AO)(H:Hp)(b:Ad):Prop:=
 H b=none/\b≠X.env.locals/\b∉X.fs/\(b∈X.ex∨X.s₀.heap.objs.size<=b)/\(∀x c,X.env.cells.lookup x=some c->c≠b)/\ ∀p∈X.pn++za,p.1≠b
theorem Inv.fpOk{X:Cx}{za:AO}{σ:St}{H H':Hp}{s:Sh}{b:Ad}(I:Inv X za σ H s)(hb:s.heap.objs.size<=b)(hn:H' b=none):FpOk X za H' b:=by
 refine⟨hn,a5A (a1N I.lt hb),I.nofs hb,.inr (a1C I.sz hb),fun x c e z=>?_,fun p hp z=>?_⟩
 ·obtain⟨v,q⟩:=I.cell x c e;exact wC (a1N q.lt (by rw[z];exact hb)) (a4G _)
 ·exact wC (a1N (a0U (I.pin p hp).1) (by rw[z];exact hb)) (a4G _)
structure Turn(P:Pg)(w:World)(K:W.Frag)(tg:Expr)(J:It)(fp:As)(it:Ad)(tn:Nat->Heap->Prop):Prop where
 mem:it∈fp
 obj: ∀i h,tn i h-> ∀b∈fp,∃o,h.get? b=some o/\ ∀v,o.data≠ .cell v
 keep: ∀i h h',tn i h->(∀b∈fp,∀o,h.get? b=some o->h'.get? b=some o)->tn i h'
 item: ∀(X:Cx),X.prog=P->X.w=w->X.K=K->X.calm=true-> ∀(i:Nat) (za:AO) (s:Sh) (σ:St) (H:Hp) (E:VP),Inv X za σ H s->(∀b∈fp,FpOk X za H b)->tn i s.heap->J.go i H->
  wpAny (model P w) X.A (pyNext (.ref it)) (fun r s1=> ∃u,r=some u/\
   wpAny (model P w) X.A (letOwnedTupleGo tg (.ref it) u) (fun _ s2=> ∃x H',Inv X za σ H' s2/\RelV x u/\J.yld i H x H'/\tn (i+1) s2.heap/\ ∀b∈fp,H' b=none) E s1) E s
 done: ∀(X:Cx),X.prog=P->X.w=w->X.K=K->X.calm=true-> ∀(i:Nat) (za:AO) (s:Sh) (σ:St) (H:Hp) (E:VP),Inv X za σ H s->(∀b∈fp,FpOk X za H b)->tn i s.heap->J.stop i H->
  wpAny (model P w) X.A (pyNext (.ref it)) (fun r s1=>r=none/\Inv X za σ H s1) E s
 self: ∀(A:Ar) (i:Nat) (s:Sh) (Q:VP) (E:VP),tn i s.heap->Q (.ref it) s->wpAny (model P w) A (pyIter (.ref it)) Q E s
abbrev TI:=St->Hp->(It->Hp->Prop)->Prop
def PIE(X:Cx)(za:AO)(σ:St)(tg:Expr)(R:It->Hp->Prop)(itv:Vl)(s2:Sh):Prop:=
 ∃(it:Ad) (fp:As) (tn:Nat->Heap->Prop) (J:It) (H':Hp),itv= .ref it/\Inv X za σ H' s2/\Turn X.prog X.w X.K tg J fp it tn/\tn 0 s2.heap/\(∀b∈fp,FpOk X za H' b)/\R J H'
def PI(X:Cx)(tg iter:Expr)(wi:TI):Prop:=
 ∀(za:AO) (s:Sh) (σ:St) (H:Hp) (R:It->Hp->Prop),Inv X za σ H s->wi σ H R->
  wpAny (model X.prog X.w) X.A (eval iter X.env) (fun v s1=>wpAny (model X.prog X.w) X.A (pyIter v) (PIE X za σ tg R) X.xe s1) X.xe s
theorem d0o{M:Model}{A:Ar}{E:VP}{s:Sh}{tg:Expr}{it:Ad}{u:Vl}{o:Obj}{n:String}{vs:AV}{Q:Unit->Sh->Prop}(ho:s.heap.get? it=some o)(hc:o.cls= .type n)(hd:o.data= .fields vs)
    (hn:["enumerate","zip","dict_itemiterator","dict_reverseitemiterator","odict_iterator","itertools.zip_longest","itertools.pairwise"].contains n=false) (hQ:Q () s):wpAny M A (letOwnedTupleGo tg (.ref it) u) Q E s:=by
  unfold letOwnedTupleGo;cases tg<;>first
    |exact a0G hQ
    |(cases u<;>first
        |exact a0G hQ
        | (refine a0D (wpAny_load ho ?_)
           rw[hc,hd];show wpAny M A (if(["enumerate","zip","dict_itemiterator","dict_reverseitemiterator","odict_iterator","itertools.zip_longest","itertools.pairwise"].contains n&&vs[0]? ==some (rawInt _))=true then _ else _) Q E s
           rw[wA (by intro h;rw[hn,a9U]at h;cases h)];exact a0G hQ))
def Itl(K:W.Frag)(a:Ad):It:=
 ⟨fun i H=> ∃xs x,SqL K H a xs/\xs[i]? =some x,fun i H x H'=>H'=H/\ ∀xs,SqL K H a xs->xs[i]? =some x,fun i H=> ∃xs,SqL K H a xs/\xs.length<=i⟩
def Itt(K:W.Frag)(a:Ad):It:=
 ⟨fun i H=> ∃xs x,SqT K H a xs/\xs[i]? =some x,fun i H x H'=>H'=H/\ ∀xs,SqT K H a xs->xs[i]? =some x,fun i H=> ∃xs,SqT K H a xs/\xs.length<=i⟩
def Itr(lo:Int)(n:Nat):It:=⟨fun i _=>i<n,fun i H x H'=>H'=H/\x= .int (lo+i),fun i _=>n<=i⟩
theorem c5b{P:Pg}{w:World}{K:W.Frag}{tg:Expr}(a it:Ad):Turn P w K tg (Itl K a) [it] it (fun i h=>h.IsListIter it a i) where
 mem:=by simp
 obj:=fun i h st b hb=>by
  have e:b=it:=by simpa using hb
  subst e;obtain⟨o,e,c,d⟩:=st;exact⟨o,e,fun v z=>by rw[d]at z;cases z⟩
 keep:=fun i h h' st k=>st.at fun o e=>k it (by simp) o e
 item:=by
  intro X hP hw hK hc i za s σ H E I hf st hg;subst hP hw hK;obtain⟨xs,x,hq,hx⟩:=hg;obtain⟨its,rv,p,hz⟩:=I.list hq;obtain⟨u,hu,ru⟩:=rv.get hx;obtain⟨f0,f1,f2,f3,f4,f5⟩:=hf it (by simp);refine wpAny_pyNext_list_item st p.isList (x:=u) (by simpa using hu) fun h' st' sb=>?_;have I1:Inv X za σ H {s with heap:=h'}:=I.turned (t':=s.toks) (fun b o hb e=>(sb.2 b hb).trans e) f0 f1 f3 f4 f5;obtain⟨o,e,c,d⟩:=id st';exact⟨u,rfl,d0o (s:={s with heap:=h'}) e c d (by decide) ⟨x,H,I1,ru,⟨rfl,fun ys hy=>by rw[I.list_inj hy hq];exact hx⟩,st',fun b hb=>(hf b hb).1⟩⟩
 done:=by
  intro X hP hw hK hc i za s σ H E I hf st hg;subst hP hw hK;obtain⟨xs,hq,hx⟩:=hg;obtain⟨its,rv,p,hz⟩:=I.list hq;obtain⟨f0,f1,f2,f3,f4,f5⟩:=hf it (by simp);have hl:=rv.length;exact wpAny_pyNext_list_end (I.ok.hd hc) st p.isList (by simp;lia) fun h' eb=>⟨rfl,I.turned (t':=s.toks) (fun b o hb e=>eb b o hb e) f0 f1 f3 f4 f5⟩
 self:=fun _ _ _ _ _ st h=>wpAny_pyIter_listiter st h
theorem c2x{P:Pg}{w:World}{K:W.Frag}{tg:Expr}(a it:Ad):Turn P w K tg (Itt K a) [it] it (fun i h=>h.IsTupleIter it a i) where
 mem:=by simp
 obj:=fun i h st b hb=>by
  have e:b=it:=by simpa using hb
  subst e;obtain⟨o,e,c,d⟩:=st;exact⟨o,e,fun v z=>by rw[d]at z;cases z⟩
 keep:=fun i h h' st k=>st.at fun o e=>k it (by simp) o e
 item:=by
  intro X hP hw hK hc i za s σ H E I hf st hg;subst hP hw hK;obtain⟨xs,x,hq,hx⟩:=hg;obtain⟨its,rv,p,hz⟩:=I.tuple hq;obtain⟨u,hu,ru⟩:=rv.get hx;obtain⟨f0,f1,f2,f3,f4,f5⟩:=hf it (by simp);refine wpAny_pyNext_tuple_item st (show s.heap.IsTuple a its.toArray from p) (x:=u) (by simpa using hu) fun h' st' sb=>?_;have I1:Inv X za σ H {s with heap:=h'}:=I.turned (t':=s.toks) (fun b o hb e=>(sb.2 b hb).trans e) f0 f1 f3 f4 f5;obtain⟨o,e,c,d⟩:=id st';exact⟨u,rfl,d0o (s:={s with heap:=h'}) e c d (by decide) ⟨x,H,I1,ru,⟨rfl,fun ys hy=>by rw[I.tuple_inj hy hq];exact hx⟩,st',fun b hb=>(hf b hb).1⟩⟩
 done:=by
  intro X hP hw hK hc i za s σ H E I hf st hg;subst hP hw hK;obtain⟨xs,hq,hx⟩:=hg;obtain⟨its,rv,p,hz⟩:=I.tuple hq;obtain⟨f0,f1,f2,f3,f4,f5⟩:=hf it (by simp);have hl:=rv.length;exact wpAny_pyNext_tuple_end (I.ok.hd hc) st (show s.heap.IsTuple a its.toArray from p) (by simp;lia) fun h' eb=>⟨rfl,I.turned (t':=s.toks) (fun b o hb e=>eb b o hb e) f0 f1 f3 f4 f5⟩
 self:=fun _ _ _ _ _ st h=>wpAny_pyIter_tupleiter st h
theorem c2y{P:Pg}{w:World}{K:W.Frag}{tg:Expr}(it:Ad)(lo:Int)(n:Nat):Turn P w K tg (Itr lo n) [it] it (fun i h=>IsRangeIter h it (lo+(i:Nat) * 1) ((n:Int)-(i:Nat)) 1) where
 mem:=by simp
 obj:=fun i h st b hb=>by
  have e:b=it:=by simpa using hb
  subst e;exact⟨_,st,fun v z=>by
   have z':Data.fields _=Data.cell v:=z;cases z'⟩
 keep:=fun i h h' st k=>k it (by simp) _ st
 item:=by
  intro X hP hw hK hc i za s σ H E I hf st hg;subst hP hw hK;obtain⟨f0,f1,f2,f3,f4,f5⟩:=hf it (by simp);have W:=Walks.range (prog:=X.prog) (w:=X.w) (I.ok.hd hc) it lo 1 n;refine W.item i s _ _ hg st fun v h' tk hv st' kk=>?_;obtain⟨t,rfl⟩:=hv;have I1:Inv X za σ H {s with heap:=h',toks:=tk}:=I.turned (fun b o hb e=>kk b o (by simpa using hb) e) f0 f1 f3 f4 f5;refine⟨_,rfl,d0o (s:={s with heap:=h',toks:=tk}) (n:="range_iterator") st' rfl rfl (by decide) ⟨.int (lo+i),H,I1,⟨t,?_⟩,⟨rfl,rfl⟩,st',fun b hb=>(hf b hb).1⟩⟩;rw[Int.mul_one]
 done:=by
  intro X hP hw hK hc i za s σ H E I hf st hg;subst hP hw hK;obtain⟨f0,f1,f2,f3,f4,f5⟩:=hf it (by simp);exact wpAny_pyNext_range_end (I.ok.hd hc) st (by have:n<=i:=hg;lia) fun h' eb=>⟨rfl,I.turned (t':=s.toks) (fun b o hb e=>eb b o hb e) f0 f1 f3 f4 f5⟩
 self:=fun _ _ _ _ _ st h=>wpAny_pyIter_rangeiter st h
section
variable{X:Cx}{tg:Expr}
def d7o(K:W.Frag)(tl:TE):TI:=fun σ H R=>tl σ H fun x H1=> ∃a,x= .ref a/\(∃xs,SqL K H1 a xs)/\R (Itl K a) H1
def iTup(K:W.Frag)(tl:TE):TI:=fun σ H R=>tl σ H fun x H1=> ∃a,x= .ref a/\(∃xs,SqT K H1 a xs)/\R (Itt K a) H1
theorem a2a{l:Expr}{tl:TE}(hl:PE X l tl):PI X tg l (d7o X.K tl):=by
 intro za s σ H R I h;refine thn (hl za s σ H _ I h) fun v s1 ⟨x,H1,I1,r1,q1⟩=>?_;obtain⟨a,e,⟨xs,hq⟩,q⟩:=q1;subst e;cases r1;obtain⟨its,rv,p,hz⟩:=I1.list hq;refine a8A p.isList ?_;refine⟨s1.heap.objs.size,[s1.heap.objs.size],_,_,H1,rfl,I1.kept (t':=s1.toks) fun b o e=>a0H _ e,c5b a _,⟨_,a0X _ rfl,rfl,rfl⟩,fun b hb=>?_,q⟩;have e:b=s1.heap.objs.size:=by simpa using hb
 subst e;exact I1.fpOk (a0K _) (I1.hok.fresh (a0K _))
theorem c5c{l:Expr}{tl:TE}(hl:PE X l tl):PI X tg l (iTup X.K tl):=by
 intro za s σ H R I h;refine thn (hl za s σ H _ I h) fun v s1 ⟨x,H1,I1,r1,q1⟩=>?_;obtain⟨a,e,⟨xs,hq⟩,q⟩:=q1;subst e;cases r1;obtain⟨its,rv,p,hz⟩:=I1.tuple hq;refine wpAny_pyIter_tuple (show s1.heap.IsTuple a its.toArray from p) ?_;refine⟨s1.heap.objs.size,[s1.heap.objs.size],_,_,H1,rfl,I1.kept (t':=s1.toks) fun b o e=>a0H _ e,c2x a _,⟨_,a0X _ rfl,rfl,rfl⟩,fun b hb=>?_,q⟩;have e:b=s1.heap.objs.size:=by simpa using hb
 subst e;exact I1.fpOk (a0K _) (I1.hok.fresh (a0K _))
theorem d0p{za:AO}{σ:St}{H:Hp}{s:Sh}{R:It->Hp->Prop}{E:VP}{lo hi:Int}{t u v:Tok}{tk:Nat}(I:Inv X za σ H s)(h1: -(2 ^ 62)<=lo)(h2:lo<2 ^ 62)(h3: -(2 ^ 62)<=hi)(h4:hi<2 ^ 62)
  (q:R (Itr lo (hi-lo).toNat) H):wpAny (model X.prog X.w) X.A (pyIter (.ref s.heap.objs.size)) (PIE X za σ tg R) E {s with heap:=s.heap.push {cls:= .type "range",data:= .fields #[.int lo t,.int hi u,.int 1 v]},toks:=tk}:=by
 refine wpAny_pyIter_range (IsRange.new ..) (small_one h1 h2 h3 h4) ?_;have I1:Inv X za σ H {s with heap:=s.heap.push {cls:= .type "range",data:= .fields #[.int lo t,.int hi u,.int 1 v]},toks:=tk}:=I.kept fun b o e=>a0H _ e;refine⟨(s.heap.push {cls:= .type "range",data:= .fields #[.int lo t,.int hi u,.int 1 v]}).objs.size,[(s.heap.push {cls:= .type "range",data:= .fields #[.int lo t,.int hi u,.int 1 v]}).objs.size],_,_,H,rfl,
  I1.kept (t':=tk) fun b o e=>a0H _ e,c2y _ lo (hi-lo).toNat,?_,fun b hb=>?_,q⟩
 ·have e1:lo+((0:Nat):Int) * 1=lo:=by simp
  have e2:(((hi-lo).toNat:Nat):Int)-((0:Nat):Int)=Builtin.Range.rangeSize lo hi 1:=by rw[rangeSize_one];split<;>lia
  show IsRangeIter _ _ (lo+((0:Nat):Int) * 1) ((((hi-lo).toNat:Nat):Int)-((0:Nat):Int)) 1;rw[e1,e2];exact a0X _ rfl
 ·have e:b=(s.heap.push {cls:= .type "range",data:= .fields #[.int lo t,.int hi u,.int 1 v]}).objs.size:=by simpa using hb
  subst e;exact I1.fpOk (a0K _) (I1.hok.fresh (a0K _))
def d7p(ta:TA):TI:=fun σ H R=>ta σ H fun vs H1=> ∃j:Int,vs=[.int j]/\ -(2 ^ 62)<=j/\j<2 ^ 62/\R (Itr 0 j.toNat) H1
theorem a2s{a:Expr}{ta:TA}{p pos:Pos}(hg:Gl X "range")(hm:X.mg "range"=none)(ha:PA X [a] ta)(hs:starEach [a] X.env=[(false,eval a X.env)]:=by rfl):PI X tg (.Call (.Name "range" p) [a] [] pos) (d7p ta):=by
 intro za s σ H R I h;refine Call_ (b3d I hg hm boot_range (a4X (thn (ha pos za s σ H _ I h) fun us s1 ⟨vs,H1,I1,r1,q1⟩=>?_) hs rfl));obtain⟨j,e,q1,q2,q⟩:=q1;subst e;cases r1 with
 |cons r rr=>
  cases rr;obtain⟨t,rfl⟩:=r;exact call_range_1 (d0p I1 (by lia) (by lia) q1 q2 (by simpa using q))
def tFor(wi:TI)(g:TG)(tb:TS):TS:=fun D σ H=>wi σ H fun J H1=> ∃W:Nat->Nat->St->Hp->Prop,(∃m,W 0 m σ H1)/\ ∀i m σ H,W i m σ H->
 (J.stop i H/\D.nx σ H)∨(J.go i H/\ ∃N:St->Hp->Prop,(∀σ' H',N σ' H'-> ∃m',m'<m/\W (i+1) m' σ' H')/\ ∀x H',J.yld i H x H'->g x σ H' fun σ2 H2=>tb {D with nx:=N,ct:=N,bk:=D.nx} σ2 H2)
def b6k(fp:As)(h:Heap):AO:=fp.filterMap fun b=>(h.get? b).map fun o=>(b,o)
theorem a6t{fp:As}{h:Heap}{b:Ad}{o:Obj}(hb:b∈fp)(e:h.get? b=some o):(b,o)∈b6k fp h:=List.mem_filterMap.mpr ⟨b,hb,by rw[e];rfl⟩
theorem c5d{fp:As}{h:Heap}{p:Ad×Obj}(hp:p∈b6k fp h):p.1∈fp/\h.get? p.1=some p.2:=by
 obtain⟨b,hb,e⟩:=List.mem_filterMap.mp hp;cases q:h.get? b with
 |none=>rw[q]at e;cases e
 |some o=>
  rw[q]at e;have e':(b,o)=p:=a1X e;subst e';exact⟨hb,q⟩
theorem Inv.pinned{za:AO}{σ:St}{H:Hp}{s:Sh}{fp:As}(I:Inv X za σ H s)(hf: ∀b∈fp,FpOk X za H b)(ho: ∀b∈fp,∃o,s.heap.get? b=some o/\ ∀v,o.data≠ .cell v):Inv X (za++b6k fp s.heap) σ H s:=
 I.pins_of fun p hp=>(a0Q.mp hp).elim (fun z=>I.pin p (a1E _ z)) fun z=>by
  obtain⟨hb,e⟩:=c5d z;obtain⟨f0,f1,f2,_⟩:=hf p.1 hb;obtain⟨o,e',d⟩:=ho p.1 hb;rw[e]at e';cases e';exact⟨e,f0,f1,f2,d⟩
theorem Inv.unpinned{za pl:AO}{σ:St}{H:Hp}{s:Sh}(I:Inv X (za++pl) σ H s):Inv X za σ H s:=I.pins_of fun p hp=>I.pin p (a1E _ (a3G _ hp))
theorem a3o{iter:Expr}{body:List Stmt}{wi:TI}{g:TG}{tb:TS}{pos:Pos}(hp:PassesOwn (model X.prog X.w) X.A X.env X.xe)(hc:X.calm=true)(hi:PI X tg iter wi)(hg:PG X tg g)(hb:PSs X body tb)
  (hs: ∀x,foldedSetIterable iter X.env x=pure x:=by intro _;rfl):PS X (.For tg iter body [] pos) (tFor wi g tb):=by
 intro za s σ H D I h;refine wpAny_For (thn (hi za s σ H _ I h) fun v s1 h1=>thn h1 fun itv s2 h2=>?_) hs;obtain⟨it,fp,tn,J,H2,e,I2,T,st2,f2,W,⟨m0,w0⟩,turn⟩:=h2;subst e;have stat: ∀{H':Hp},(∀b∈fp,H' b=none)-> ∀b∈fp,FpOk X za H' b:=fun hn b hb=>⟨hn b hb,(f2 b hb).2⟩;refine codeAny_forLoop_any (fun n s'=> ∃i σ' H',Inv X za σ' H' s'/\tn i s'.heap/\(∀b∈fp,H' b=none)/\W i n σ' H') ?_ m0 ⟨0,σ,H2,I2,st2,fun b hb=>(f2 b hb).1,w0⟩;rintro n s3 ⟨i,σ3,H3,I3,st3,fr3,w3⟩
 rcases turn i n σ3 H3 w3 with⟨stop,qn⟩|⟨go,N,hN,step⟩
 ·refine a5J hp (thn (T.done X rfl rfl rfl hc i za s3 σ3 H3 X.xe I3 (stat fr3) st3 stop) fun r s4 ⟨hr,I4⟩=>?_);subst hr;exact a9C ⟨σ3,H3,I4,qn⟩
 ·refine a5J hp (thn (T.item X rfl rfl rfl hc i za s3 σ3 H3 X.xe I3 (stat fr3) st3 go) fun r s4 ⟨u,hr,h4⟩=>?_);subst hr;refine a5J hp (thn h4 fun _ s5 ⟨x,H5,I5,r5,y5,st5,fr5⟩=>?_);have I5':=I5.pinned (stat fr5) (T.obj _ _ st5);refine a5J hp (thn (hg _ s5 σ3 H5 x u _ I5' r5 (step x H5 y5)) fun _ s6 ⟨σ6,H6,I6,q6⟩=>?_);refine a5J hp (thn (hb _ s6 σ6 H6 _ I6 q6) fun f s7 q7=>?_);have again: ∀{σ7:St} {H7:Hp},Inv X (za++b6k fp s5.heap) σ7 H7 s7->N σ7 H7-> ∃m,m<n/\ ∃i σ' H',Inv X za σ' H' s7/\tn i s7.heap/\(∀b∈fp,H' b=none)/\W i m σ' H':=fun {σ7 H7} I7 n7=>by
   obtain⟨m',hm,w7⟩:=hN σ7 H7 n7;refine⟨m',hm,i+1,σ7,H7,I7.unpinned,T.keep _ _ _ st5 fun b hb o e=>(I7.pin (b,o) (a1E _ (a1E _ (a6t hb e)))).1,fun b hb=>?_,w7⟩;obtain⟨o,e,d⟩:=T.obj _ _ st5 b hb;exact(I7.pin (b,o) (a1E _ (a1E _ (a6t hb e)))).2.1
  cases f with
  |next=>obtain⟨σ7,H7,I7,n7⟩:=q7;exact again I7 n7
  |cont=>obtain⟨σ7,H7,I7,n7⟩:=q7;exact again I7 n7
  |brk=>obtain⟨σ7,H7,I7,q7⟩:=q7;exact⟨σ7,H7,I7.unpinned,q7⟩
  |ret v=>obtain⟨x7,σ7,H7,I7,r7,q7⟩:=q7;exact⟨x7,σ7,H7,I7.unpinned,r7,q7⟩
end
theorem a4n{K:W.Frag}{a:Ad}{xs:List V}{g:TG}{tb:TS}{D:Ends}{σ:St}{H:Hp}(Pv:Nat->St->Hp->Prop)(h0:Pv 0 σ H)(hl: ∀i σ H,i<=xs.length->Pv i σ H->SqL K H a xs)
  (hs: ∀i x σ H,xs[i]? =some x->Pv i σ H->g x σ H fun σ2 H2=>tb {D with nx:=Pv (i+1),ct:=Pv (i+1),bk:=D.nx} σ2 H2) (hd: ∀σ H,Pv xs.length σ H->D.nx σ H):
  ∃W:Nat->Nat->St->Hp->Prop,(∃m,W 0 m σ H)/\ ∀i m σ H,W i m σ H->
   ((Itl K a).stop i H/\D.nx σ H)∨((Itl K a).go i H/\ ∃N:St->Hp->Prop,(∀σ' H',N σ' H'-> ∃m',m'<m/\W (i+1) m' σ' H')/\ ∀x H',(Itl K a).yld i H x H'->g x σ H' fun σ2 H2=>tb {D with nx:=N,ct:=N,bk:=D.nx} σ2 H2):=by
 refine⟨fun i m σ H=>m=xs.length-i/\i<=xs.length/\Pv i σ H,⟨xs.length,by simp,Nat.zero_le _,h0⟩,?_⟩;rintro i m σ H ⟨rfl,hi,p⟩;have q:=hl i σ H hi p;by_cases hlt:i<xs.length
 ·refine .inr ⟨⟨xs,xs[i],q,by simp[hlt]⟩,Pv (i+1),fun σ' H' p'=>⟨xs.length-(i+1),Nat.sub_succ_lt_self _ _ hlt,rfl,hlt,p'⟩,fun x H' y=>?_⟩;obtain⟨e,y⟩:=y;subst e;exact hs i x σ _ (y xs q) p
 ·have e:i=xs.length:=by lia
  subst e;exact .inl ⟨⟨xs,q,a0K _⟩,hd σ H p⟩
theorem a7q{lo:Int}{n:Nat}{g:TG}{tb:TS}{D:Ends}{σ:St}{H:Hp}(Pv:Nat->St->Hp->Prop)(h0:Pv 0 σ H)
  (hs: ∀i σ H,i<n->Pv i σ H->g (.int (lo+i)) σ H fun σ2 H2=>tb {D with nx:=Pv (i+1),ct:=Pv (i+1),bk:=D.nx} σ2 H2) (hd: ∀σ H,Pv n σ H->D.nx σ H):
  ∃W:Nat->Nat->St->Hp->Prop,(∃m,W 0 m σ H)/\ ∀i m σ H,W i m σ H->
   ((Itr lo n).stop i H/\D.nx σ H)∨((Itr lo n).go i H/\ ∃N:St->Hp->Prop,(∀σ' H',N σ' H'-> ∃m',m'<m/\W (i+1) m' σ' H')/\ ∀x H',(Itr lo n).yld i H x H'->g x σ H' fun σ2 H2=>tb {D with nx:=N,ct:=N,bk:=D.nx} σ2 H2):=by
 refine⟨fun i m σ H=>m=n-i/\i<=n/\Pv i σ H,⟨n,by simp,Nat.zero_le _,h0⟩,?_⟩;rintro i m σ H ⟨rfl,hi,p⟩;by_cases hlt:i<n
 ·refine .inr ⟨hlt,Pv (i+1),fun σ' H' p'=>⟨n-(i+1),Nat.sub_succ_lt_self _ _ hlt,rfl,hlt,p'⟩,fun x H' y=>?_⟩;obtain⟨e,y⟩:=y;subst e y;exact hs i σ _ hlt p
 ·have e:i=n:=by lia
  subst e;exact .inl ⟨a0K _,hd σ H p⟩
abbrev R2:=V->V->Hp->VK->Prop
def OpR(X:Cx)(f:Vl->Vl->Sem Vl)(r:R2):Prop:=
 ∀(za:AO) (s:Sh) (σ:St) (H:Hp) (x y:V) (v u:Vl) (Q:VK),Inv X za σ H s->RelV x v->RelV y u->r x y H Q->
  wpAny (model X.prog X.w) X.A (f v u) (EP X za σ Q) X.xe s
def UnR(X:Cx)(f:Vl->Sem Vl)(r:V->Hp->VK->Prop):Prop:=
 ∀(za:AO) (s:Sh) (σ:St) (H:Hp) (x:V) (v:Vl) (Q:VK),Inv X za σ H s->RelV x v->r x H Q->
  wpAny (model X.prog X.w) X.A (f v) (EP X za σ Q) X.xe s
def a7r(X:Cx)(f:Vl)(r:List V->Hp->VK->Prop):Prop:=
 ∀(za:AO) (s:Sh) (σ:St) (H:Hp) (xs:List V) (us:Vs) (Q:VK),Inv X za σ H s->Vals xs us->r xs H Q->
  wpAny (model X.prog X.w) X.A (call f us) (EP X za σ Q) X.xe s
def TruR(X:Cx)(r:V->Hp->(Bool->Hp->Prop)->Prop):Prop:=
 ∀(za:AO) (s:Sh) (σ:St) (H:Hp) (x:V) (v:Vl) (Q:Bool->Hp->Prop),Inv X za σ H s->RelV x v->r x H Q->
  wpAny (model X.prog X.w) X.A (truthy v) (TP X za σ Q) X.xe s
def tOp(r:R2)(ta tb:TE):TE:=fun σ H Q=>ta σ H fun x H1=>tb σ H1 fun y H2=>r x y H2 Q
def tUn(r:V->Hp->VK->Prop)(ta:TE):TE:=fun σ H Q=>ta σ H fun x H1=>r x H1 Q
def rI(C:Int->Int->Prop)(g:Int->Int->V):R2:=fun x y H Q=> ∃i j,x= .int i/\y= .int j/\C i j/\Q (g i j) H
def rI0(g:Int->Int->V):R2:=fun x y H Q=> ∃i j,x= .int i/\y= .int j/\Q (g i j) H
def rU(g:Int->V):V->Hp->VK->Prop:=fun x H Q=> ∃i,x= .int i/\Q (g i) H
section
variable{X:Cx}{a b c:Expr}{ta tb tc:TE}{pos:Pos}
theorem binT(ha:PE X a ta)(hb:PE X b tb){za:AO}{s:Sh}{σ:St}{H:Hp}{R:V->V->Hp->Prop}(I:Inv X za σ H s)
  (h:ta σ H fun x H1=>tb σ H1 fun y H2=>R x y H2) {Q:VP} {f:Vl->Vl->Sem Vl}
  (hf: ∀v u s2 x y H2,Inv X za σ H2 s2->RelV x v->RelV y u->R x y H2->wpAny (model X.prog X.w) X.A (f v u) Q X.xe s2):
  wpAny (model X.prog X.w) X.A (eval a X.env) (fun v s₁=>wpAny (model X.prog X.w) X.A (eval b X.env) (fun u s₂=>wpAny (model X.prog X.w) X.A (f v u) Q X.xe s₂) X.xe s₁) X.xe s:=by
 refine thn (ha za s σ H _ I h) fun v s1 ⟨x,H1,I1,r1,q1⟩=>?_;refine thn (hb za s1 σ H1 _ I1 q1) fun u s2 ⟨y,H2,I2,r2,q2⟩=>?_;exact hf v u s2 x y H2 I2 r1 r2 q2
theorem a1w{op:Operator}{r:R2}(ho:OpR X (binaryOp op) r)(ha:PE X a ta)(hb:PE X b tb):PE X (.BinOp a op b pos) (tOp r ta tb):=by
 intro za s σ H Q I h;exact wpAny_BinOp (binT ha hb I h fun v u s2 x y H2 I2 rx ry q=>ho za s2 σ H2 x y v u Q I2 rx ry q)
theorem pe_un{op:UnaryOp}{r:V->Hp->VK->Prop}(ho:UnR X (unaryOp op) r)(ha:PE X a ta):PE X (.UnaryOp op a pos) (tUn r ta):=by
 intro za s σ H Q I h;exact UnaryOp_ (thn (ha za s σ H _ I h) fun v s1 ⟨x,H1,I1,r1,q1⟩=>ho za s1 σ H1 x v Q I1 r1 q1)
theorem opI{f:Vl->Vl->Sem Vl}{C:Int->Int->Prop}{g:Int->Int->Int}
  (rule: ∀(i j:Int) (t u:Tok) (s:Sh) (Q:VP) (E:VP),C i j->Q (.int (g i j) s.toks) {s with toks:=s.toks+1}->wpAny (model X.prog X.w) X.A (f (.int i t) (.int j u)) Q E s):
  OpR X f (rI C fun i j=> .int (g i j)):=by
 intro za s σ H x y v u Q I rx ry h;obtain⟨i,j,rfl,rfl,hc,q⟩:=h;obtain⟨t,rfl⟩:=rx;obtain⟨t',rfl⟩:=ry;exact rule i j t t' s _ _ hc ⟨.int (g i j),H,I.tok _,⟨_,rfl⟩,q⟩
theorem opI0{f:Vl->Vl->Sem Vl}{g:Int->Int->Int}
  (rule: ∀(i j:Int) (t u:Tok) (s:Sh) (Q:VP) (E:VP),Q (.int (g i j) s.toks) {s with toks:=s.toks+1}->wpAny (model X.prog X.w) X.A (f (.int i t) (.int j u)) Q E s):
  OpR X f (rI0 fun i j=> .int (g i j)):=by
 intro za s σ H x y v u Q I rx ry h;obtain⟨i,j,rfl,rfl,q⟩:=h;obtain⟨t,rfl⟩:=rx;obtain⟨t',rfl⟩:=ry;exact rule i j t t' s _ _ ⟨.int (g i j),H,I.tok _,⟨_,rfl⟩,q⟩
theorem opB0{f:Vl->Vl->Sem Vl}{g:Int->Int->Bool}
  (rule: ∀(i j:Int) (t u:Tok) (s:Sh) (Q:VP) (E:VP),Q (.bool (g i j)) s->wpAny (model X.prog X.w) X.A (f (.int i t) (.int j u)) Q E s):
  OpR X f (rI0 fun i j=> .bl (g i j)):=by
 intro za s σ H x y v u Q I rx ry h;obtain⟨i,j,rfl,rfl,q⟩:=h;obtain⟨t,rfl⟩:=rx;obtain⟨t',rfl⟩:=ry;exact rule i j t t' s _ _ ⟨.bl (g i j),H,I,rfl,q⟩
def CDiv(i j:Int):Prop:=0<j/\j<1073741824
def CMul(i j:Int):Prop:=(-(2 ^ 64)<i/\i<2 ^ 64)∨(-(2 ^ 64)<j/\j<2 ^ 64)
theorem CMul.ok{i j:Int}(h:CMul i j):IntMulOk i j:=by
 rcases h with⟨h1,h2⟩|⟨h1,h2⟩
 ·exact .of_left (intBits_le_64 h1 h2)
 ·exact .of_right (intBits_le_64 h1 h2)
theorem a7b:OpR X (binaryOp .Add) (rI0 fun i j=> .int (i+j)):=opI0 fun _ _ _ _ _ _ _ q=>add_int q
theorem d7q:OpR X (binaryOp .Sub) (rI0 fun i j=> .int (i-j)):=opI0 fun _ _ _ _ _ _ _ q=>sub_int q
theorem d3n:OpR X (binaryOp .Mult) (rI CMul fun i j=> .int (i * j)):=opI fun _ _ _ _ _ _ _ hc q=>mul_int q hc.ok
theorem a7g:OpR X (binaryOp .FloorDiv) (rI CDiv fun i j=> .int (i/j)):=opI fun i j _ _ _ _ _ hc q=>by
 have h1:(0:Int)<j:=hc.1;have h2:j<1073741824:=hc.2;exact floordiv_int (by lia) (by rw[Int.fdiv_eq_ediv_of_nonneg i (by lia)];exact q) (.inl (PyProof.noPylong_small (by lia)))
theorem a5a:OpR X (binaryOp .Mod) (rI (fun _ j=>0<j) fun i j=> .int (i%j)):=opI fun i j _ _ _ _ _ hc q=>by
 have h1:(0:Int)<j:=hc;exact mod_int' (by lia) (by rw[Int.fmod_eq_emod_of_nonneg i (by lia)];exact q)
theorem unI{f:Vl->Sem Vl}{g:Int->Int}
  (rule: ∀(i:Int) (t:Tok) (s:Sh) (Q:VP) (E:VP),Q (.int (g i) s.toks) {s with toks:=s.toks+1}->wpAny (model X.prog X.w) X.A (f (.int i t)) Q E s):
  UnR X f (rU fun i=> .int (g i)):=by
 intro za s σ H x v Q I rx h;obtain⟨i,rfl,q⟩:=h;obtain⟨t,rfl⟩:=rx;exact rule i t s _ _ ⟨.int (g i),H,I.tok _,⟨_,rfl⟩,q⟩
theorem d7r:UnR X (unaryOp .USub) (rU fun i=> .int (-i)):=unI fun _ _ _ _ _ q=>neg_int q
end
def scal:V->V->Bool
 | .non,.non=>true| .non,.int _=>true| .int _,.non=>true| .non,.bl _=>true| .bl _,.non=>true| .non,.str _=>true| .str _,.non=>true
 | .int _,.int _=>true| .bl _,.bl _=>true| .str _,.str _=>true| .byt _,.byt _=>true
 | .int _,.str _=>true| .str _,.int _=>true| .bl _,.str _=>true| .str _,.bl _=>true
 |_,_=>false
def rEq:R2:=fun x y H Q=>scal x y=true/\Q (.bl (decide (x=y))) H
def rNe:R2:=fun x y H Q=>scal x y=true/\Q (.bl (!decide (x=y))) H
theorem c5e{i j:Int}:decide (V.int i=V.int j)=(i==j):=by
 rw[a3D];simp
theorem d3o{i j:Bool}:decide (V.bl i=V.bl j)=(i==j):=by
 rw[a3D];simp
theorem c5f{i j:Str}:decide (V.str i=V.str j)=(i==j):=by
 rw[a3D];simp
theorem c5g{i j:Array UInt8}:decide (V.byt i=V.byt j)=(i.toList==j.toList):=by
 rw[a3D];cases i;cases j;simp
section
variable{X:Cx}{a b c:Expr}{ta tb tc:TE}{pos:Pos}
theorem a1g{za:AO}{σ:St}{H:Hp}{s:Sh}{Q:VK}{k k':Bool}(I:Inv X za σ H s)(q:Q (.bl k) H)(e:k=k'):EP X za σ Q (.bool k') s:=by
 subst e;exact⟨.bl k,H,I,rfl,q⟩
theorem d4v:OpR X (compareOp .Eq) rEq:=by
 intro za s σ H x y v u Q I rx ry h;obtain⟨hs,q⟩:=h;cases x with
 |non=>
  cases rx;cases y with
  |non=>cases ry;exact PySem.EqNone.eq_none_none (a1g I q (by simp))
  |bl j=>cases ry;exact PySem.EqNone.eq_none_bool (a1g I q (by simp))
  |int j=>obtain⟨t',rfl⟩:=ry;exact PySem.EqNone.eq_none_int (a1g I q (by simp))
  |str j=>obtain⟨t',rfl⟩:=ry;exact PySem.EqNone.eq_none_str (a1g I q (by simp))
  |_=>exact wC (show false=true from hs) a1H
 |bl i=>
  cases rx;cases y with
  |non=>cases ry;exact PySem.EqNone.eq_bool_none (a1g I q (by simp))
  |bl j=>cases ry;exact eq_bool (a1g I q d3o)
  |str j=>obtain⟨t',rfl⟩:=ry;exact PySem.EqMixed.eq_bool_str (a1g I q (by simp))
  |_=>exact wC (show false=true from hs) a1H
 |int i=>
  obtain⟨t,rfl⟩:=rx;cases y with
  |non=>cases ry;exact PySem.EqNone.eq_int_none (a1g I q (by simp))
  |int j=>obtain⟨t',rfl⟩:=ry;exact eq_int (a1g I q c5e)
  |str j=>obtain⟨t',rfl⟩:=ry;exact PySem.EqMixed.eq_int_str (a1g I q (by simp))
  |_=>exact wC (show false=true from hs) a1H
 |str i=>
  obtain⟨t,rfl⟩:=rx;cases y with
  |non=>cases ry;exact PySem.EqNone.eq_str_none (a1g I q (by simp))
  |bl j=>cases ry;exact PySem.EqMixed.eq_str_bool (a1g I q (by simp))
  |int j=>obtain⟨t',rfl⟩:=ry;exact PySem.EqMixed.eq_str_int (a1g I q (by simp))
  |str j=>obtain⟨t',rfl⟩:=ry;exact eq_str (a1g I q c5f)
  |_=>exact wC (show false=true from hs) a1H
 |byt i=>
  obtain⟨t,rfl⟩:=rx;cases y with
  |byt j=>obtain⟨t',rfl⟩:=ry;exact PySem.W.eq_bytes (a1g I q c5g)
  |_=>exact wC (show false=true from hs) a1H
 |_=>cases y<;>exact wC (show false=true from hs) a1H
theorem op_ne:OpR X (compareOp .NotEq) rNe:=by
 intro za s σ H x y v u Q I rx ry h;obtain⟨hs,q⟩:=h;cases x with
 |non=>
  cases rx;cases y with
  |non=>cases ry;exact PySem.EqNone.ne_none_none (a1g I q (by simp))
  |bl j=>cases ry;exact PySem.EqNone.ne_none_bool (a1g I q (by simp))
  |int j=>obtain⟨t',rfl⟩:=ry;exact PySem.EqNone.ne_none_int (a1g I q (by simp))
  |str j=>obtain⟨t',rfl⟩:=ry;exact PySem.EqNone.ne_none_str (a1g I q (by simp))
  |_=>exact wC (show false=true from hs) a1H
 |bl i=>
  cases rx;cases y with
  |non=>cases ry;exact PySem.EqNone.ne_bool_none (a1g I q (by simp))
  |bl j=>cases ry;exact ne_bool (a1g I q (a1W not d3o))
  |str j=>obtain⟨t',rfl⟩:=ry;exact PySem.EqMixed.ne_bool_str (a1g I q (by simp))
  |_=>exact wC (show false=true from hs) a1H
 |int i=>
  obtain⟨t,rfl⟩:=rx;cases y with
  |non=>cases ry;exact PySem.EqNone.ne_int_none (a1g I q (by simp))
  |int j=>obtain⟨t',rfl⟩:=ry;exact ne_int (a1g I q (a1W not c5e))
  |str j=>obtain⟨t',rfl⟩:=ry;exact PySem.EqMixed.ne_int_str (a1g I q (by simp))
  |_=>exact wC (show false=true from hs) a1H
 |str i=>
  obtain⟨t,rfl⟩:=rx;cases y with
  |non=>cases ry;exact PySem.EqNone.ne_str_none (a1g I q (by simp))
  |bl j=>cases ry;exact PySem.EqMixed.ne_str_bool (a1g I q (by simp))
  |int j=>obtain⟨t',rfl⟩:=ry;exact PySem.EqMixed.ne_str_int (a1g I q (by simp))
  |str j=>obtain⟨t',rfl⟩:=ry;exact ne_str (a1g I q (a1W not c5f))
  |_=>exact wC (show false=true from hs) a1H
 |byt i=>
  obtain⟨t,rfl⟩:=rx;cases y with
  |byt j=>obtain⟨t',rfl⟩:=ry;exact PySem.W.ne_bytes (a1g I q (a1W not c5g))
  |_=>exact wC (show false=true from hs) a1H
 |_=>cases y<;>exact wC (show false=true from hs) a1H
theorem c5h:OpR X (compareOp .Lt) (rI0 fun i j=> .bl (decide (i<j))):=opB0 fun _ _ _ _ _ _ _ q=>lt_int q
theorem d4w:OpR X (compareOp .Gt) (rI0 fun i j=> .bl (decide (j<i))):=opB0 fun _ _ _ _ _ _ _ q=>gt_int q
theorem d7s:OpR X (compareOp .Is) (fun x y H Q=>y= .non/\Q (.bl (decide (x= .non))) H):=by
 intro za s σ H x y v u Q I rx ry h;obtain⟨rfl,q⟩:=h;cases ry;refine is_none_gen (a1g I q ?_);cases x<;>first
  |(cases rx;rfl)
  |(obtain⟨t,rfl⟩:=rx;rfl)
theorem c5i:OpR X (compareOp .IsNot) (fun x y H Q=>y= .non/\Q (.bl (!decide (x= .non))) H):=by
 intro za s σ H x y v u Q I rx ry h;obtain⟨rfl,q⟩:=h;cases ry;refine isnot_none_gen (a1g I q ?_);cases x<;>first
  |(cases rx;rfl)
  |(obtain⟨t,rfl⟩:=rx;rfl)
theorem a2e(b:Expr){op:CmpOp}(h:op≠ .In:=by decide)(h2:op≠ .NotIn:=by decide):behindInMarks op b=false:=by
 have e1:(op==CmpOp.In)=false:=by cases op<;>first|rfl|exact wC rfl h
 have e2:(op==CmpOp.NotIn)=false:=by cases op<;>first|rfl|exact wC rfl h2
 cases b<;>simp[behindInMarks,e1,e2]
theorem b0t{op:CmpOp}{r:R2}(ho:OpR X (compareOp op) r)(ha:PE X a ta)(hb:PE X b tb)(hm:behindInMarks op b=false):PE X (.Compare a [op] [b] pos) (tOp r ta tb):=by
 intro za s σ H Q I h;exact wpAny_Compare1 (binT ha hb I h fun v u s2 x y H2 I2 rx ry q=>ho za s2 σ H2 x y v u Q I2 rx ry q) hm
def tTest(t:TE):TT:=fun σ H Q=>t σ H fun x H'=> ∃k,x= .bl k/\Q k H'
theorem a1p{op:CmpOp}{r:R2}(ho:OpR X (compareOp op) r)(ha:PE X a ta)(hb:PE X b tb)(hm:behindInMarks op b=false):PT X (.Compare a [op] [b] pos) (tTest (tOp r ta tb)):=by
 intro za s σ H Q I h;refine wpAny_isTrue_Compare1 (thn (ha za s σ H _ I h) fun v s1 ⟨x,H1,I1,r1,q1⟩=>thn (hb za s1 σ H1 _ I1 q1) fun u s2 ⟨y,H2,I2,r2,q2⟩=>
  thn (ho za s2 σ H2 x y v u _ I2 r1 r2 q2) fun c s3 ⟨z,H3,I3,r3,k,e,q3⟩=>?_) hm
 subst e;cases r3;exact a4U ⟨H3,I3,q3⟩
def TruV(K:W.Frag)(x:V)(H:Hp)(k:Bool):Prop:=
 match x with
 | .non=>k=false
 | .bl b=>k=b
 | .int i=>k=(i != 0)
 | .str y=>y.length<=sizeLine/\k=((y.length:Int) != 0)
 | .byt y=>y.size<=sizeLine/\k=((y.size:Int) != 0)
 | .ref p=>(∃xs,SqL K H p xs/\k= !xs.isEmpty)∨(∃xs,SqT K H p xs/\k= !xs.isEmpty)∨ ∃kvs,H p=some (.dK kvs)/\k= !kvs.isEmpty
 |_=>False
theorem c2z{κ:Type}{kvs:List (κ×V)}{vs:List (κ×Vl)}(r:KV kvs vs):(!vs.isEmpty)= !kvs.isEmpty:=by
 cases r<;>rfl
theorem b3i{xs:List V}{its:Vs}(r:Vals xs its):(!its.toArray.isEmpty)= !xs.isEmpty:=by
 cases r<;>simp
theorem b6l:(sizeLine:Nat)<2 ^ 63:=by rw[a0Y];decide
theorem d7t:TruR X (fun x H Q=> ∃k,TruV X.K x H k/\Q k H):=by
 intro za s σ H x v Q I rx h;obtain⟨k,e,q⟩:=h;have hl:=b6l;have hs:sizeLine=16777216:=a0Y;cases x with
 |non=>
  cases rx;have e':k=false:=e;subst e';exact truthy_none ⟨H,I,q⟩
 |bl b=>
  cases rx;have e':k=b:=e;subst e';exact a4U ⟨H,I,q⟩
 |int i=>
  obtain⟨t,rfl⟩:=rx;have e':k=(i != 0):=e;subst e';exact PySem.P.truthy_int ⟨H,I,q⟩
 |str y=>
  obtain⟨t,rfl⟩:=rx;obtain⟨hy,e'⟩:y.length<=sizeLine/\k=((y.length:Int) != 0):=e;subst e';exact PySem.P.truthy_str (by lia) ⟨H,I.tok _,q⟩
 |byt y=>
  obtain⟨t,rfl⟩:=rx;obtain⟨hy,e'⟩:y.size<=sizeLine/\k=((y.size:Int) != 0):=e;subst e';exact PySem.W.truthy_bytes (by lia) ⟨H,I.tok _,q⟩
 | ref p=>
  cases rx;have e':(∃xs,SqL X.K H p xs/\k= !xs.isEmpty)∨(∃xs,SqT X.K H p xs/\k= !xs.isEmpty)∨ ∃kvs,H p=some (.dK kvs)/\k= !kvs.isEmpty:=e
  rcases e' with⟨xs,hx,e'⟩|⟨xs,hx,e'⟩|⟨kvs,hx,e'⟩
  ·subst e';obtain⟨its,r,pl,hz⟩:=I.list hx;have hlen:=r.length;exact wpAny_truthy_list pl.isList (by simp only[List.size_toArray];lia) ⟨H,I.tok _,by rw[b3i r];exact q⟩
  ·subst e';obtain⟨its,r,pl,hz⟩:=I.tuple hx;have hlen:=r.length;exact truthy_tuple pl (by simp only[List.size_toArray];lia) ⟨H,I.tok _,by rw[b3i r];exact q⟩
  ·subst e';obtain⟨hz,hS,vs,r,m⟩:kvs.length<=sizeLine/\(p==sysModules)=false/\ ∃vs,KV kvs vs/\s.heap.DictOf (a3e X.prog X.w) p vs:=I.hok p _ hx;have hlen:kvs.length=vs.length:=a4Z r;exact wpAny_truthy_dict hS m (by lia) ⟨H,I.tok _,by rw[c2z r];exact q⟩
 |_=>exact(show False from e).elim
theorem c0q(ha:PE X a ta)(he: ∀whole,isTrue a X.env whole=(do let v <-whole;standAt a.pos;holding [v] (truthy v))):
  PT X a (fun σ H Q=>ta σ H fun x H'=> ∃k,TruV X.K x H' k/\Q k H'):=by
 intro za s σ H Q I h;exact isTrue_plain (thn (ha za s σ H _ I h) fun v s1 ⟨x,H1,I1,r1,q1⟩=>d7t za s1 σ H1 x v Q I1 r1 q1) (he _)
theorem a6y{x:V}{us:Vs}(r:Vals [x] us): ∃u,us=[u]/\RelV x u:=by
 cases r with
 |cons r1 r2=>cases r2;exact⟨_,rfl,r1⟩
end
structure ObjM(h:Heap)(x dx C:Ad)(mA:SV):Prop where
 obj:h.get? x=some (PySem.W.instObj C dx)
 ns:h.Ns1 dx mA
 ne:dx≠x
theorem c5j{h:Heap}{dx:Ad}{mA:SV}(n:h.Ns1 dx mA): ∃od,h.get? dx=some od/\ ∀name,PySem.W.lookIn name od=some (mA name):=by
 obtain⟨o,es,ep,ho,hd,hk,_,hm⟩:=n;refine⟨o,ho,fun name=>?_⟩;have e:=hm name;unfold nsFind findBy at e;rw[<-Array.find?_toList]at e;unfold PySem.W.lookIn;rw[hd];dsimp only;split
 ·rename_i y q
  rw[q]at e;exact a1W some e
 ·rename_i q
  rw[q]at e;have a:es.toList.any (·.refKey)=false:=by
   rw[a8B];intro y hy;obtain⟨z,t,hkey⟩:=hk y (a8V.mp hy);simp[DictEntry.refKey,hkey]
  have a': ¬es.toList.any (·.refKey)=true:=by rw[a];exact a1H
  rw[wA a'];exact a1W some e
theorem ObjM.look{h:Heap}{x dx C:Ad}{mA:SV}(I:ObjM h x dx C mA): ∃od,PySem.W.InstAt h x (PySem.W.instObj C dx) C (some od)/\ ∀name,PySem.W.lookIn name od=some (mA name):=
 let⟨od,ho,hl⟩:=c5j I.ns
 ⟨od,⟨I.obj,rfl,rfl,ho⟩,hl⟩
section
variable{prog:Pg}{w:World}{A:Ar}{E:VP}{s:Sh}{K:W.Frag}{x dx C f:Ad}{mA:SV}{name:Str}{v:Vl}
theorem d4x{expr:Bool}{Q:VP}(X:K.In s.heap)(I:ObjM s.heap x dx C mA)(hg:PySem.W.plainGet K C name=true)(hh:PySem.W.hasDictIn K C=true)
  (ha:PySem.W.findIn K (.ref C) name=some none) (hv:mA name=some v) (hv':PySem.W.handedIn v=true) (h:Q v {s with toks:=s.toks+1}):
  wpAny (model prog w) A (getAttr (.ref x) name expr) Q E s:=by
 obtain⟨od,J,hl⟩:=I.look;exact PySem.W.get_value X J (a9D hg).1 (PySem.W.findObj_own hh ha rfl (by rw[hl,hv])) hv' h
theorem d0q{pl:Sem Bool}{Q:Vl×Vs->Sh->Prop}(X:K.In s.heap)(I:ObjM s.heap x dx C mA)(hg:PySem.W.plainGet K C name=true)
  (hf:PySem.W.findIn K (.ref C) name=some (some (.ref f))) (ht:PySem.W.isFn K (.ref f)=true) (hv:mA name=none) (h:Q (.ref f,[.ref x]) s):
  wpAny (model prog w) A (getMethod (.ref x) name pl) Q E s:=by
 obtain⟨od,J,hl⟩:=I.look;exact PySem.W.method_fn X J (a9D hg).1 (a9D hg).2 hf (a6T.mp ht) (by show(PySem.W.lookIn name od).map (·.isSome)=some false;rw[hl,hv];rfl) h
theorem d4y{ns:Ss}{Q:Unit->Sh->Prop}(X:K.In s.heap)(I:ObjM s.heap x dx C mA)
  (hs:PySem.W.findIn K (.ref C) "__setattr__"=some (some (.builtin "object.__setattr__"))) (hp:PySem.W.plainOver K C=true) (ht:PySem.W.takerIn K C name=some none) (hh:PySem.W.hasDictIn K C=true)
  (hw:PySem.Within mA ns) (hsz:ns.length<=sizeLine)
  (h: ∀h',ObjM h' x dx C (fun y=>if y=name then some v else mA y)->Heap.SameBut dx s.heap h'->Q () {s with heap:=h',toks:=s.toks+2}):
  wpAny (model prog w) A (setAttr (.ref x) name v) Q E s:=by
 obtain⟨od,J,hl⟩:=I.look;refine PySem.W.set_plain X J hs (PySem.W.osa_open (s:={s with toks:=s.toks+1}) (r:=none) X J hp ht fun b=>?_);obtain⟨cd,hc,hd'⟩:=PySem.W.any_some hh;have hx:s.heap.get? x=some ⟨.ref C,some dx,.plain,#[]⟩:=I.obj;refine a0D (a0G (a0D (a0D (wpAny_loadPart hx (a0D (PySem.W.Looks.here (s:={s with toks:=s.toks+1}) (PySem.W.looks_clsIn X hc) ?_))))));rw[hd'];refine a0G (a:=some dx) (a0D (a0G (a0D ?_)));refine wpAny_nsSet1 (s:={s with toks:=s.toks+1}) I.ns fun h' hn2 hs2=>?_;obtain⟨oD,esD,epD,hoD,hdD,hcD⟩:=hn2.count (PySem.Within.cons name v hw);refine a0D (wpAny_lookBehind hoD (by rw[hdD];exact pastItsLine_dict (a1C hcD (by rw[a3E];lia))) ?_);exact a0G (h _ ⟨(hs2.2 _ (a3T I.ne)).trans I.obj,hn2,I.ne⟩ hs2)
theorem d0r{R:Result->Sh->Prop}{vs:Vs}{kw:List (Str×Vl)}(X:K.In s.heap)(hm:PySem.W.makesIn K C=true)
    (hi:PySem.W.findIn K (.ref C) "__init__"=some (some (.ref f))) (hf:PySem.W.typeIn K (.ref f)=some (.type "function"))
    (h:codeAny (model prog w) (A.under (.builtin "type.__call__" ⟨.ref C::vs,kw⟩)) (.call (.ref f) ⟨.ref (s.heap.objs.size+1)::vs,kw⟩) (PySem.W.InitBack (s.heap.objs.size+1) R)
      {s with heap:=(s.heap.push PySem.W.emptyDict).push (PySem.W.instObj C s.heap.objs.size)}):
    codeAny (model prog w) A (.call (.ref C) ⟨vs,kw⟩) R s:=by
  obtain⟨hh,g,d,t,os⟩:=s;exact PySem.W.make_core (PySem.W.makes_of X hm) (PySem.W.looks_findIn X hi) (fun self=>PySem.W.bind_fn X self hf) (.inl rfl) h
end
def a3p(f:Str)(v:V):List (Str×V)->List (Str×V)
 | []=>[(f,v)]
 |(g,x)::r=>if g=f then(g,v)::r else(g,x)::a3p f v r
theorem b0u(f g:Str)(v:V): ∀fs:List (Str×V),(a3p f v fs).lookup g=if g=f then some v else fs.lookup g
 | []=>by
  show List.lookup g [(f,v)]=_;by_cases h:g=f
  ·have hb:(g==f)=true:=a6T.mpr h;simp only[List.lookup,hb,wB h]
  ·have hb:(g==f)=false:=a3J.mpr h;simp only[List.lookup,hb,wA h]
 | (k,x)::r=>by
  have ih:=b0u f g v r;rw[show a3p f v ((k,x)::r)=(if k=f then(k,v)::r else(k,x)::a3p f v r)from rfl];by_cases hk:k=f
  ·rw[wB hk];by_cases h:g=k
   ·have hb:(g==k)=true:=a6T.mpr h;simp only[List.lookup,hb,wB (h.trans hk)]
   ·have hb:(g==k)=false:=a3J.mpr h;simp only[List.lookup,hb,wA (fun e:g=f=>h (e.trans hk.symm))]
  ·rw[wA hk];by_cases h:g=k
   ·have hb:(g==k)=true:=a6T.mpr h;simp only[List.lookup,hb,wA (fun e:g=f=>hk (h.symm.trans e))]
   ·have hb:(g==k)=false:=a3J.mpr h;simp only[List.lookup,hb];exact ih
theorem b0v(f:Str)(v:V): ∀fs:List (Str×V),f∈(a3p f v fs).map (·.1)/\ ∀g,g∈fs.map (·.1)->g∈(a3p f v fs).map (·.1)
 | []=>⟨by simp[a3p],fun g h=>by simp at h⟩
 | (k,x)::r=>by
  obtain⟨i1,i2⟩:=b0v f v r;rw[show a3p f v ((k,x)::r)=(if k=f then(k,v)::r else(k,x)::a3p f v r)from rfl];by_cases hk:k=f
  ·rw[wB hk];subst hk;exact⟨by simp,fun g h=>by simpa using h⟩
  ·rw[wA hk];refine⟨?_,fun g h=>?_⟩
   ·rw[a2K];exact a1D _ i1
   ·rw[a2K]at h⊢
    rcases a1L.mp h with e|e
    ·exact a1L.mpr (.inl e)
    ·exact a1D _ (i2 g e)
theorem b0w(f:Str)(v:V): ∀fs:List (Str×V),(a3p f v fs).length<=fs.length+1
 | []=>by simp[a3p]
 |(k,x)::r=>by
  have ih:=b0w f v r;rw[show a3p f v ((k,x)::r)=(if k=f then(k,v)::r else(k,x)::a3p f v r)from rfl];by_cases hk:k=f
  ·rw[wB hk,a3E,a3E];lia
  ·rw[wA hk,a3E,a3E];lia
theorem RelO.some_of{v:V}{o:Option Vl}(r:RelO (some v) o): ∃u,o=some u/\RelV v u:=by
 cases o with
 |none=>exact(show False from r).elim
 |some u=>exact⟨u,rfl,r⟩
theorem RelO.none_of{o:Option Vl}(r:RelO none o):o=none:=by
 cases o with
 |none=>rfl
 |some u=>exact(show False from r).elim
theorem c5k{v:V}{u:Vl}(r:RelV v u):PySem.W.handedIn u=true:=by
 cases v with
 |non=>cases(show u=Value.none from r);rfl
 |bl b=>cases(show u=Value.bool b from r);rfl
 |int i=>obtain⟨t,e⟩:=(show ∃t,u=Value.int i t from r);cases e;rfl
 |str x=>obtain⟨t,e⟩:=(show ∃t,u=Value.str x t from r);cases e;rfl
 |byt b=>obtain⟨t,e⟩:=(show ∃t,u=Value.bytes b t from r);cases e;rfl
 |flt b=>obtain⟨t,e⟩:=(show ∃t,u=Value.float b t from r);cases e;rfl
 |ref a=>cases(show u=Value.ref a from r);rfl
 |ty n=>cases(show u=Value.type n from r);rfl
section
variable{P:Pg}{w:World}{H H':Hp}{h h':Heap}{a C dx:Ad}{fs fs':List (Str×V)}
theorem b8r(hok:HOk P w H h)(e:H a=some (.ins C dx fs)): ∃mA,ObjM h a dx C mA/\(∀f,RelO (fs.lookup f) (mA f))/\PySem.Within mA (fs.map (·.1))/\fs.length<=1000/\H dx=some (.own a):=by
 obtain⟨d,z,ne,ob,mA,n,r,q⟩:=(show ObjOk P w H h a (.ins C dx fs)from hok a _ e);exact⟨mA,⟨ob,n,ne⟩,r,q,z,d⟩
end
structure Cls(K:W.Frag)(C:Ad):Prop where
 pg:PySem.W.plainGet K C Str.empty=true
 hd:PySem.W.hasDictIn K C=true
 po:PySem.W.plainOver K C=true
 sa:PySem.W.findIn K (.ref C) "__setattr__"=some (some (.builtin "object.__setattr__"))
theorem Cls.get{K:W.Frag}{C:Ad}(c:Cls K C)(f:Str):PySem.W.plainGet K C f=true:=c.pg
def NoAttr(K:W.Frag)(C:Ad)(f:Str):Prop:=PySem.W.findIn K (.ref C) f=some none
theorem NoAttr.taker{K:W.Frag}{C:Ad}{f:Str}(n:NoAttr K C f):PySem.W.takerIn K C f=some none:=by
 unfold PySem.W.takerIn;rw[show PySem.W.findIn K (.ref C) f=some none from n];rfl
structure Meth(K:W.Frag)(C:Ad)(m:Str)(f:Ad):Prop where
 at_:PySem.W.findIn K (.ref C) m=some (some (.ref f))
 fn:PySem.W.isFn K (.ref f)=true
 kp:PySem.W.keepIn K (.ref f)=true
section
variable{X:Cx}{za:AO}{σ:St}{H:Hp}{s:Sh}{a C dx:Ad}{fs:List (Str×V)}{f:Str}{v:V}{A:Ar}{E:VP}
theorem c3a{b:Bool}{Q:VP}(I:Inv X za σ H s)(e:H a=some (.ins C dx fs))(c:Cls X.K C)(n:NoAttr X.K C f)(l:fs.lookup f=some v)
  (h: ∀u s',Inv X za σ H s'->RelV v u->Q u s'):wpAny (model X.prog X.w) A (getAttr (.ref a) f b) Q E s:=by
 obtain⟨mA,O,r,_,_,_⟩:=b8r I.hok e;obtain⟨u,hu,ru⟩:=RelO.some_of (v:=v) (o:=mA f) (by rw[<-l];exact r f);exact d4x I.kIn O (c.get f) c.hd n hu (c5k ru) (h u _ (I.tok _) ru)
theorem b3j{m:Str}{g:Ad}{pl:Sem Bool}{Q:Vl×Vs->Sh->Prop}(I:Inv X za σ H s)(e:H a=some (.ins C dx fs))(c:Cls X.K C)(k:Meth X.K C m g)(l:fs.lookup m=none)
  (h:Q (.ref g,[.ref a]) s):wpAny (model X.prog X.w) A (getMethod (.ref a) m pl) Q E s:=by
 obtain⟨mA,O,r,_,_,_⟩:=b8r I.hok e;have hn:mA m=none:=RelO.none_of (by rw[<-l];exact r m);exact d0q I.kIn O (c.get m) k.at_ k.fn hn h
theorem c3b{y:V}{u:Vl}{Q:Unit->Sh->Prop}(I:Inv X za σ H s)(e:H a=some (.ins C dx fs))(c:Cls X.K C)(n:NoAttr X.K C f)(hl:fs.length<1000)(ry:RelV y u)
  (h: ∀s',Inv X za σ (upd H a (.ins C dx (a3p f y fs))) s'->Q () s'):wpAny (model X.prog X.w) A (setAttr (.ref a) f u) Q E s:=by
 obtain⟨mA,O,r,wi,_,ho⟩:=b8r I.hok e;have hz:(fs.map (·.1)).length<=sizeLine:=by rw[a0C,a0Y];lia
 refine d4y I.kIn O c.sa c.po n.taker c.hd wi hz fun h' O' sb=>h _ ?_;have hd: ∃o,h'.get? dx=some o:=let⟨o,_,_,e',_⟩:=O'.ns;⟨o,e'⟩
 refine I.write (x:=a) (e:=dx) (by rw[e];exact True.intro) (.inr ho) (fun b q hb z=>(sb.2 b hb).trans z) hd ?_;refine⟨by rw[a0f O.ne];exact ho,?_,O.ne,O'.obj,_,O'.ns,fun g=>?_,fun g hg=>?_⟩
 ·have:=b0w f y fs;lia
 ·show RelO ((a3p f y fs).lookup g) (if g=f then some u else mA g);rw[b0u];by_cases q:g=f
  ·rw[wB q,wB q];exact ry
  ·rw[wA q,wA q];exact r g
 ·by_cases q:g=f
  ·rw[q];exact(b0v f y fs).1
  ·refine(b0v f y fs).2 g (wi g fun z=>hg ?_);show(if g=f then some u else mA g)=none;rw[wA q];exact z
theorem Inv.made(I:Inv X za σ H s):Inv X za σ (upd (upd H s.heap.objs.size (.own (s.heap.objs.size+1))) (s.heap.objs.size+1) (.ins C s.heap.objs.size []))
    {s with heap:=(s.heap.push PySem.W.emptyDict).push (PySem.W.instObj C s.heap.objs.size)}:=by
  have e1:(s.heap.push PySem.W.emptyDict).get? s.heap.objs.size=some PySem.W.emptyDict:=a0X s.heap rfl;have e2:((s.heap.push PySem.W.emptyDict).push (PySem.W.instObj C s.heap.objs.size)).get? (s.heap.objs.size+1)=some (PySem.W.instObj C s.heap.objs.size):=by
    have:=a0X (s.heap.push PySem.W.emptyDict) (o:=PySem.W.instObj C s.heap.objs.size) rfl;rwa[a8G]at this
  have e3:(s.heap.push PySem.W.emptyDict).Ns s.heap.objs.size (fun _=>none):=⟨PySem.W.emptyDict,#[],_,e1,rfl,(fun e he=>wC he (by simp)),fun _=>rfl⟩;have I1:=I.laid (a:=s.heap.objs.size) (o:= .own (s.heap.objs.size+1)) (h':=s.heap.push PySem.W.emptyDict) (t':=s.toks) (fun b u q=>a0H _ q) (a0K _) ⟨_,e1⟩;refine I1.laid (a:=s.heap.objs.size+1) (o:= .ins C s.heap.objs.size []) (t':=s.toks) (fun b u q=>a0H _ q) (a7H (a8G _ _)) ?_;have ne:s.heap.objs.size≠s.heap.objs.size+1:=a1M (a3U _);refine⟨by rw[a0f ne,a0a],a3K _,ne,e2,fun _=>none,(Heap.Ns1.of_empty e3).at fun o q=>a0H _ q,fun _=>True.intro,fun y hy=>wC rfl hy⟩
theorem d4z{prog:Pg}{w:World}{env:Env}{e:Expr}{f:Str}{pos:Pos}{s:Sh}{Q:VP}(hb:attributeBase e f env (eval e env)=eval e env)
  (h:wpAny (model prog w) A (eval e env) (fun o s₁=>wpAny (model prog w) A (getAttr o f true) Q E s₁) E s):wpAny (model prog w) A (eval (.Attribute e f pos) env) Q E s:=
 Attribute_any_ h (by rw[arm_eval_Attribute,hb])
end
def tFld(K:W.Frag)(ta:TE)(f:Str):TE:=fun σ H Q=>ta σ H fun x H1=> ∃a C dx fs v,x= .ref a/\H1 a=some (.ins C dx fs)/\Cls K C/\NoAttr K C f/\fs.lookup f=some v/\Q v H1
def sFld(K:W.Frag)(ta tv:TE)(f:Str):TS:=fun D σ H=>tv σ H fun y H1=>ta σ H1 fun x H2=> ∃a C dx fs,x= .ref a/\H2 a=some (.ins C dx fs)/\Cls K C/\NoAttr K C f/\fs.length<1000/\
 D.nx σ (upd H2 a (.ins C dx (a3p f y fs)))
section
variable{X:Cx}{o e value:Expr}{f:Str}{pos pos' tpos:Pos}{ta tv:TE}
theorem a2f(he:PE X e ta)(hb:attributeBase e f X.env (eval e X.env)=eval e X.env):PE X (.Attribute e f pos) (tFld X.K ta f):=by
 intro za s σ H Q I h;refine d4z hb (thn (he za s σ H _ I h) fun u s1 ⟨x,H1,I1,rx,a,C,dx,fs,v,ex,ea,c,n,l,q⟩=>?_);subst ex;obtain rfl:u=Value.ref a:=rx;exact c3a I1 ea c n l fun u' s2 I2 ru=>⟨v,H1,I2,ru,q⟩
theorem b0x(ha:PE X o ta)(hv:PE X value tv)(hs:swapsWith value (some (.Attribute o f pos')) pos.line X.env=pure false):PS X (.Assign [.Attribute o f pos'] value pos) (sFld X.K ta tv f):=by
 intro za s σ H D I h;refine plainObj_wpAny_Assign_Attribute (thn (hv za s σ H _ I h) fun u s1 ⟨y,H1,I1,ry,q⟩=>thn (ha za s1 σ H1 _ I1 q) fun ov s2 ⟨x,H2,I2,rx,a,C,dx,fs,ex,ea,c,n,l,q2⟩=>?_) hs;subst ex;obtain rfl:ov=Value.ref a:=rx;exact c3b I2 ea c n l ry fun s3 I3=>⟨σ,_,I3,q2⟩
end
structure Room(k:Nat)(A:Ar):Prop where
 hd:A.handled=none
 dp:A.depth+3 * k+5<recursionLimit
 un:A.units+16 * k+200<cLine
theorem Room.mono{j k:Nat}{A:Ar}(r:Room k A)(h:j<=k):Room j A:=⟨r.hd,by have:=r.dp;lia,by have:=r.un;lia⟩
theorem Room.m{A:Ar}{k j:Nat}(h:Room k A)(d:j≤k:=by decide):Room j A:=h.mono d
theorem Room.deeper{k:Nat}{A:Ar}(r:Room (k+1) A)(env:Env):Room k (A.deeper env):=
 ⟨r.hd,by have:=r.dp;show A.depth+1+3 * k+5<_;lia,by have:=r.un;show A.units+3+16 * k+200<_;lia⟩
theorem Room.in1{k:Nat}{A:Ar}(r:Room (k+1) A):Room k A.in1:=
 ⟨r.hd,by have:=r.dp;show A.depth+3 * k+5<_;lia,by have:=r.un;show A.units+1+16 * k+200<_;lia⟩
theorem c3c{A:Ar}{C:Ad}{us:Vs}{kw:List (Str×Vl)}:(A.under (.builtin "type.__call__" ⟨.ref C::us,kw⟩)).depth=A.depth+1:=by
 first|rfl|simp[Around.under,Code.weight,Code.isCreation,Code.isGuard,Code.isCaller,Code.frames,Code.isFrame,guardIds]
theorem c3d{A:Ar}{C:Ad}{us:Vs}{kw:List (Str×Vl)}:(A.under (.builtin "type.__call__" ⟨.ref C::us,kw⟩)).units=A.units+1:=by
 first|rfl|simp[Around.under,Code.cUnits,Code.frames,Code.isFrame]
theorem Room.make{k:Nat}{A:Ar}(r:Room (k+1) A)(C:Ad)(us:Vs)(kw:List (Str×Vl)):Room k (A.under (.builtin "type.__call__" ⟨.ref C::us,kw⟩)):=
 ⟨r.hd,by have:=r.dp;rw[c3c];lia,by have:=r.un;rw[c3d];lia⟩
theorem Room.depth{k:Nat}{A:Ar}(r:Room k A):A.depth<recursionLimit:=by have:=r.dp;lia
theorem Room.units{k:Nat}{A:Ar}(r:Room k A):A.units+64<cLine:=by have:=r.un;lia
def c0r:TA:=fun _ H Q=>Q [] H
def a8v(ta:TE)(tr:TA):TA:=fun σ H Q=>ta σ H fun x H1=>tr σ H1 fun xs H2=>Q (x::xs) H2
section
variable{X:Cx}{e:Expr}{es:List Expr}{te:TE}{t:TA}{pos:Pos}
theorem a0i:PA X [] c0r:=fun _ _ _ _ H Q I h=>Calls.spliced_nil ⟨[],H,I,.nil,h⟩
theorem a0g(ha:PE X e te)(hr:PA X es t)(hs:starEach (e::es) X.env=(false,eval e X.env)::starEach es X.env:=by rfl):PA X (e::es) (a8v te t):=by
 intro pos za s σ H Q I h;rw[hs];show wpAny _ _ (spliced ((false,eval e X.env)::backTo pos (starEach es X.env))) _ _ s;refine Calls.spliced_cons (thn (ha za s σ H _ I h) fun u s1 ⟨x,H1,I1,r1,q1⟩=>?_);exact thn (hr pos za s1 σ H1 _ I1 q1) fun us s2 ⟨xs,H2,I2,r2,q2⟩=>⟨x::xs,H2,I2,.cons r1 r2,q2⟩
def tTup(t:TA):TE:=fun σ H Q=>t σ H fun xs H1=>xs.length<=sizeLine/\ ∀p,H1 p=none->Q (.ref p) (upd H1 p (.tup xs))
def d7u(t:TA):TE:=fun σ H Q=>t σ H fun xs H1=>xs.length<=sizeLine/\ ∀p,H1 p=none->Q (.ref p) (upd H1 p (.lst xs))
theorem a4o{x1}(h:PA X es t):PE X (.Tuple es x1 pos) (tTup t):=by
 intro za s σ H Q I hq;refine wpAny_Tuple_spliced (thn (h pos za s σ H _ I hq) fun us s1 ⟨xs,H1,I1,r,z,q⟩=>⟨by rw[<-r.length];exact z,?_⟩);have hf:H1 s1.heap.objs.size=none:=I1.hok.fresh (a0K _);refine⟨.ref s1.heap.objs.size,upd H1 s1.heap.objs.size (.tup xs),I1.laid (t':=s1.toks) (fun b u e=>a0H _ e) (a0K _) ?_,rfl,q _ hf⟩;exact⟨z,us,r,⟨_,a0X _ rfl,rfl,_,rfl,rfl⟩⟩
theorem a2t(h:PA X es t):PE X (.List es pos) (d7u t):=by
 intro za s σ H Q I hq;refine wpAny_List_spliced (thn (h pos za s σ H _ I hq) fun us s1 ⟨xs,H1,I1,r,z,q⟩=>⟨by rw[<-r.length];exact z,?_⟩);have hf:H1 s1.heap.objs.size=none:=I1.hok.fresh (a0K _);refine⟨.ref s1.heap.objs.size,upd H1 s1.heap.objs.size (.lst xs),I1.laid (t':=s1.toks) (fun b u e=>a0H _ e) (a0K _) ?_,rfl,q _ hf⟩;exact⟨z,us,0,r,a0X _ rfl⟩
end
abbrev Sp:=List V->Hp->VK->XK->Prop
abbrev CXT:=List Env->Hp->Sh->XK->Vl->Sh->Prop
structure Env0(P:Pg)(w:World)(K:W.Frag)(mg:SV)(base:Heap)(A:Ar)(outer:List Env)(s:Sh)(H:Hp):Prop where
 frames:A.frames=some outer
 mod:Mod K mg base
 bs: ∀b o,base.get? b=some o->s.heap.get? b=some o/\H b=none
 bsz:base.objs.size<=s.heap.objs.size
 funs:s.heap.FunFrames base outer
 frf: ∀b∈frs outer,H b=none
 hok:HOk P w H s.heap
 bare:AllBare s.gens
def CE(outer:List Env)(P:Pg)(w:World)(H:Hp)(s:Sh)(Q:VK)(u:Vl)(s':Sh):Prop:=
 ∃v H',s'.os=s.os/\AllBare s'.gens/\Un (frs outer) [] H H' s.heap s'.heap/\HOk P w H' s'.heap/\RelV v u/\Q v H'
def CR(CX:CXT)(outer:List Env)(P:Pg)(w:World)(H:Hp)(s:Sh)(Q:VK)(E:XK)(r:Result)(s':Sh):Prop:=
 match r with
 | .ok (.ret u)=>CE outer P w H s Q u s'
 | .ok _=>False
 | .error e=>CX outer H s E e s'
structure FnOk(P:Pg)(w:World)(K:W.Frag)(mg:SV)(base:Heap)(CX:CXT)(k:Nat)(f:Ad)(fd:Fd)(ps:Ss)(sp:Sp):Prop where
 len: ∀vs H Q E,sp vs H Q E->vs.length=ps.length
 run: ∀(A:Ar) (outer:List Env) (s:Sh) (H:Hp) (args:Args) (us:Vs) (vs:List V) (Q:VK) (E:XK),Room k A->Env0 P w K mg base A outer s H->BindsTo s fd args (ps.zip us)->Vals vs us->sp vs H Q E->
  codeAny (model P w) A (.call (.ref f) args) (CR CX outer P w H s Q E) s
theorem Env0.make{P:Pg}{w:World}{K:W.Frag}{mg:SV}{base:Heap}{A:Ar}{outer:List Env}{s:Sh}{H:Hp}(e:Env0 P w K mg base A outer s H)(C:Ad)(us:Vs)(kw:List (Str×Vl)):
  Env0 P w K mg base (A.under (.builtin "type.__call__" ⟨.ref C::us,kw⟩)) outer s H:=⟨by first|exact e.frames|(simpa[Around.under,Code.envs,Code.isFrame,pushEnvs]using e.frames),e.mod,e.bs,e.bsz,e.funs,e.frf,e.hok,e.bare⟩
theorem Env0.in1{P:Pg}{w:World}{K:W.Frag}{mg:SV}{base:Heap}{A:Ar}{outer:List Env}{s:Sh}{H:Hp}(e:Env0 P w K mg base A outer s H):
  Env0 P w K mg base A.in1 outer s H:=⟨e.frames,e.mod,e.bs,e.bsz,e.funs,e.frf,e.hok,e.bare⟩
section
variable{X:Cx}{za:AO}{σ:St}{H:Hp}{s s':Sh}
theorem Inv.env0(I:Inv X za σ H s):Env0 X.prog X.w X.K X.mg X.base X.A X.stack s H:=
 ⟨I.ok.frames,I.ok.mod,I.bs,a1C I.ok.bsz I.sz,I.stack,I.stkFree,I.hok,I.bare⟩
theorem Inv.after{Q:VK}{u:Vl}(I:Inv X za σ H s)(h:CE X.stack X.prog X.w H s Q u s'):EP X za σ Q u s':=by
 obtain⟨v,H',os,bare,un,hok,r,q⟩:=h;obtain⟨hh,g,d,t,os'⟩:=s';obtain rfl:os'=s.os:=os;exact⟨v,H',I.call (h':=hh) (g':=g) (d':=d) (t':=t) (ch:=[]) un hok bare (fun b z=>wC z (by simp)),r,q⟩
end
def d0s(sp:Sp)(dvs:List V)(E:XK)(t:TA):TE:=fun σ H Q=>t σ H fun vs H1=>sp (vs++dvs) H1 Q E
def d0t(C:Ad)(m:Str)(sp:Sp)(dvs:List V)(E:XK)(ta:TE)(t:TA):TE:=fun σ H Q=>ta σ H fun x H1=> ∃a dx fs,x= .ref a/\H1 a=some (.ins C dx fs)/\fs.lookup m=none/\
 t σ H1 fun vs H2=>sp (x::(vs++dvs)) H2 Q E
def d7v(C:Ad)(sp:Sp)(dvs:List V)(E:XK)(t:TA):TE:=fun σ H Q=>t σ H fun vs H1=> ∀x dx,H1 x=none->H1 dx=none->dx≠x->
 sp (.ref x::(vs++dvs)) (upd (upd H1 dx (.own x)) x (.ins C dx [])) (fun v H2=>v= .non/\Q (.ref x) H2) E
def Binds(K:W.Frag)(fd:Fd)(ps:Ss)(ds:Vs):Prop:=
 ∀(s:Sh) (us:Vs),K.In s.heap->(us++ds).length=ps.length->BindsTo s fd ⟨us,[]⟩ (ps.zip (us++ds))
theorem Binds.all{K:W.Frag}{fd:Fd}{ps:Ss}(h: ∀us:Vs,us.length=ps.length->bindArgs fd ⟨us,[]⟩=pure (ps.zip us)):Binds K fd ps []:=fun s us _ hl=>by
 rw[a2I]at hl⊢;exact .of_eq (h us hl)
def b0y(CX:CXT)(X:Cx)(E:XK):Prop:= ∀(za:AO) (σ:St) (H:Hp) (s:Sh) (e:Vl) (s':Sh),Inv X za σ H s->CX X.stack H s E e s'->X.xe e s'
section
variable{X:Cx}{CX:CXT}{k:Nat}{f C:Ad}{fd:Fd}{ps:Ss}{sp:Sp}{dvs:List V}{ds:Vs}{E:XK}{x m:Str}{p pos apos:Pos}{e o:Expr}{es:List Expr}{ta:TE}{t:TA}
theorem c0s{za:AO}{σ:St}{H:Hp}{s:Sh}{Q:VK}{us:Vs}{vs:List V}(F:FnOk X.prog X.w X.K X.mg X.base CX k f fd ps sp)(hr:Room k X.A)(hb:Binds X.K fd ps ds)(hd:Vals dvs ds)(hx:b0y CX X E)
  (I:Inv X za σ H s) (r:Vals vs us) (h:sp (vs++dvs) H Q E):wpAny (model X.prog X.w) X.A (call (.ref f) us) (EP X za σ Q) X.xe s:=by
 have r2:Vals (vs++dvs) (us++ds):=r.append hd;have hl:(us++ds).length=ps.length:=by rw[<-r2.length];exact F.len _ _ _ _ h
 refine b0M (a5U (F.run X.A X.stack s H ⟨us,[]⟩ (us++ds) (vs++dvs) Q E hr I.env0 (hb s us I.kIn hl) r2 h) fun r s' hq=>?_);cases r with
 |error e=>exact hx za σ H s e s' I hq
 |ok fl=>
  cases fl with
  |ret u=>exact I.after hq
  |next=>exact wE hq
  |brk=>exact wE hq
  |cont=>exact wE hq
theorem d5a(F:FnOk X.prog X.w X.K X.mg X.base CX k f fd ps sp)(hr:Room k X.A)(hg:Gl X x)(hm:X.mg x=some (.ref f))(hk:PySem.W.keepIn X.K (.ref f)=true)(hb:Binds X.K fd ps ds)(hd:Vals dvs ds)(hx:b0y CX X E)
  (ha:PA X (e::es) t) (hdb:(x==("__debug__":Str))=false:=by decide) (he:starEach (e::es) X.env=(false,eval e X.env)::starEach es X.env:=by rfl) (hpl:(backTo pos (starEach es X.env)).any (·.1)=false:=by rfl):
  PE X (.Call (.Name x p) (e::es) [] pos) (d0s sp dvs E t):=by
 intro za s σ H Q I h;refine a4M (b4f I hg hm ?_ hdb);refine a7M (h₀:=X.base) I.ok.mod.kin hk (thn (ha pos za s σ H _ I h) fun us s1 ⟨vs,H1,I1,r,q⟩=>⟨I1.kIn,?_⟩) he hpl;exact c0s F hr hb hd hx I1 r q
theorem d5b{pl:Sem Bool}(he:PE X o ta)(c:Cls X.K C)(hm:Meth X.K C m f)(F:FnOk X.prog X.w X.K X.mg X.base CX k f fd ps sp)(hr:Room k X.A)(hb:Binds X.K fd ps ds)(hd:Vals dvs ds)(hx:b0y CX X E)(ha:PA X (e::es) t)
  (hst:starEach (e::es) X.env=(false,eval e X.env)::starEach es X.env:=by rfl) (hpl:(backTo pos (starEach es X.env)).any (·.1)=false:=by rfl)
  (ht:eval (.Call (.Attribute o m apos) (e::es) [] pos) X.env=(do
   let ov <-eval o X.env
   standAt apos.atName
   let(f,first) <-holding [ov] (getMethod ov m pl)
   callWith pos f first (backTo pos (starEach (e::es) X.env)) (backToKw pos (keywordEach [] X.env))):=by rfl):
  PE X (.Call (.Attribute o m apos) (e::es) [] pos) (d0t C m sp dvs E ta t):=by
 intro za s σ H Q I h;refine PySem.W.methodCall_KW (pl:=pl) (thn (he za s σ H _ I h) fun u s1 ⟨x,H1,I1,rx,a,dx,fs,ex,ea,l,q⟩=>?_) ht;subst ex;obtain rfl:u=Value.ref a:=rx;refine b3j I1 ea c hm l ?_;refine a7M (first:=[.ref a]) (h₀:=X.base) I.ok.mod.kin hm.kp (thn (ha pos za s1 σ H1 _ I1 q) fun us s2 ⟨vs,H2,I2,r,q2⟩=>⟨I2.kIn,?_⟩) hst hpl;exact c0s (us:= .ref a::us) (vs:= .ref a::vs) F hr hb hd hx I2 (.cons rfl r) q2
theorem d0u{pl:Sem Bool}(he:PE X o ta)(c:Cls X.K C)(hm:Meth X.K C m f)(F:FnOk X.prog X.w X.K X.mg X.base CX k f fd ps sp)(hr:Room k X.A)(hb:Binds X.K fd ps ds)(hd:Vals dvs ds)(hx:b0y CX X E)
  (ht:eval (.Call (.Attribute o m apos) [] [] pos) X.env=(do
   let ov <-eval o X.env
   standAt apos.atName
   let(f,first) <-holding [ov] (getMethod ov m pl)
   callWith pos f first (backTo pos (starEach [] X.env)) (backToKw pos (keywordEach [] X.env))):=by rfl):
  PE X (.Call (.Attribute o m apos) [] [] pos) (d0t C m sp dvs E ta c0r):=by
 intro za s σ H Q I h;refine PySem.W.methodCall_KW (pl:=pl) (thn (he za s σ H _ I h) fun u s1 ⟨x,H1,I1,rx,a,dx,fs,ex,ea,l,q⟩=>?_) ht;subst ex;obtain rfl:u=Value.ref a:=rx;refine b3j I1 ea c hm l ?_;exact PySem.W.callWith_K0 (first:=[.ref a]) I1.kIn hm.kp (c0s (us:=[.ref a]) (vs:=[.ref a]) F hr hb hd hx I1 (.cons rfl .nil) q)
structure Mk(K:W.Frag)(C f:Ad):Prop where
 makes:PySem.W.makesIn K C=true
 init:PySem.W.findIn K (.ref C) "__init__"=some (some (.ref f))
 fn:PySem.W.isFn K (.ref f)=true
 kp:PySem.W.keepIn K (.ref C)=true
theorem d0v{za:AO}{σ:St}{H:Hp}{s:Sh}{Q:VK}{us:Vs}{vs:List V}(M:Mk X.K C f)(F:FnOk X.prog X.w X.K X.mg X.base CX k f fd ps sp)(hr:Room (k+1) X.A)(hb:Binds X.K fd ps ds)(hd:Vals dvs ds)
  (hx:b0y CX X E) (I:Inv X za σ H s) (r:Vals vs us)
  (h: ∀x dx,H x=none->H dx=none->dx≠x->sp (.ref x::(vs++dvs)) (upd (upd H dx (.own x)) x (.ins C dx [])) (fun v H2=>v= .non/\Q (.ref x) H2) E):
  wpAny (model X.prog X.w) X.A (call (.ref C) us) (EP X za σ Q) X.xe s:=by
 have hq:=h (s.heap.objs.size+1) s.heap.objs.size (I.hok.fresh (a7E _)) (I.hok.fresh (a0K _)) (a1M (a3U _));have I2:=Inv.made (C:=C) I;have r2:Vals (V.ref (s.heap.objs.size+1)::(vs++dvs)) (Value.ref (s.heap.objs.size+1)::(us++ds)):= .cons rfl (r.append hd);have hl:(Value.ref (s.heap.objs.size+1)::us++ds).length=ps.length:=by
  have e:=r2.length;rw[F.len _ _ _ _ hq]at e;exact e.symm
 refine b0M (d0r (f:=f) I.kIn M.makes M.init (a6T.mp M.fn) (a5U (F.run _ X.stack _ _ ⟨Value.ref (s.heap.objs.size+1)::us,[]⟩ (Value.ref (s.heap.objs.size+1)::(us++ds)) _ _ E (hr.make C us [])
  (I2.env0.make C us []) (hb _ (Value.ref (s.heap.objs.size+1)::us) I2.kIn hl) r2 hq) fun r s' hq'=>?_))
 cases r with
 |error e=>exact hx za σ _ _ e s' I2 hq'
 | ok fl=>
  cases fl with
  |ret u=>
   obtain⟨v,H',I3,rv,ev,q3⟩:=I2.after hq';subst ev;exact⟨rv,⟨V.ref (s.heap.objs.size+1),H',I3,rfl,q3⟩⟩
  |next=>exact wE hq'
  |brk=>exact wE hq'
  |cont=>exact wE hq'
theorem d5c(M:Mk X.K C f)(F:FnOk X.prog X.w X.K X.mg X.base CX k f fd ps sp)(hr:Room (k+1) X.A)(hg:Gl X x)(hm:X.mg x=some (.ref C))(hb:Binds X.K fd ps ds)(hd:Vals dvs ds)(hx:b0y CX X E)
  (ha:PA X (e::es) t) (hdb:(x==("__debug__":Str))=false:=by decide) (he:starEach (e::es) X.env=(false,eval e X.env)::starEach es X.env:=by rfl) (hpl:(backTo pos (starEach es X.env)).any (·.1)=false:=by rfl):
  PE X (.Call (.Name x p) (e::es) [] pos) (d7v C sp dvs E t):=by
 intro za s σ H Q I h;refine a4M (b4f I hg hm ?_ hdb);refine a7M (h₀:=X.base) I.ok.mod.kin M.kp (thn (ha pos za s σ H _ I h) fun us s1 ⟨vs,H1,I1,r,q⟩=>⟨I1.kIn,?_⟩) he hpl;exact d0v M F hr hb hd hx I1 r q
end
structure FnScope(N P:Ss)(sc:Scope):Prop where
 kind:sc.kind= .function:=by rfl
 co:sc.isCoroutine=false:=by rfl
 gen:sc.isGenerator=false:=by rfl
 nd:N.Nodup:=by decide+kernel
 pre:N.take P.length=P:=by rfl
 par: ∀x∈P,sc.names.lookup x=some .local∨sc.names.lookup x=some .cell:=by decide+kernel
 nofree: ∀y∈sc.names,y.2≠ .free:=by decide+kernel
theorem b6m{kindOf:Str->Option NameKind}{x:Str}: ∀{binds:List (Str×Vl)} {m:SV},(∀v,(x,v)∉binds)->bindL kindOf binds m x=m x
 | [],_,_=>rfl
 | (n,v)::r,m,h=>by
  unfold bindL;rw[b6m fun w hw=>h w (a1D _ hw)];split
  ·have:x≠n:=by rintro rfl;exact h v a0T
   simp[this]
  ·rfl
theorem b6n{kindOf:Str->Option NameKind}{x:Str}: ∀{binds:List (Str×Vl)} {m:SV},(∀v,(x,v)∉binds)->bindC kindOf binds m x=m x
 | [],_,_=>rfl
 | (n,v)::r,m,h=>by
  unfold bindC;rw[b6n fun w hw=>h w (a1D _ hw)];split
  ·rfl
  ·have:x≠n:=by rintro rfl;exact h v a0T
   simp[this]
theorem b6o{kindOf:Str->Option NameKind}{x:Str}{v:Vl}: ∀{P:Ss} {vs:Vs} {i:Nat} {m:SV},P.Nodup->P[i]? =some x->vs[i]? =some v->kindOf x=some .local->
  bindL kindOf (P.zip vs) m x=some v
 | [],_,_,_,_,h,_,_=>by simp at h
 |_::_,[],_,_,_,_,h,_=>by simp at h
 |p::P,w::vs,0,m,nd,h1,h2,hk=>by
  simp at h1 h2;subst h1;subst h2;show bindL kindOf ((p,w)::P.zip vs) m p=_;unfold bindL;rw[b6m fun v hv=>(a3F.mp nd).1 (a9E hv).1,wB hk];simp
 |p::P,w::vs,i+1,m,nd,h1,h2,hk=>by
  show bindL kindOf ((p,w)::P.zip vs) m x=_;unfold bindL;exact b6o (i:=i) (a3F.mp nd).2 (by simpa using h1) (by simpa using h2) hk
theorem b6p{kindOf:Str->Option NameKind}{x:Str}{v:Vl}: ∀{P:Ss} {vs:Vs} {i:Nat} {m:SV},P.Nodup->P[i]? =some x->vs[i]? =some v->kindOf x≠some .local->
  bindC kindOf (P.zip vs) m x=some v
 | [],_,_,_,_,h,_,_=>by simp at h
 |_::_,[],_,_,_,_,h,_=>by simp at h
 |p::P,w::vs,0,m,nd,h1,h2,hk=>by
  simp at h1 h2;subst h1;subst h2;show bindC kindOf ((p,w)::P.zip vs) m p=_;unfold bindC;rw[b6n fun v hv=>(a3F.mp nd).1 (a9E hv).1,wA hk];simp
 |p::P,w::vs,i+1,m,nd,h1,h2,hk=>by
  show bindC kindOf ((p,w)::P.zip vs) m x=_;unfold bindC;exact b6p (i:=i) (a3F.mp nd).2 (by simpa using h1) (by simpa using h2) hk
def start(N:Ss)(vs:List V):St:=vs.map some++List.replicate (N.length-vs.length) none
def d5d(CX:CXT)(P:Pg)(w:World)(K:W.Frag)(mg:SV)(base:Heap)(N:Ss)(qual:Str)(scope:Scope)(f:Ad)(cd:Vl)(A:Ar)(outer:List Env)(s:Sh)(H:Hp)(E:XK):Cx where
 prog:=P
 w:=w
 K:=K
 mg:=mg
 base:=base
 A:=A.deeper (envOfC qual scope s.heap.objs.size f cd)
 N:=N
 s₀:=s
 H₀:=H
 env:=envOfC qual scope s.heap.objs.size f cd
 outer:=outer
 stack:=envOfC qual scope s.heap.objs.size f cd::outer
 ex:=[]
 calm:=true
 fn:=fun _=>true
 pn:=[]
 xe:=fun e s'=>wpAny (model P w) (A.deeper (envOfC qual scope s.heap.objs.size f cd)) (leaving (envOfC qual scope s.heap.objs.size f cd) e) (fun _ s''=>CX outer H s E e s'') (fun e' s''=>CX outer H s E e' s'') s'
theorem c0t{sc:Scope}{n:Nat}{x:Str}(h:sc.names.lookup x=some .cell): ∃c,(cellsFrom n sc.names []).lookup x=some c:=by
 have q:=PySem.W.cellsFrom_some sc.names n [] (.inl h);exact Option.isSome_iff_exists.mp q
theorem c5l{CX:CXT}{P:Pg}{w:World}{K:W.Frag}{mg:SV}{base:Heap}{N ps:Ss}{qual:Str}{scope:Scope}{f:Ad}{cd:Vl}{A:Ar}{outer:List Env}{s s1:Sh}{H:Hp}{E:XK}{us:Vs}{vs:List V}
  (S:FnScope N ps scope) (hd:A.handled=none) (e0:Env0 P w K mg base A outer s H) (hl:vs.length=ps.length) (r:Vals vs us)
  (x:InCallC s s.heap.objs.size (bindL (envOfC qual scope s.heap.objs.size f cd).kindOf (ps.zip us) fun _=>none) (cellsFrom (s.heap.objs.size+1) scope.names []) (bindC (envOfC qual scope s.heap.objs.size f cd).kindOf (ps.zip us) fun _=>none) s1):
  Inv (d5d CX P w K mg base N qual scope f cd A outer s H E) [] (start N vs) H s1:=by
 have hpl:ps.length<=N.length:=by have:=a1W List.length S.pre;rw[a0W]at this;lia
 obtain⟨h1,tk,rfl,hk⟩:=x.done;have noA: ∀b:Ad,b∉(d5d CX P w K mg base N qual scope f cd A outer s H E).ex:=fun b z=>wC (show b∈([]:As)from z) (by simp);refine⟨⟨e0.mod,S.kind,rfl,rfl,a0K _,fun y z c h1 h2=>?_,fun y hy=>?_,fun y c _ h=>?_,fun _=>hd,Around.frames_deeper e0.frames,.inr ⟨rfl,rfl⟩,fun b z=>wC z (noA b),e0.bs,e0.bsz,fun b _ _=>noA b,fun b z=>wC z (noA b),e0.funs,e0.frf⟩,
  rfl,e0.bare,Un.kept hk,⟨_,x.toInCall.ns,fun i y v h1 h2 h3=>?_⟩,fun y c h=>⟨_,x.cell y c h⟩,e0.hok.fresh (a0K _),fun y c h=>?_,fun p hp=>wC (show p∈([]:AO)from hp) (by simp),e0.hok.kept hk,?_⟩
 ·exact name_of_addr x.apart (a3L h1) (a3L h2)
 ·have hy:scope.names.lookup y=some .cell∨scope.names.lookup y=some .free:=hy
  rcases hy with hy|hy
  ·exact c0t hy
  ·exact wC rfl (S.nofree _ (a3L hy))
 ·exact a1S (x.above y c (a3L h))
 ·have hi:i<vs.length:=by
   unfold start at h2;by_cases hi:i<vs.length
   ·exact hi
   ·rw[a0M (by simpa using hi)]at h2;rw[List.getElem?_replicate]at h2;split at h2<;>cases h2
  have ha:vs[i]? =some v:=by
   unfold start at h2;rw[a0N (by simpa using hi),List.getElem?_map]at h2;cases e:vs[i]? with
   |none=>rw[e]at h2;cases h2
   |some a=>rw[e]at h2;cases h2;rfl
  obtain⟨u,hu,rv⟩:=r.get ha;have hp:ps[i]? =some y:=by
   rw[<-S.pre,a2G (by lia)];exact h1
  have ndP:ps.Nodup:=by rw[<-S.pre];exact S.nd.sublist (a5K _ _)
  refine⟨u,rv,?_⟩
  rcases S.par y (a0E hp)with k|k
  ·exact .inl ⟨k,b6o ndP hp hu k⟩
  ·obtain⟨c,e⟩:=c0t (n:=s.heap.objs.size+1) k;refine .inr ⟨.inl k,c,e,?_⟩;have q:=x.cell y c e;rw[b6p ndP hp hu (by show scope.names.lookup y≠_;rw[k];decide)]at q;exact q
 ·exact e0.hok.fresh (a1S (x.above y c (a3L h)))
 ·unfold start;show _=N.length;rw[a0L,a0C,a6O];lia
theorem d7w{CX:CXT}{P:Pg}{w:World}{K:W.Frag}{mg:SV}{base:Heap}{k:Nat}{f:Ad}{name qual:Str}{params:Arguments}{body:List Stmt}{scope:Scope}{dV kV doc pm cdv ct oc:Vl}{an od:Option Ad}
  {osl:Array (Option Vl)} {N ps:Ss} {sp:Sp} (lk:K.lookup f=some ⟨oc,od,.func (PySem.W.fnOf name qual params body scope dV kV doc pm an cdv ct),osl⟩) (hcd:PySem.W.codeIn K cdv qual=true) (S:FnScope N ps scope)
  (len: ∀vs H Q E,sp vs H Q E->vs.length=ps.length)
  (hbody: ∀(A:Ar) (outer:List Env) (s:Sh) (H:Hp) (vs:List V) (Q:VK) (E:XK),Room k (A.deeper (envOfC qual scope s.heap.objs.size f cdv))->sp vs H Q E->
   ∃t,PSs (d5d CX P w K mg base N qual scope f cdv A outer s H E) body t/\t {nx:=fun _ H'=>Q .non H',rt:=Q} (start N vs) H):
  FnOk P w K mg base CX (k+1) f (PySem.W.fnOf name qual params body scope dV kV doc pm an cdv ct) ps sp:=by
 refine⟨len,fun A outer s H args us vs Q E hr e0 hb r hsp=>?_⟩;have hl:=len _ _ _ _ hsp;have KX:K.In s.heap:=e0.mod.kin.keeps fun b o e=>(e0.bs b o e).1;have lim:s.heap.NoLimit:=e0.mod.nolimit.keeps fun b o e=>(e0.bs b o e).1;have hkind: ∀y∈ps.zip us,scope.names.lookup y.1=some .local∨(scope.names.lookup y.1=some .cell/\((cellsFrom (s.heap.objs.size+1) scope.names []).lookup y.1).isSome=true):=fun⟨n,v⟩ hy=>by
  rcases S.par n (a9E hy).1 with q|q
  ·exact .inl q
  ·exact .inr ⟨q,PySem.W.cellsFrom_some _ _ _ (.inl q)⟩
 refine codeAny_call_function hr.depth (KX _ _ lk) rfl S.co S.gen rfl (PySem.W.codeRec_of KX hcd) (hb _ _ _ _ ?_);refine wpAny_newFunctionEnv_cells S.kind hkind fun env he s1 x=>?_;subst he;refine⟨lim.keeps x.toInCall.keep,codeAny_func ?_⟩;obtain⟨t,ht,hq⟩:=hbody A outer s H vs Q E (hr.deeper _) hsp;have I:Inv (d5d CX P w K mg base N qual scope f cdv A outer s H E) [] (start N vs) H s1:=c5l S hr.hd e0 hl r x;refine a3Q (ht [] s1 (start N vs) H _ I hq) (fun fl s' hs=>?_) fun e s' hs=>hs;have fin: ∀{σ':St} {H':Hp} {v:V} {u:Vl},Inv (d5d CX P w K mg base N qual scope f cdv A outer s H E) [] σ' H' s'->RelV v u->Q v H'->CE outer P w H s Q u s':=
  fun {σ' H' v u} J rv q=>⟨v,H',J.os,J.bare,J.base,J.hok,rv,q⟩
 cases fl with
 |ret u=>
  obtain⟨v,σ',H',J,rv,q⟩:=hs;exact fin J rv q
 |next=>
  obtain⟨σ',H',J,q⟩:=hs;exact fin (v:=V.non) (u:=Value.none) J rfl q
 |brk=>
  obtain⟨_,_,_,q⟩:=hs;exact wE q
 |cont=>
  obtain⟨_,_,_,q⟩:=hs;exact wE q
section
variable{X:Cx}{x:Str}{p pos:Pos}{e:Expr}{es:List Expr}{t:TA}{id T:String}{r:List V->Hp->VK->Prop}
def tCB(r:List V->Hp->VK->Prop)(t:TA):TE:=fun σ H Q=>t σ H fun vs H1=>r vs H1 Q
theorem a0t(hc:a7r X (.builtin id) r)(hg:Gl X x)(hm:X.mg x=none)(hv:bootBuiltins x=some (.builtin id))(ha:PA X (e::es) t)(hn:x≠"__name__":=by decide)(hdb:(x==("__debug__":Str))=false:=by decide)
  (he:starEach (e::es) X.env=(false,eval e X.env)::starEach es X.env:=by rfl) (hpl:(backTo pos (starEach es X.env)).any (·.1)=false:=by rfl):PE X (.Call (.Name x p) (e::es) [] pos) (tCB r t):=by
 intro za s σ H Q I h;refine a4M (b3d I hg hm hv ?_ hn hdb);exact PyProof.Rows.callWith_builtin1 (thn (ha pos za s σ H _ I h) fun us s1 ⟨vs,H1,I1,r1,q1⟩=>hc za s1 σ H1 vs us Q I1 r1 q1) he hpl
theorem a1i(hc:a7r X (.type T) r)(hg:Gl X x)(hm:X.mg x=none)(hv:bootBuiltins x=some (.type T))(ha:PA X (e::es) t)(hn:x≠"__name__":=by decide)(hdb:(x==("__debug__":Str))=false:=by decide)
  (he:starEach (e::es) X.env=(false,eval e X.env)::starEach es X.env:=by rfl) (hpl:(backTo pos (starEach es X.env)).any (·.1)=false:=by rfl):PE X (.Call (.Name x p) (e::es) [] pos) (tCB r t):=by
 intro za s σ H Q I h;refine a4M (b3d I hg hm hv ?_ hn hdb);exact a4X (thn (ha pos za s σ H _ I h) fun us s1 ⟨vs,H1,I1,r1,q1⟩=>hc za s1 σ H1 vs us Q I1 r1 q1) he hpl
end
end L2
namespace HT
open PySem PyProof.Rows
theorem eqAt_int(A:Ar)(s:Sh)(a:Int)(t:Tok)(c:Int)(u:Tok): ∃e,SeqAt.EqAt A s (.int a t) (.int c u) e/\(e=true↔a=c):=
 ⟨(a==c),SeqAt.EqAt.int_int a t c u,by simp⟩
section
variable{prog:Pg}{w:World}{A:Ar}{E:VP}{s:Sh}
theorem cat_tup{t b:Ad}{vs ws:Vs}{Q:VP}(ht:IsTup s.heap t vs.toArray)(hb:IsTup s.heap b ws.toArray)(hv:vs≠[])
  (h1:ws=[]->Q (.ref t) s) (h2:ws≠[]->Q (.ref s.heap.objs.size) {s with heap:=s.heap.push {cls:= .type "tuple",data:= .seq (vs++ws).toArray}})
  (hsz:vs.length+ws.length<=sizeLine):wpAny (model prog w) A (binaryOp .Add (.ref t) (.ref b)) Q E s:=by
 obtain⟨⟨cls,dd,data,sl⟩,ho,hc,n,hd⟩:=id ht;obtain⟨⟨cls2,dd2,data2,sl2⟩,ho2,hc2,n2,hd2⟩:=id hb;simp only at hc hd hc2 hd2;subst hc hd hc2 hd2;have e:vs.toArray++ws.toArray=(vs++ws).toArray:=by simp
 by_cases hw:ws=[]
 ·exact b0A ⟨_,ho,rfl⟩ ⟨_,ho2,rfl⟩ a9Y seq_tuple_add PySem.F.slot_tuple_add PySem.F.entry_tuple_add (PySem.F.args_tuple_add_2 _ _)
   (tuple_addW1 t b vs.toArray ws.toArray n n2 dd dd2 sl sl2 (by simpa using hv) (by simp[hw])) ⟨ho,ho2,h1 hw⟩
 ·refine b0A ⟨_,ho,rfl⟩ ⟨_,ho2,rfl⟩ a9Y seq_tuple_add PySem.F.slot_tuple_add PySem.F.entry_tuple_add (PySem.F.args_tuple_add_2 _ _)
   (tuple_addW2 t b vs.toArray ws.toArray n n2 dd dd2 sl sl2 (by simpa using hv) (by simpa using hw) (by rw[List.size_toArray,List.size_toArray];exact hsz)) ⟨ho,ho2,?_⟩
  rw[e];exact h2 hw
def sIx(n d:Nat):Option Int->Nat
 |none=>d
 |some v=>if v<0 then(v+(n:Int)).toNat else min v.toNat n
theorem sIx_none(n d:Nat):sIx n d none=d:=rfl
theorem sIx_nat(n d k:Nat):sIx n d (some (k:Int))=min k n:=by
 show(if(k:Int)<0 then((k:Int)+(n:Int)).toNat else min (k:Int).toNat n)=min k n;rw[wA (by lia),a1U]
theorem d7x(n d:Nat)(hd:d<=n)(o:Option Int):sIx n d o<=n:=by
 cases o with
 |none=>exact hd
 |some v=>
  show(if v<0 then(v+(n:Int)).toNat else min v.toNat n)<=n;by_cases hv:v<0
  ·rw[wB hv];lia
  ·rw[wA hv];exact Nat.min_le_right _ _
theorem c5m(v:Int)(n d:Nat):(if v<0 then max (v+(n:Int)) 0 else min v (n:Int))=((sIx n d (some v):Nat):Int):=by
 show(if v<0 then max (v+(n:Int)) 0 else min v (n:Int))=(((if v<0 then(v+(n:Int)).toNat else min v.toNat n):Nat):Int);by_cases hv:v<0
 ·simp only[wB hv];lia
 ·simp only[wA hv];lia
theorem c3e(lo hi:Option Int)(n:Nat):Builtin.Slice.sliceAdjust lo hi 1 (n:Int)=(((sIx n 0 lo:Nat):Int),((sIx n n hi:Nat):Int)):=by
 have h1: ¬((1:Int)<0):=by lia
 unfold Builtin.Slice.sliceAdjust;simp only[h1,if_false];refine Prod.ext ?_ ?_
 ·cases lo with
  |none=>rfl
  |some v=>exact c5m v n 0
 ·cases hi with
  |none=>rfl
  |some v=>exact c5m v n n
theorem c3f(i j:Nat):Builtin.Slice.slicePlaces (i:Int) (j:Int) 1=j-i:=by
 unfold Builtin.Slice.slicePlaces;have h1:(1:Int)>0:=by lia
 simp only[h1,if_true,Int.ediv_one];split<;>lia
theorem b3k{v:Vl}{o:Option Int}{Q:Option Int->Sh->Prop}(p:IsPart v o)(h:Q o s):wpAny (model prog w) A (Builtin.Slice.slicePartIndex v) Q E s:=by
 cases p with
 |none=>exact slicePart_none h
 |int i t=>exact slicePart_int h
theorem sliceApplied_gen{sl:Ad}{vl vu:Vl}{lo hi:Option Int}{n:Nat}{Q:Int×Int×Nat->Sh->Prop}(hs:s.heap.IsSliceOf sl vl vu .none)(pl:IsPart vl lo)(pu:IsPart vu hi)
  (h:Q (((sIx n 0 lo:Nat):Int),1,sIx n n hi-sIx n 0 lo) s):wpAny (model prog w) A (Builtin.Slice.sliceApplied (.ref sl) (pure (n:Int))) Q E s:=by
 obtain⟨os,hos,hcs,hds⟩:=id hs;unfold Builtin.Slice.sliceApplied Builtin.Slice.sliceFields;refine a0D (a0D (a6P hos hds (x:=vl) rfl (a0D (a6P hos hds (x:=vu) rfl (a0D (a6P hos hds (x:= .none) rfl (a0G ?_)))))));refine a0D (slicePart_none ?_);show wpAny _ _ (if((1:Int)==0)=true then _ else _) _ _ s;rw[wA (by decide)];refine a0D (b3k pl (a0D (b3k pu (a0D (a0G ?_)))));show wpAny _ _ (match Builtin.Slice.sliceAdjust lo hi 1 (n:Int)with|(lo,hi)=>pure (lo,(1:Int),Builtin.Slice.slicePlaces lo hi 1)) _ _ s;rw[c3e lo hi n];show wpAny _ _ (pure (((sIx n 0 lo:Nat):Int),(1:Int),Builtin.Slice.slicePlaces ((sIx n 0 lo:Nat):Int) ((sIx n n hi:Nat):Int) 1)) _ _ s;rw[c3f];exact a0G h
theorem d0w(xs:AV)(i k:Nat):((List.range k).filterMap fun(m:Nat)=>xs[((i:Int)+(m:Int) * 1).toNat]?).toArray=((xs.toList.drop i).take k).toArray:=by
 have e:(fun(m:Nat)=>xs[((i:Int)+(m:Int) * 1).toNat]?)=fun m=>xs[i+m]? :=by
  funext m
  have:((i:Int)+(m:Int) * 1).toNat=i+m:=by lia
  rw[this]
 rw[e];have:=pick_run xs i k;rw[List.filterMap_map]at this;have e2:((fun x=>xs[x]?)∘fun x=>i+x)=fun m=>xs[i+m]? :=rfl;rw[e2]at this;rw[this]
theorem getItem_tuple_cut{t sl:Ad}{items:AV}{vl vu:Vl}{lo hi:Option Int}{Q:VP}(ht:IsTup s.heap t items)(hs:s.heap.IsSliceOf sl vl vu .none)(pl:IsPart vl lo)(pu:IsPart vu hi)
  (hw: ¬(sIx items.size 0 lo=0/\sIx items.size items.size hi=items.size))
  (h:Q (.ref s.heap.objs.size) {s with heap:=s.heap.push {cls:= .type "tuple",data:= .seq ((items.toList.drop (sIx items.size 0 lo)).take (sIx items.size items.size hi-sIx items.size 0 lo)).toArray}})
  (hsz:items.size<=sizeLine):wpAny (model prog w) A (getItem (.ref t) (.ref sl)) Q E s:=by
 have htake:sizeOk (.seq ((items.toList.drop (sIx items.size 0 lo)).take (sIx items.size items.size hi-sIx items.size 0 lo)).toArray):=by
  show((items.toList.drop (sIx items.size 0 lo)).take (sIx items.size items.size hi-sIx items.size 0 lo)).toArray.size<=sizeLine;rw[a0V,a0W,a3N,a0P];lia
 have hj:sIx items.size items.size hi<=items.size:=d7x _ _ (a0K _) hi;obtain⟨os,hos,hcs,hds⟩:=id hs;have hTs:s.TypeIs (.ref sl) "slice":=⟨os,hos,hcs⟩;unfold getItem
 try with_reducible refine a2T ?_
 first|refine a0D (a0G ?_)|skip
 refine a0D (wpAny_sequenceKey ht.typeIs (by decide) ?_);refine a0D (a2U (name:=Str.ofString "__getitem__") ht.typeIs a2Z
  (a2N a2Z ht.typeIs entry_tuple_getitem ?_ (args_tuple_getitem _ _)))
 show wpAny _ _ (Builtin.Tuple.tupleItemsOf (.ref t) >>= _) _ _ s;refine a0D (tupleItemsOf_ ht ?_);refine a0D (a8H hTs ?_);rw[wB (by decide)];refine a0D (sliceApplied_gen hs pl pu ?_);have hno: ¬((((sIx items.size 0 lo:Nat):Int)==0&&(1:Int)==1&&(sIx items.size items.size hi-sIx items.size 0 lo)==items.size)=true):=by
  intro q;rw[a2P,a2P]at q;have q1:((sIx items.size 0 lo:Nat):Int)=0:=eq_of_beq q.1.1;have q2:sIx items.size items.size hi-sIx items.size 0 lo=items.size:=eq_of_beq q.2;exact hw ⟨by lia,by lia⟩
 show wpAny _ _ (if(((sIx items.size 0 lo:Nat):Int)==0&&(1:Int)==1&&(sIx items.size items.size hi-sIx items.size 0 lo)==items.size)=true then _ else _) _ _ s;rw[wA hno,d0w]
 first
  |exact a0D (m:=Builtin.Tuple.tupleExact _) (a2S (a0G ⟨_,rfl,a0G h⟩) htake)
  |exact a0D (m:=Builtin.Tuple.tupleExact _) (a2S (a0D (a0G (a0G ⟨_,rfl,a0G h⟩))) htake)
  |exact a0D (a0D (m:=Builtin.Tuple.tupleExact _) (a2S (a0G (a0G ⟨_,rfl,a0G h⟩)) htake))
  |exact a0D (a0D (m:=Builtin.Tuple.tupleExact _) (a2S (a0G ⟨_,rfl,a0G h⟩) htake))
end
end HT
namespace L2
open PySem PySem.Spec PyProof.Rows
abbrev TO:=St->Hp->(Option Int->Hp->Prop)->Prop
def PO(X:Cx)(e:Option Expr)(t:TO):Prop:=
 ∀(za:AO) (s:Sh) (σ:St) (H:Hp) (Q:Option Int->Hp->Prop),Inv X za σ H s->t σ H Q->
  wpAny (model X.prog X.w) X.A (evalPart e X.env) (fun u s'=> ∃o H',Inv X za σ H' s'/\IsPart u o/\Q o H') X.xe s
def d5e:TO:=fun _ H Q=>Q none H
def tPart(t:TE):TO:=fun σ H Q=>t σ H fun x H1=> ∃i,x= .int i/\Q (some i) H1
theorem c3g{ns:Zs}: ∀{us:Vs},Vals (ns.map V.int) us->IntsAre us ns:=by
 induction ns with
 |nil=>intro us r;rw[b0B]at r;cases r;exact .nil
 | cons n ns ih=>
  intro us r;rw[a2K]at r;cases r with
  |cons r1 r2=>
   obtain⟨t,e⟩:=r1;subst e;exact .cons n t (ih r2)
section
variable{X:Cx}{e:Expr}{te:TE}{lo hi:Option Expr}{tl th:TO}{pos p2:Pos}
theorem a8w:PO X none d5e:=by
 intro za s σ H Q I h;rw[evalPart_none];exact a0G ⟨none,H,I,.none,h⟩
theorem a4z(h:PE X e te):PO X (some e) (tPart te):=by
 intro za s σ H Q I hw;rw[evalPart_some];refine thn (h za s σ H _ I hw) fun u s1 ⟨x,H1,I1,r1,q1⟩=>?_;obtain⟨i,rfl,q⟩:=q1;obtain⟨t,rfl⟩:=r1;exact⟨some i,H1,I1,.int i t,q⟩
def SlR(X:Cx)(r:V->Option Int->Option Int->Hp->VK->Prop):Prop:=
 ∀(za:AO) (s:Sh) (σ:St) (H:Hp) (x:V) (v vl vu:Vl) (lo hi:Option Int) (sl:Ad) (Q:VK),Inv X za σ H s->RelV x v->s.heap.IsSliceOf sl vl vu .none->IsPart vl lo->IsPart vu hi->r x lo hi H Q->
  ∃T id,typeLookup (.type T) "__getitem__"=pure (some (.builtin id))/\s.TypeIs v T/\wpAny (model X.prog X.w) X.A (getItem v (.ref sl)) (EP X za σ Q) X.xe s
def tSl(r:V->Option Int->Option Int->Hp->VK->Prop)(te:TE)(tl th:TO):TE:=fun σ H Q=>te σ H fun x H1=>tl σ H1 fun l H2=>th σ H2 fun u H3=>r x l u H3 Q
theorem a4p{r:V->Option Int->Option Int->Hp->VK->Prop}(hr:SlR X r)(he:PE X e te)(hl:PO X lo tl)(hu:PO X hi th):PE X (.Subscript e (.Slice lo hi none p2) pos) (tSl r te tl th):=by
 intro za s σ H Q I h;refine Subscript_ (thn (he za s σ H _ I h) fun v s1 ⟨x,H1,I1,r1,q1⟩=>?_);refine wpAny_Slice (thn (hl za s1 σ H1 _ I1 q1) fun vl s2 ⟨l,H2,I2,pl,q2⟩=>thn (hu za s2 σ H2 _ I2 q2) fun vu s3 ⟨u,H3,I3,pu,q3⟩=>?_);rw[evalPart_none];refine a0G ?_;have I4:Inv X za σ H3 {s3 with heap:=s3.heap.push {cls:= .type "slice",data:= .fields #[vl,vu,.none]}}:=I3.kept (t':=s3.toks) fun b ob q=>a0H _ q;obtain⟨T,id,hT,ht,hg⟩:=hr za {s3 with heap:=s3.heap.push {cls:= .type "slice",data:= .fields #[vl,vu,.none]}} σ H3 x v vl vu l u s3.heap.objs.size Q I4 r1 (Heap.IsSliceOf.new ..) pl pu q3;show wpAny (model X.prog X.w) X.A (subscriptTail e (.Slice lo hi none p2) v (.ref s3.heap.objs.size)) (EP X za σ Q) X.xe {s3 with heap:=s3.heap.push {cls:= .type "slice",data:= .fields #[vl,vu,.none]}};exact tail_any (ops:=[.ref s3.heap.objs.size,v]) ht hT hg (by with_unfolding_all rfl)
def b6q(xs:List V)(lo hi:Option Int):List V:=(xs.drop (HT.sIx xs.length 0 lo)).take (HT.sIx xs.length xs.length hi-HT.sIx xs.length 0 lo)
theorem b0z(xs:List V)(lo hi:Option Int):(b6q xs lo hi).length<=xs.length:=by
 unfold b6q;rw[a0W,a3N];lia
def rSlT(K:W.Frag):V->Option Int->Option Int->Hp->VK->Prop:=fun x lo hi H Q=> ∃a xs,x= .ref a/\SqT K H a xs/\
 ¬(HT.sIx xs.length 0 lo=0/\HT.sIx xs.length xs.length hi=xs.length)/\ ∀p,H p=none->Q (.ref p) (upd H p (.tup (b6q xs lo hi)))
theorem d7y:SlR X (rSlT X.K):=by
 intro za s σ H x v vl vu lo hi sl Q I rx hs pl pu h;obtain⟨a,xs,rfl,hx,hw,q⟩:=h;cases rx;obtain⟨its,r,ht,hz⟩:=I.tuple hx;have hlen:its.toArray.size=xs.length:=by rw[a0V];exact r.length.symm
 refine⟨"tuple",_,a2Z.lookup,ht.typeIs,?_⟩;refine HT.getItem_tuple_cut ht hs pl pu (by rw[hlen];exact hw) ?_ (by rw[hlen];exact hz);rw[hlen];refine⟨.ref s.heap.objs.size,_,I.laid (t':=s.toks) (o:= .tup (b6q xs lo hi)) (fun b ob q=>a0H _ q) (a0K _) ?_,rfl,q _ (I.hok.fresh (a0K _))⟩;exact⟨a1C (b0z xs lo hi) hz,_,(r.drop (HT.sIx xs.length 0 lo)).take (HT.sIx xs.length xs.length hi-HT.sIx xs.length 0 lo),TupD.new _ _⟩
def rCatT(K:W.Frag):R2:=fun x y H Q=> ∃a b xs ys,x= .ref a/\y= .ref b/\SqT K H a xs/\SqT K H b ys/\xs≠[]/\xs.length+ys.length<=sizeLine/\
 (ys=[]->Q (.ref a) H)/\(ys≠[]-> ∀p,H p=none->Q (.ref p) (upd H p (.tup (xs++ys))))
theorem Vals.nil_iff{xs:List V}{us:Vs}(r:Vals xs us):us=[]↔xs=[]:=by
 cases r with
 |nil=>simp
 |cons _ _=>simp
theorem d5f:OpR X (binaryOp .Add) (rCatT X.K):=by
 intro za s σ H x y v u Q I rx ry h;obtain⟨a,b,xs,ys,rfl,rfl,ha,hb,hx,hz,q1,q2⟩:=h;cases rx;cases ry;obtain⟨its,r1,p1,_⟩:=I.tuple ha;obtain⟨its2,r2,p2,_⟩:=I.tuple hb;refine HT.cat_tup p1 p2 (fun z=>hx (r1.nil_iff.mp z)) (fun z=>⟨.ref a,H,I,rfl,q1 (r2.nil_iff.mp z)⟩) (fun z=>?_) (by rw[<-r1.length,<-r2.length];exact hz);refine⟨.ref s.heap.objs.size,_,I.laid (t':=s.toks) (o:= .tup (xs++ys)) (fun b ob q=>a0H _ q) (a0K _) ?_,rfl,q2 (fun w=>z (r2.nil_iff.mpr w)) _ (I.hok.fresh (a0K _))⟩;exact⟨by rw[a0L];exact hz,_,r1.append r2,TupD.new _ _⟩
end
def ixN(n:Nat)(i:Int):Option Nat:=if 0<=i then(if i<n then some i.toNat else none)else if -(n:Int)<=i then some (i+n).toNat else none
def atI{α:Type}(xs:List α)(i:Int):Option α:=(ixN xs.length i).bind fun j=>xs[j]?
theorem c5n{n:Nat}{i:Int}{j:Nat}(h:ixN n i=some j):seqIndex? i n=some j/\j<n/\ -(n:Int)<=i/\i<n:=by
 unfold ixN at h;by_cases h0:0<=i
 ·rw[wB h0]at h;by_cases h1:i<n
  ·rw[wB h1]at h;have e:i.toNat=j:=a1X h;exact⟨by rw[seqIndex_of h0 h1,e],by lia,by lia,h1⟩
  ·rw[wA h1]at h;cases h
 ·rw[wA h0]at h;by_cases h1: -(n:Int)<=i
  ·rw[wB h1]at h;have e:(i+n).toNat=j:=a1X h;exact⟨by rw[seqIndex_neg (by lia) h1,e],by lia,h1,by lia⟩
  ·rw[wA h1]at h;cases h
theorem c5o{α:Type}{xs:List α}{i:Int}{v:α}(h:atI xs i=some v): ∃j,seqIndex? i xs.length=some j/\xs[j]? =some v/\j<xs.length/\ -(xs.length:Int)<=i/\i<xs.length:=by
 unfold atI at h;cases e:ixN xs.length i with
 |none=>rw[e]at h;cases h
 |some j=>
  rw[e]at h;obtain⟨h1,h2,h3,h4⟩:=c5n e;exact⟨j,h1,h,h2,h3,h4⟩
theorem a1x{α:Type}{xs:List α}{j:Nat}{v:α}(h:xs[j]? =some v):atI xs (j:Int)=some v:=by
 have hj:j<xs.length:=(a0B.mp h).1;have e:ixN xs.length (j:Int)=some j:=by
  unfold ixN;rw[wB (by lia),wB (by lia)];simp
 unfold atI;rw[e];exact h
def d5g(b:Expr):Prop:= ∀o i,subscripted b false o i=operate [o,i] (getItem o i)
def IxR(X:Cx)(r:R2):Prop:=
 ∀(value slice:Expr) (za:AO) (s:Sh) (σ:St) (H:Hp) (x y:V) (v u:Vl) (Q:VK),Inv X za σ H s->RelV x v->RelV y u->r x y H Q->
  subscripted slice false v u=operate [v,u] (getItem v u)->wpAny (model X.prog X.w) X.A (subscriptTail value slice v u) (EP X za σ Q) X.xe s
def MtR(X:Cx)(id:String)(r:V->List V->Hp->VK->Prop):Prop:=
 ∀(za:AO) (s:Sh) (σ:St) (H:Hp) (x:V) (xs:List V) (v:Vl) (us:Vs) (Q:VK),Inv X za σ H s->RelV x v->Vals xs us->r x xs H Q->
  wpAny (model X.prog X.w) X.A (call (.builtin id) (v::us)) (EP X za σ Q) X.xe s
section
variable{X:Cx}{a b:Expr}{ta tb:TE}{pos:Pos}
theorem a0w{r:R2}(hr:IxR X r)(ha:PE X a ta)(hb:PE X b tb)(hs:d5g b):PE X (.Subscript a b pos) (tOp r ta tb):=by
 intro za s σ H Q I h;exact Subscript_ (binT ha hb I h fun v u s2 x y H2 I2 rx ry q=>hr a b za s2 σ H2 x y v u Q I2 rx ry q (hs _ _))
def rIxL(K:W.Frag):R2:=fun x y H Q=> ∃p xs i v,x= .ref p/\y= .int i/\SqL K H p xs/\atI xs i=some v/\Q v H
def rIxT(K:W.Frag):R2:=fun x y H Q=> ∃p xs i v,x= .ref p/\y= .int i/\SqT K H p xs/\atI xs i=some v/\Q v H
theorem a1j:IxR X (rIxL X.K):=by
 intro value slice za s σ H x y v u Q I rx ry h hs;obtain⟨p,xs,i,z,rfl,rfl,hq,he,q⟩:=h;cases rx;obtain⟨t,rfl⟩:=ry;obtain⟨its,r,pl,hz⟩:=I.list hq;obtain⟨j,h1,h2,h3,h4,h5⟩:=c5o he;obtain⟨w,ew,rw'⟩:=r.get h2;have hl:=r.length;have hn:=b6l;have fin:EP X za σ Q w s:=⟨z,H,I,rw',q⟩;by_cases h0:0<=i
 ·have hj:i.toNat=j:=by
   rw[seqIndex_of h0 h5]at h1;exact a1X h1
  exact item_listR pl.isList h0 (by lia) (by rw[hj];simpa using ew) fin hs
 ·have hj:(i+(its.toArray.size:Int)).toNat=j:=by
   rw[seqIndex_neg (by lia) h4]at h1;rw[a0V,<-hl];exact a1X h1
  exact subscriptTail_builtinR (x:=w) pl.isList.typeIs slot_list_getitem.lookup
   (wpAny_getItem_list_neg (Q:=fun r s'=>r=w/\EP X za σ Q r s') pl.isList (by lia) (by rw[a0V]<;>lia) (by lia) (by rw[hj];simpa using ew) ⟨rfl,fin⟩) hs
theorem a0x:IxR X (rIxT X.K):=by
 intro value slice za s σ H x y v u Q I rx ry h hs;obtain⟨p,xs,i,z,rfl,rfl,hq,he,q⟩:=h;cases rx;obtain⟨t,rfl⟩:=ry;obtain⟨its,r,pl,hz⟩:=I.tuple hq;obtain⟨j,h1,h2,h3,h4,h5⟩:=c5o he;obtain⟨w,ew,rw'⟩:=r.get h2;have hl:=r.length;have hn:=b6l;have fin:EP X za σ Q w s:=⟨z,H,I,rw',q⟩;exact subscriptTail_builtinR (x:=w) pl.typeIs slot_tuple_getitem.lookup
  (getItem_tuple (j:=j) (Q:=fun r s'=>r=w/\EP X za σ Q r s') pl (by lia) (by lia) (by rw[a0V,<-hl];exact h1) (by simpa using ew) ⟨rfl,fin⟩) hs
theorem c3h(its:Vs)(n j:Nat)(u:Vl):Obj.mapSeq (·.setIfInBounds j u) {cls:= .type "list",data:= .seq its.toArray n}={cls:= .type "list",data:= .seq (its.set j u).toArray n}:=by
 simp[Obj.mapSeq]
theorem Inv.lst{za:AO}{σ:St}{H:Hp}{s:Sh}{p:Ad}{xs:List V}(I:Inv X za σ H s)(h:H p=some (.lst xs)):
  ∃(its:Vs) (n:Nat),Vals xs its/\s.heap.get? p=some {cls:= .type "list",data:= .seq its.toArray n}/\xs.length<=sizeLine:=by
 obtain⟨z,its,n,r,e⟩:=I.hok p _ h;exact⟨its,n,r,e,z⟩
theorem Inv.lstUpd{za:AO}{σ:St}{H:Hp}{s:Sh}{p:Ad}{xs ys:List V}{its its':Vs}{n n':Nat}{f:Obj->Obj}(I:Inv X za σ H s)(h:H p=some (.lst xs))
  (ho:s.heap.get? p=some {cls:= .type "list",data:= .seq its.toArray n}) (hf:f {cls:= .type "list",data:= .seq its.toArray n}={cls:= .type "list",data:= .seq its'.toArray n'}) (r:Vals ys its') (hz:ys.length<=sizeLine) (t:Nat):
  Inv X za σ (upd H p (.lst ys)) {s with heap:=s.heap.update p f,toks:=t}:=by
 have e:(s.heap.update p f).get? p=some {cls:= .type "list",data:= .seq its'.toArray n'}:=by
  rw[a4I f ho (by rw[hf]<;>rfl),hf]
 refine I.write (x:=p) (e:=p) (by rw[h];trivial) (.inl rfl) (fun b u hb q=>(a1Z _ _ (a3T hb)).trans q) ⟨_,e⟩ ?_;exact⟨hz,its',n',r,e⟩
def rSetL:V->V->V->Hp->(Hp->Prop)->Prop:=fun o i v H Q=> ∃p xs k j,o= .ref p/\i= .int k/\H p=some (.lst xs)/\ixN xs.length k=some j/\Q (upd H p (.lst (xs.set j v)))
theorem b0a:PSet X rSetL:=by
 intro za s σ H o i v ov iv u Q I ro ri rv h;obtain⟨p,xs,k,j,rfl,rfl,hp,hj,q⟩:=h;cases ro;obtain⟨t,rfl⟩:=ri;obtain⟨its,n,r,ho,hz⟩:=I.lst hp;obtain⟨h1,h2,h3,h4⟩:=c5n hj;have hl:=r.length;have hn:=b6l;have I':Inv X za σ (upd H p (.lst (xs.set j v))) {s with heap:=s.heap.update p (Obj.mapSeq (·.setIfInBounds j u))}:=
  I.lstUpd hp ho (c3h its n j u) (r.set rv j) (by rw[a5L];exact hz) s.toks
 by_cases h0:0<=k
 ·have hk:k.toNat=j:=by
   rw[seqIndex_of h0 h4]at h1;exact a1X h1
  exact PySem.W.ki_setAt ho h0 (by lia) (by rw[a0V,<-hl];exact h4) (by rw[hk];exact⟨_,I',q⟩)
 ·have hk:(k+(its.toArray.size:Int)).toNat=j:=by
   rw[seqIndex_neg (by lia) h3]at h1;rw[a0V,<-hl];exact a1X h1
  exact PySem.W.ki_setBack ho (by lia) (by rw[a0V,<-hl];exact h3) (by lia) (by rw[hk];exact⟨_,I',q⟩)
theorem b6r(lo hi:Option Int)(n:Nat):(sliceBounds lo hi none n).1=((HT.sIx n 0 lo:Nat):Int)/\(sliceBounds lo hi none n).2.1=((HT.sIx n n hi:Nat):Int)/\(sliceBounds lo hi none n).2.2=1:=by
 refine⟨?_,?_,rfl⟩
 ·cases lo with
  |none=>simp[sliceBounds,HT.sIx]
  |some i=>
   simp only[sliceBounds,HT.sIx,Option.getD_none,show(1:Int)>0 by decide,if_true];by_cases h:i<0
   ·simp only[h,if_true]<;>lia
   ·simp only[h,if_false]<;>lia
 ·cases hi with
  |none=>simp[sliceBounds,HT.sIx]
  |some i=>
   simp only[sliceBounds,HT.sIx,Option.getD_none,show(1:Int)>0 by decide,if_true];by_cases h:i<0
   ·simp only[h,if_true]<;>lia
   ·simp only[h,if_false]<;>lia
theorem b4g(its:Vs)(lo hi:Option Int):slicePick its.toArray lo hi none=((its.drop (HT.sIx its.length 0 lo)).take (HT.sIx its.length its.length hi-HT.sIx its.length 0 lo)).toArray:=by
 obtain⟨h1,h2,h3⟩:=b6r lo hi its.toArray.size;unfold slicePick;rw[h1,h2,h3];simp only[sliceRange_one,pick_run,List.size_toArray]<;>rfl
def rSlL(K:W.Frag):V->Option Int->Option Int->Hp->VK->Prop:=fun x lo hi H Q=> ∃a xs,x= .ref a/\SqL K H a xs/\ ∀p,H p=none->Q (.ref p) (upd H p (.lst (b6q xs lo hi)))
theorem b8s:SlR X (rSlL X.K):=by
 intro za s σ H x v vl vu lo hi sl Q I rx hs pl pu h;obtain⟨a,xs,rfl,hx,q⟩:=h;cases rx;obtain⟨its,r,ht,hz⟩:=I.list hx;have hlen:=r.length;refine⟨"list",_,slot_list_getitem.lookup,ht.isList.typeIs,?_⟩;refine wpAny_getItem_list_slice ht.isList hs pl pu .none (by simp) ?_ (by rw[List.size_toArray]<;>lia);rw[b4g,<-hlen];refine⟨.ref s.heap.objs.size,_,I.laid (t':=s.toks) (o:= .lst (b6q xs lo hi)) (fun b ob q=>a0H _ q) (a0K _) ?_,rfl,q _ (I.hok.fresh (a0K _))⟩;exact⟨a1C (b0z xs lo hi) hz,_,0,(r.drop (HT.sIx xs.length 0 lo)).take (HT.sIx xs.length xs.length hi-HT.sIx xs.length 0 lo),a0X _ rfl⟩
def a6a:V->Bool
 | .non=>true
 | .bl _=>true
 | .int _=>true
 | .str _=>true
 |_=>false
def eqV:V->V->Bool
 | .non,.non=>true
 | .bl a,.bl b=>a==b
 | .bl a,.int b=>(if a then 1 else 0)==b
 | .int a,.bl b=>a==(if b then 1 else 0)
 | .int a,.int b=>a==b
 | .str a,.str b=>a==b
 |_,_=>false
theorem c0u{A:Ar}{s:Sh}{y x:V}{u v:Vl}(ry:RelV y u)(rx:RelV x v)(fy:a6a y=true)(fx:a6a x=true):SeqAt.EqAt A s u v (eqV y x):=by
 cases y with
 |non=>
  cases ry;cases x with
  |non=>cases rx;exact SeqAt.EqAt.same _
  |bl b=>cases rx;exact SeqAt.EqAt.none_bool b
  |int b=>obtain⟨t,rfl⟩:=rx;exact SeqAt.EqAt.none_int b t
  |str b=>obtain⟨t,rfl⟩:=rx;exact SeqAt.EqAt.none_str b t
  |_=>exact wC (show false=true from fx) a1H
 |bl a=>
  cases ry;cases x with
  |non=>cases rx;exact SeqAt.EqAt.bool_none a
  |bl b=>cases rx;exact SeqAt.EqAt.bool_bool a b
  |int b=>obtain⟨t,rfl⟩:=rx;exact SeqAt.EqAt.bool_int a b t
  |str b=>obtain⟨t,rfl⟩:=rx;exact SeqAt.EqAt.bool_str a b t
  |_=>exact wC (show false=true from fx) a1H
 |int a=>
  obtain⟨t',rfl⟩:=ry;cases x with
  |non=>cases rx;exact SeqAt.EqAt.int_none a t'
  |bl b=>cases rx;exact SeqAt.EqAt.int_bool a t' b
  |int b=>obtain⟨t,rfl⟩:=rx;exact SeqAt.EqAt.int_int a t' b t
  |str b=>obtain⟨t,rfl⟩:=rx;exact SeqAt.EqAt.int_str a t' b t
  |_=>exact wC (show false=true from fx) a1H
 |str a=>
  obtain⟨t',rfl⟩:=ry;cases x with
  |non=>cases rx;exact SeqAt.EqAt.str_none a t'
  |bl b=>cases rx;exact SeqAt.EqAt.str_bool a t' b
  |int b=>obtain⟨t,rfl⟩:=rx;exact SeqAt.EqAt.str_int a t' b t
  |str b=>obtain⟨t,rfl⟩:=rx;exact SeqAt.EqAt.str_str a t' b t
  |_=>exact wC (show false=true from fx) a1H
 |_=>exact wC (show false=true from fy) a1H
def eqU(x:V)(u:Vl):Bool:=match u with
 | .none=>eqV .non x
 | .bool b=>eqV (.bl b) x
 | .int i _=>eqV (.int i) x
 | .str z _=>eqV (.str z) x
 |_=>false
theorem d3p{x y:V}{u:Vl}(r:RelV y u)(f:a6a y=true):eqU x u=eqV y x:=by
 cases y with
 |non=>cases r;rfl
 |bl b=>cases r;rfl
 |int i=>obtain⟨t,rfl⟩:=r;rfl
 |str z=>obtain⟨t,rfl⟩:=r;rfl
 |_=>exact wC (show false=true from f) a1H
theorem b8t{x:V}: ∀{xs:List V} {us:Vs},Vals xs us->xs.all a6a=true->us.any (eqU x)=xs.any fun y=>eqV y x
 |_,_,.nil,_=>rfl
 |y::xs,u::us,.cons r t,f=>by
  rw[List.all_cons,a2P]at f;rw[a7N,a7N,d3p r f.1,b8t t f.2]
theorem b4h{A:Ar}{s:Sh}{x:V}{v:Vl}(rx:RelV x v)(fx:a6a x=true): ∀{xs:List V} {us:Vs},Vals xs us->xs.all a6a=true-> ∀u∈us,SeqAt.EqAt A s u v (eqU x u)
 |_,_,.nil,_=>fun u hu=>by cases hu
 |y::xs,u::us,.cons r t,f=>fun u' hu=>by
  rw[List.all_cons,a2P]at f
  rcases a1L.mp hu with rfl|hu
  ·rw[d3p r f.1];exact c0u r rx f.1 fx
  ·exact b4h rx fx t f.2 u' hu
def inV(x:V)(xs:List V):Bool:=xs.any fun y=>eqV y x
def rIn(K:W.Frag)(neg:Bool):R2:=fun x y H Q=> ∃p xs,y= .ref p/\(SqL K H p xs∨SqT K H p xs)/\a6a x=true/\xs.all a6a=true/\Q (.bl (if neg then !inV x xs else inV x xs)) H
theorem c5p:OpR X (compareOp .In) (rIn X.K false):=by
 intro za s σ H x y v u Q I rx ry h;obtain⟨p,xs,rfl,hq,fx,fs,q⟩:=h;cases ry
 rcases hq with hq|hq
 ·obtain⟨its,r,pl,hz⟩:=I.list hq;refine SeqAt.in_listAt (eqU x) pl.isList (fun w hw=>b4h rx fx r fs w (by simpa using hw)) ⟨.bl _,H,I,rfl,?_⟩;rw[show its.toArray.any (eqU x)=its.any (eqU x) by simp,b8t r fs];exact q
 ·obtain⟨its,r,pl,hz⟩:=I.tuple hq;refine SeqAt.in_tupleAt (eqU x) pl (fun w hw=>b4h rx fx r fs w (by simpa using hw)) ⟨.bl _,H,I,rfl,?_⟩;rw[show its.toArray.any (eqU x)=its.any (eqU x) by simp,b8t r fs];exact q
theorem a0n:a7r X (.builtin "len") (fun xs H Q=> ∃p ys,xs=[.ref p]/\(SqL X.K H p ys∨SqT X.K H p ys)/\Q (.int ys.length) H):=by
 intro za s σ H xs us Q I r h;obtain⟨p,ys,rfl,hq,q⟩:=h;obtain⟨u,rfl,rx⟩:=a6y r;cases rx;have hn:=b6l
 rcases hq with hq|hq
 ·obtain⟨its,r',pl,hz⟩:=I.list hq;have hlen:=r'.length;exact Calls.call_len_list pl.isList (by simp only[List.size_toArray]<;>lia) ⟨.int ys.length,H,I.tok _,⟨s.toks+1,by rw[List.size_toArray,hlen]⟩,q⟩
 ·obtain⟨its,r',pl,hz⟩:=I.tuple hq;have hlen:=r'.length;exact len_tuple pl (by simp only[List.size_toArray]<;>lia) ⟨.int ys.length,H,I.tok _,⟨s.toks+1,by rw[List.size_toArray,hlen]⟩,q⟩
theorem a1d:a7r X (.type "tuple") (fun xs H Q=> ∃p ys,xs=[.ref p]/\((SqL X.K H p ys/\ ∀l,H l=none->Q (.ref l) (upd H l (.tup ys)))∨(SqT X.K H p ys/\Q (.ref p) H))):=by
 intro za s σ H xs us Q I r h;obtain⟨p,ys,rfl,h⟩:=h;obtain⟨u,rfl,rx⟩:=a6y r;cases rx
 rcases h with⟨hq,q⟩|⟨hq,q⟩
 ·obtain⟨its,r',pl,hz⟩:=I.list hq;have hlen:=r'.length;refine call_tuple_list pl.isList (fun h' kp=>?_) (by simp only[List.size_toArray]<;>lia);have I1:Inv X za σ H {s with heap:=h'}:=I.kept (t':=s.toks) kp;have I2:Inv X za σ (upd H h'.objs.size (.tup ys)) {s with heap:=h'.push {cls:= .type "tuple",data:= .seq its.toArray}}:=
   I1.laid (t':=s.toks) (fun b o e=>a0H _ e) (a0K _) (show ObjOk X.prog X.w _ _ _ (.tup ys)from⟨hz,its,r',TupD.new _ _⟩)
  exact⟨.ref h'.objs.size,_,I2,rfl,q _ (I1.hok.fresh (a0K _))⟩
 ·obtain⟨its,r',pl,hz⟩:=I.tuple hq;exact call_tuple_same pl ⟨.ref p,H,I,rfl,q⟩
def tyV(K:W.Frag)(T:String)(x:V)(H:Hp):Prop:=match x with
 | .str _=>T="str"
 | .int _=>T="int"
 | .ref p=>(T="list"/\ ∃xs,SqL K H p xs)∨(T="tuple"/\ ∃o,K.lookup p=some o/\o.cls= .type "tuple"/\o.dict=none)∨
   (T="dict"/\((∃kvs,H p=some (.dK kvs))∨ ∃kvs,H p=some (.dT kvs)))∨(T="set"/\ ∃S n,H p=some (.set S n))
 |_=>False
theorem d3q{za:AO}{σ:St}{H:Hp}{s:Sh}{T:String}{x:V}{v:Vl}(I:Inv X za σ H s)(r:RelV x v)(ty:tyV X.K T x H):
  s.TypeIs v T/\ ∀a,v= .ref a-> ∃ob,s.heap.get? a=some ob/\ob.dict=none:=by
 cases x with
 |str z=>
  obtain⟨t,rfl⟩:=r;cases(show T="str" from ty);exact⟨typeIs_str s z t,fun _ e=>nomatch e⟩
 |int i=>
  obtain⟨t,rfl⟩:=r;cases(show T="int" from ty);exact⟨b0N s i t,fun _ e=>nomatch e⟩
 | ref p=>
  cases r
  rcases ty with⟨rfl,xs,hq⟩|⟨rfl,o,hk,hc,hd⟩|⟨rfl,hk⟩|⟨rfl,S,n,hk⟩
  ·obtain⟨its,_,pl,_⟩:=I.list hq;refine⟨pl.isList.typeIs,fun a e=>?_⟩;cases e;obtain⟨o,n,e,c,hd,_⟩:=pl;exact⟨o,e,hd⟩
  ·refine⟨⟨o,I.kIn p o hk,hc⟩,fun a e=>?_⟩;cases e;exact⟨o,I.kIn _ o hk,hd⟩
  ·have z: ∃o,s.heap.get? p=some o/\o.ExactDict:=by
    rcases hk with⟨kvs,hk⟩|⟨kvs,hk⟩
    ·obtain⟨_,_,_,_,o,_,_,e,ex,_⟩:=I.hok p _ hk;exact⟨o,e,ex⟩
    ·obtain⟨_,_,_,_,o,_,_,e,ex,_⟩:=I.hok p _ hk;exact⟨o,e,ex⟩
   obtain⟨o,e,ex⟩:=z;refine⟨⟨o,e,ex.1⟩,fun a e2=>?_⟩;cases e2;exact⟨o,e,ex.2.1⟩
  ·obtain⟨o,_,_,_,e,ex,_⟩:=I.hok p _ hk;refine⟨⟨o,e,ex.1⟩,fun a e2=>?_⟩;cases e2;exact⟨o,e,ex.2.1⟩
 |_=>exact wE ty
def tBM0(K:W.Frag)(T:String)(r:V->List V->Hp->VK->Prop)(to:TE):TE:=fun σ H Q=>to σ H fun x H1=>tyV K T x H1/\r x [] H1 Q
def tBM(K:W.Frag)(T:String)(r:V->List V->Hp->VK->Prop)(to:TE)(t:TA):TE:=fun σ H Q=>to σ H fun x H1=>tyV K T x H1/\t σ H1 fun xs H2=>r x xs H2 Q
variable{o e:Expr}{es:List Expr}{to:TE}{t:TA}{name:Str}{apos cpos:Pos}{T id:String}{r:V->List V->Hp->VK->Prop}
theorem d7z(pa:PlainAttrs T)(slot:Slot T name id)(hty:typeOf (.builtin id)=pure (.type "method_descriptor"))(hm:MtR X id r)(ho:PE X o to)
  (hbase:attributeBase o name X.env (eval o X.env)=eval o X.env:=by rfl) (hline:(apos.endLine==cpos.line)=true:=by rfl):PE X (.Call (.Attribute o name apos) [] [] cpos) (tBM0 X.K T r to):=by
 intro za s σ H Q I h;refine wpAny_Call_method0_late hbase hline (thn (ho za s σ H _ I h) fun v s1 ⟨x,H1,I1,r1,ty,q1⟩=>?_);obtain⟨h1,h2⟩:=d3q I1 r1 ty;exact⟨T,id,pa,slot,hty,h1,h2,a7X rfl (PySem.evalArgs_none (hm za s1 σ H1 x [] v [] Q I1 r1 .nil q1))⟩
theorem a6z(pa:PlainAttrs T)(slot:Slot T name id)(hty:typeOf (.builtin id)=pure (.type "method_descriptor"))(hm:MtR X id r)(ho:PE X o to)(ha:PA X (e::es) t)
  (hbase:attributeBase o name X.env (eval o X.env)=eval o X.env:=by rfl)
  (hfew:((backTo cpos (starEach (e::es) X.env)).all (fun x=> !x.1)&&(backToKw cpos (keywordEach [] X.env)).all (fun x=>x.1.isSome)
   &&decide ((e::es).length+([]:List Keyword).length+(if([]:List Keyword).isEmpty then 0 else 1)<30))=true:=by rfl)
  (hline:(apos.endLine==cpos.line)=true:=by rfl) (hs:starEach (e::es) X.env=(false,eval e X.env)::starEach es X.env:=by rfl) (hplain:(backTo cpos (starEach es X.env)).any (·.1)=false:=by rfl):
  PE X (.Call (.Attribute o name apos) (e::es) [] cpos) (tBM X.K T r to t):=by
 intro za s σ H Q I h;refine wpAny_Call_method_late hbase hfew hline rfl (thn (ho za s σ H _ I h) fun v s1 ⟨x,H1,I1,r1,ty,q1⟩=>?_);obtain⟨h1,h2⟩:=d3q I1 r1 ty;refine⟨T,id,pa,slot,hty,h1,h2,?_⟩;have hA:=ha cpos za s1 σ H1 _ I1 q1;rw[hs]at hA⊢;refine a7X (by show(false || (backTo cpos (starEach es X.env)).any (·.1))=false;rw[hplain]<;>rfl) (Calls.evalArgs_plain ?_);exact thn hA fun us s2 ⟨vs,H2,I2,r2,q2⟩=>hm za s2 σ H2 x vs v us Q I2 r1 r2 q2
end
def MtM(X:Cx)(id:String)(r:V->List V->Hp->VK->Prop):Prop:=
 ∀(za:AO) (s:Sh) (σ:St) (H:Hp) (x:V) (xs:List V) (v:Vl) (us:Vs) (Q:VK),Inv X za σ H s->RelV x v->Vals xs us->r x xs H Q->
  wpAny (model X.prog X.w) X.A (call (.builtin id) (v::us)) (EP X za σ Q) X.xe s
theorem Vals.one: ∀{x:V} {us:Vs},Vals [x] us-> ∃u,us=[u]/\RelV x u
 |_,_,.cons r .nil=>⟨_,rfl,r⟩
theorem Vals.rep{xs:List V}{us:Vs}(h:Vals xs us): ∀k:Nat,Vals (List.replicate k xs).flatten (List.replicate k us).flatten
 |0=> .nil
 |k+1=>by
  rw[a5V,a5V,a8C,a8C];exact Vals.append h (Vals.rep h k)
theorem b1a(its:Vs): ∀(k:Nat) (acc:Vs),
  List.foldl (fun x1 x2=>x1++x2) acc.toArray (List.replicate k its.toArray)=(acc++(List.replicate k its).flatten).toArray
 |0,acc=>by simp
 | k+1,acc=>by
  have e:acc.toArray++its.toArray=(acc++its).toArray:=by simp
  have e2:(acc++its)++(List.replicate k its).flatten=acc++(List.replicate (k+1) its).flatten:=by
   rw[a5V,a8C,a1G]
  rw[<-e2,<-b1a its k (acc++its),<-e,a5V,b0C]
section
variable{X:Cx}{za:AO}{σ:St}{H:Hp}{s:Sh}{l b:Ad}{xs ys zs:List V}
theorem Inv.lset{its its':Vs}{n:Nat}{f:AV->Array Vl}{t':Nat}(I:Inv X za σ H s)(hH:H l=some (.lst xs))
  (e:s.heap.get? l=some {cls:= .type "list",data:= .seq its.toArray n}) (hf:f its.toArray=its'.toArray) (hv:Vals ys its') (hz:ys.length<=sizeLine):
  Inv X za σ (upd H l (.lst ys)) {s with heap:=s.heap.update l (Obj.mapSeq f),toks:=t'}:=by
 have q:=PySem.IsL.update e f;rw[hf]at q;refine I.write (x:=l) (e:=l) (by rw[hH];exact trivial) (.inl rfl) (fun b' u hb hu=>(a1Z s.heap (Obj.mapSeq f) (a3T hb)).trans hu) ⟨_,q⟩ ?_;exact⟨hz,its',_,hv,q⟩
theorem Inv.lnew{its:Vs}{t':Nat}(I:Inv X za σ H s)(hv:Vals ys its)(hz:ys.length<=sizeLine):
  Inv X za σ (upd H s.heap.objs.size (.lst ys)) {s with heap:=s.heap.push {cls:= .type "list",data:= .seq its.toArray},toks:=t'}:=
 I.laid (fun _ _ q=>a0H _ q) (a0K _) ⟨hz,its,0,hv,a0X _ rfl⟩
theorem Inv.fresh(I:Inv X za σ H s):H s.heap.objs.size=none:=I.hok.fresh (a0K _)
theorem Inv.lstM(I:Inv X za σ H s)(hH:H l=some (.lst xs)):xs.length<=sizeLine/\ ∃(its:Vs) (n:Nat),Vals xs its/\xs.length=its.length/\s.heap.get? l=some {cls:= .type "list",data:= .seq its.toArray n}:=by
 obtain⟨z,its,n,r,e⟩:=I.hok l _ hH;exact⟨z,its,n,r,r.length,e⟩
theorem d0x{n:Nat}(h:n<=sizeLine):Builtin.List.listTooLong n=false:=by
 unfold Builtin.List.listTooLong;exact a1J (by lia)
end
section
variable{X:Cx}
def c5q:V->List V->Hp->VK->Prop:=fun x vs H Q=> ∃l xs y,x= .ref l/\vs=[y]/\H l=some (.lst xs)/\xs.length<sizeLine/\Q .non (upd H l (.lst (xs++[y])))
theorem a2b:MtM X "list.append" c5q:=by
 intro za s σ H x vs v us Q I rx rv h;obtain⟨l,xs,y,rfl,rfl,hH,hz,q⟩:=h;cases rx;obtain⟨u,rfl,ru⟩:=rv.one;obtain⟨z,its,n,r,hl,e⟩:=I.lstM hH;refine a7I F.slot_list_append ⟨_,e,rfl⟩ F.entry_list_append (F.args_list_append_2 _ _) (PySem.list_append l its.toArray n u (by rw[a0V];lia)) ⟨e,?_⟩;refine⟨.non,_,I.lset (its':=its++[u]) hH e (by simp) (r.append (.cons ru .nil)) ?_,rfl,q⟩;rw[a0L,a5B];lia
def rRep:R2:=fun x y H Q=> ∃l k xs,x= .ref l/\y= .int k/\H l=some (.lst xs)/\ -(2 ^ 63)<=k/\k<2 ^ 63/\xs.length * k.toNat<=sizeLine/\
 ∀p,H p=none->Q (.ref p) (upd H p (.lst (List.replicate k.toNat xs).flatten))
theorem b8u{α:Type}(xs:List α)(k:Nat):(List.replicate k xs).flatten.length=k * xs.length:=by
 induction k with
 |zero=>simp
 |succ k ih=>rw[a5V,a8C,a0L,ih,Nat.succ_mul,b0D]
theorem d8a:OpR X (binaryOp .Mult) rRep:=by
 intro za s σ H x y v u Q I rx ry h;obtain⟨l,k,xs,rfl,rfl,hH,h1,h2,hz,q⟩:=h;cases rx;obtain⟨t,rfl⟩:=ry;obtain⟨z,its,n,r,hl,e⟩:=I.lstM hH;have hlen:its.toArray.size * k.toNat<=sizeLine:=by rw[a0V,<-hl];exact hz
 have hcap: ¬its.toArray.size * k.toNat>(2 ^ 63-1) /8:=by
  have:(sizeLine:Nat)<=(2 ^ 63-1) /8:=by decide
  lia
 have hfit: ¬(!Builtin.List.listFitsIndex k)=true:=by
  rw[fitsIndex_both h1 h2];exact a1H
 have hlong: ¬Builtin.List.listTooLong (its.toArray.size * k.toNat)=true:=by
  rw[d0x hlen];exact a1H
 have hnew:List.foldl (fun x1 x2=>x1++x2) #[] (List.replicate (if its.toArray.isEmpty=true then 0 else k.toNat) its.toArray)=(List.replicate k.toNat its).flatten.toArray:=by
  have f0: ∀m:Nat,List.foldl (fun x1 x2=>x1++x2) #[] (List.replicate m its.toArray)=(List.replicate m its).flatten.toArray:=fun m=>by
   have:=b1a its m [];rw[a9F]at this;exact this
  rw[f0];cases its with
  |nil=>simp
  |cons a r'=>rw[wA (by simp)]
 refine wpAny_binaryOp_repeat_ref (T:="list") (U:="int") (by decide) ⟨_,e,rfl⟩ (fun s'=>b0N s' k t) noFill_list_mul F.fills_int_mul a9G repeat_list F.slot_int_index.lookup
  (a7I a9G (b0N s k t) F.entry_int_rmul (F.args_int_rmul_2 _ _) (int___rmul___int_list k t l its.toArray n)
   ⟨e,rfl,⟨_,e,rfl⟩,a7I F.slot_list_mul ⟨_,e,rfl⟩ F.entry_list_mul (F.args_list_mul_2 _ _) (AutoListH.list___mul___list_int_3 l its.toArray n k t hfit hcap hlong) ⟨e,?_⟩⟩)
 rw[hnew];exact⟨.ref _,_,I.lnew (t':=s.toks) (r.rep k.toNat) (by rw[b8u,Nat.mul_comm];exact hz),rfl,q _ I.fresh⟩
end
end L2
namespace Att
open PySem PySem.W PySem.Calls PyProof.Rows
theorem b1b{P:Params}{h:Heap}: ∀(ns:Zs) (vs:Vs),WellAll P h vs (ns.map WData.int)->IntsAre vs ns:=by
 intro ns
 induction ns with
 |nil=>
  intro vs w;rw[b0B]at w;cases w;exact .nil
 | cons n ns ih=>
  intro vs w;rw[a2K]at w;cases w with
  |cons a b=>
   cases a;exact .cons _ _ (ih _ b)
theorem c5r{l:OpenLaw}{n:Nat}(hn:l.most=some n){P:Params}{h:Heap}{args:List WData}{vals:Vs}
  (hpre:l.row.toRowW.claim.pre args=true) (hwl:WellAll P h vals args):
  ∃a vs ns,vals=[Value.ref a]/\args=[WData.list (ns.map WData.int)]/\h.get? a=some {cls:= .type "list",data:= .seq vs.toArray}/\IntsAre vs ns/\ns.length<=n:=by
 have hsh:WShape.hasAll [] args [.list .int]=true:=(pre_splitW hpre).1;have hc:l.pre.holds [] {args:=args}=true:=(pre_splitW hpre).2;obtain⟨d,r,rfl,h1,h2⟩:=hasAllW_cons hsh;obtain rfl:=hasAllW_nil h2;obtain⟨xs,rfl,h3⟩:=hasW_list h1;obtain⟨ns,rfl⟩:=items_int h3;have hlen:ns.length<=n:=by
  unfold OpenLaw.pre at hc;have h4:(WTm.not (.lt (.lit (.int (n:Int))) (.len (.arg 0)))).holds [] {args:=[.list (ns.map .int)]}=true:=by
   have h4:=(holds_andW hc).1;rw[hn]at h4;exact h4
  have h5:=condW_of h4 (w_not (w_lt w_lit (w_len_list (w_arg rfl))));rw[a0C]at h5;refine a8O fun q=>?_;have q':(n:Int)<((ns.length:Nat):Int):=by lia
  first
   |(rw[a1A q']at h5;exact wC h5 (by decide))
   |(simp at h5;lia)
 cases hwl with
 |cons w1 w2=>
  cases w2;cases w1 with
  |list ho hall=>exact⟨_,_,ns,rfl,rfl,ho,b1b ns _ hall,hlen⟩
theorem c5s(l:OpenLaw)(args:List WData):l.row.toRowW.claim.post args (.bool true) args=true:=
 postW_of (r:=l.row.toRowW) (X:=(true==true))
  (show WShape.has [] (.bool true) .bool=true by first|rfl|decide|simp[WShape.has,WShape.arms,WShape.armsAll])
  (show(WTm.eq .res (.lit (.bool true))).value [] {args:=args,res:=some (.bool true),after:=args}=some (.bool (true==true))from w_eq_bool (w_res rfl) w_lit) rfl
theorem attach_call{l:OpenLaw}{n:Nat}{q:Pg}{loose:Ss}{XP:SV->Heap->Prop}{YP:World->Heap->Prop}{d:DefRec}
  (hn:l.most=some n) (hdf:d.params.defaults=[])
  (call: ∀(w:World) (s₀ s₁:Sh) (mg mb:SV) (fa:Ad) (o:Obj) (pm cd doc:Vl) (a:Ad) (vs:Vs) (ns:Zs),
   Ground q loose [] XP w s₀ mg mb s₁.heap->YP w s₁.heap->
   s₁.heap.get? fa=some o->o.data= .func (docDef d.name d.params d.body d.scope pm cd doc)->s₁.heap.CodeRec cd d.name->mg d.name=some (.ref fa)->
   s₁.heap.get? a=some {cls:= .type "list",data:= .seq vs.toArray}->IntsAre vs ns->ns.length<=n->s₁.gens= #[]->
   codeAny (model l.prog w) callerA (.call (.ref fa) ⟨[.ref a],[]⟩) (fun r s'=>r= .ok (.ret (.bool true))/\OldK s₁.heap s'.heap/\s'.os=s₁.os/\AllBare s'.gens) s₁):
  WalkO q loose XP YP l.row.toRowW d [] (fun f vs=>PySem.call f vs):=by
 intro w s₀ s₁ mg mb G Y fa o pm cd doc dV kV ho hd hcd hD hmg hg args vals as hpre hlay hrd hwl hlo;obtain rfl:dV= .none:=Dflts.none hD hdf;obtain rfl:kV= .none:=Dflts.noKw hD;obtain⟨a,vs,ns,rfl,rfl,hobj,hints,hlen⟩:=c5r hn hpre hwl;refine enter_call (a5U (call w s₀ s₁ mg mb fa o pm cd doc a vs ns G Y ho (fd_plain hd) hcd hmg hobj hints hlen hg) fun r s' hq=>?_);obtain⟨rfl,h2,h3,h4⟩:=hq;exact⟨.inl ⟨.bool true,.bool true,[],rfl,fun _=>rfl,.bool true,c5s l _,fun _=>⟨List.Pairwise.nil,fun _ hm=>(nomatch hm)⟩⟩,h2,h3,h4⟩
end Att
namespace L2
open PySem PySem.Spec PyProof.Rows
theorem b6s: ∀{vs:Vs} {ns:Zs},IntsAre vs ns->Vals (ns.map V.int) vs
 |_,_,.nil=> .nil
 |_,_,.cons n t h=> .cons ⟨t,rfl⟩ (b6s h)
abbrev KOf{K:W.Frag}{h:Heap}(_:K.In h):W.Frag:=K
end L2
namespace L2
open PySem PySem.Spec PyProof.Rows
def a3j(s:Stmt):Arguments:=match s with
 | .FunctionDef _ a _ _ _ _ _ _ _ _=>a
 |_=>{posonlyargs:=[],args:=[],vararg:=none,kwonlyargs:=[],kw_defaults:=[],kwarg:=none,defaults:=[]}
def a2i(s:Stmt):List Stmt:=match s with
 | .FunctionDef _ _ b _ _ _ _ _ _ _=>b
 |_=>[]
def a0e(s:Stmt):Scope:=match s with
 | .FunctionDef _ _ _ _ _ _ sc _ _ _=>sc
 |_=>{kind:= .function,names:=[],isGenerator:=false,isCoroutine:=false}
abbrev CX0:CXT:=fun _ _ _ _ _ _=>False
abbrev E0:XK:=fun _ _ _=>False
theorem c5t{X:Cx}:b0y CX0 X E0:=fun _ _ _ _ _ _ _ h=>h.elim
structure Fun(K:W.Frag)(x qual:Str)(st:Stmt)(f:Ad)(fd:Fd):Prop where
 ex: ∃(oc:Vl) (od:Option Ad) (kV doc pm:Vl) (an:Option Ad) (cdv ct:Vl) (osl:Array (Option Vl)),
  fd=PySem.W.fnOf x qual (a3j st) (a2i st) (a0e st) .none kV doc pm an cdv ct/\K.lookup f=some ⟨oc,od,.func fd,osl⟩/\PySem.W.codeIn K cdv qual=true
 kp:PySem.W.keepIn K (.ref f)=true
section
variable{P:Pg}{w:World}{K:W.Frag}{mg:SV}{base:Heap}
theorem Fun.ok{x qual:Str}{st:Stmt}{f:Ad}{fd:Fd}{N ps:Ss}{k:Nat}{sp:Sp}(F:Fun K x qual st f fd)(S:FnScope N ps (a0e st))(len: ∀vs H Q E,sp vs H Q E->vs.length=ps.length)
  (hbody: ∀(cdv:Vl) (A:Ar) (outer:List Env) (s:Sh) (H:Hp) (vs:List V) (Q:VK) (E:XK),Room k (A.deeper (envOfC qual (a0e st) s.heap.objs.size f cdv))->sp vs H Q E->
   ∃t,PSs (d5d CX0 P w K mg base N qual (a0e st) f cdv A outer s H E).nox (a2i st) t/\t {nx:=fun _ H'=>Q .non H',rt:=Q} (start N vs) H):FnOk P w K mg base CX0 (k+1) f fd ps sp:=by
 obtain⟨oc,od,kV,doc,pm,an,cdv,ct,osl,rfl,lk,hcd⟩:=F.ex;refine d7w lk hcd S len fun A outer s H vs Q E hr hsp=>?_;obtain⟨t,h,q⟩:=hbody cdv A outer s H vs Q E hr hsp;exact⟨t,h.nox,q⟩
theorem Fun.binds{x qual:Str}{st:Stmt}{f:Ad}{fd:Fd}{ps:Ss}(F:Fun K x qual st f fd)
  (h: ∀(kV doc pm:Vl) (an:Option Ad) (cdv ct:Vl) (us:Vs),us.length=ps.length->bindArgs (PySem.W.fnOf x qual (a3j st) (a2i st) (a0e st) .none kV doc pm an cdv ct) ⟨us,[]⟩=pure (ps.zip us)):Binds K fd ps []:=by
 obtain⟨oc,od,kV,doc,pm,an,cdv,ct,osl,rfl,lk,hcd⟩:=F.ex;exact .all (h kV doc pm an cdv ct)
theorem a3v{x qual:Str}{st:Stmt}{f:Ad}{oc:Vl}{od an:Option Ad}{osl:Array (Option Vl)}{kV doc pm cdv ct:Vl}(l:K.lookup f=some ⟨oc,od,.func (PySem.W.fnOf x qual (a3j st) (a2i st) (a0e st) .none kV doc pm an cdv ct),osl⟩)
  (c:PySem.W.codeIn K cdv qual=true) (k:PySem.W.keepIn K (.ref f)=true):Fun K x qual st f (PySem.W.fnOf x qual (a3j st) (a2i st) (a0e st) .none kV doc pm an cdv ct):=⟨⟨oc,od,kV,doc,pm,an,cdv,ct,osl,rfl,l,c⟩,k⟩
end
theorem a7s{A:Ar}{k:Nat}(hr:Room k A):A.units+1<cLine:=a6J (a5W (by decide:1<=64) _) hr.units
theorem c5u{n:Nat}(h:n<=1000):n<sizeLine:=a6J h (by decide)
section
variable{X:Cx}
theorem pv(i:Nat){x:Str}{pos:Pos}(hN:X.N[i]? =some x:=by rfl)(hv:Vis X.env.scope x:=by first|exact Or.inl rfl|exact Or.inr (Or.inl rfl)|exact Or.inr (Or.inr rfl))(hd:(x==("__debug__":Str))=false:=by decide)
  (hcd:(x==("__classdict__":Str))=false:=by decide):PE X (.Name x pos) (a9k i):=d7k hN hv hd hcd
end
theorem a9l{A B:Prop}(h:B):if false=true then A else B:=by
 rw[wA a1H];exact h
theorem b1c{A B:Prop}(h:A):if true=true then A else B:=by
 rw[wB rfl];exact h
theorem c5v{c A B:Prop}[Decidable c](h1:c->A)(h2: ¬c->B):if c then A else B:=by
 by_cases h:c
 ·rw[wB h];exact h1 h
 ·rw[wA h];exact h2 h
def Same(H H':Hp):Prop:= ∀b o,H b=some o->H' b=some o
theorem Same.refl(H:Hp):Same H H:=fun _ _ h=>h
theorem Same.trans{H H1 H2:Hp}(a:Same H H1)(b:Same H1 H2):Same H H2:=fun c o h=>b c o (a c o h)
theorem Same.free{H H':Hp}(e:Same H H'){l:Ad}(h:H' l=Option.none):H l=Option.none:=by
 cases q:H l with
 |none=>rfl
 |some o=>
  rw[e l o q]at h;cases h
theorem Same.seq{K:W.Frag}{H H':Hp}{a:Ad}{xs:List V}(e:Same H H')(h:SqL K H a xs):SqL K H' a xs:=by
 rcases h with(h|⟨o,h⟩)|h
 ·exact .inl (.inl (e _ _ h))
 ·exact .inl (.inr ⟨o,e _ _ h⟩)
 ·exact .inr h
section
variable{κ:Type}[DecidableEq κ]
def b2w(kvs:List (κ×V))(k:κ):Option V:=(kvs.find? fun kv=>decide (kv.1=k)).map (·.2)
def b6t(kvs:List (κ×V))(k:κ)(v:V):List (κ×V):=
 if(kvs.any fun kv=>decide (kv.1=k))=true then kvs.map (fun kv=>if kv.1=k then(kv.1,v)else kv)else kvs++[(k,v)]
theorem b0b{p:κ×V}{r:List (κ×V)}{k:κ}(e:p.1=k):b2w (p::r) k=some p.2:=by simp[b2w,List.find?_cons,e]
theorem a7t{p:κ×V}{r:List (κ×V)}{k:κ}(e: ¬p.1=k):b2w (p::r) k=b2w r k:=by simp[b2w,List.find?_cons,e]
theorem b4i(k:κ): ∀kvs:List (κ×V),(kvs.any fun kv=>decide (kv.1=k))=(b2w kvs k).isSome
 | []=>rfl
 |p::r=>by
  rw[a7N];by_cases e:p.1=k
  ·simp only[b0b e,decide_eq_true e,Bool.true_or,Option.isSome_some]
  ·rw[a7t e,a1J e,Bool.false_or];exact b4i k r
theorem b1d(kvs:List (κ×V))(k:κ)(v:V):(b6t kvs k v).length<=kvs.length+1:=by
 unfold b6t;split
 ·rw[a0C];lia
 ·rw[a0L,a3E,List.length_nil];lia
theorem b4j{kvs:List (κ×V)}{k:κ}(v:V)(h:b2w kvs k=none):b6t kvs k v=kvs++[(k,v)]:=by
 unfold b6t;rw[b4i,h];exact wA (by decide)
theorem RelO.isSome_eq{o:Option V}{u:Option Vl}(r:RelO o u):o.isSome=u.isSome:=by
 cases o with
 |none=>cases u with
  |none=>rfl
  |some _=>exact(show False from r).elim
 |some _=>cases u with
  |none=>exact(show False from r).elim
  |some _=>rfl
theorem KV.val{kvs:List (κ×V)}{vs:List (κ×Vl)}(r:KV kvs vs)(k:κ):RelO (b2w kvs k) (valueAt vs k):=by
 unfold KV at r
 induction r with
 |nil=>exact True.intro
 | @cons p q ps qs h t ih=>
  obtain⟨h1,h2⟩:=h;by_cases e:p.1=k
  ·have e':q.1=k:=h1.symm.trans e;have b:valueAt (q::qs) k=some q.2:=by simp[valueAt,List.find?_cons,e']
   rw[b0b e,b];exact h2
  ·have e': ¬q.1=k:=fun z=>e (h1.trans z);have b:valueAt (q::qs) k=valueAt qs k:=by simp[valueAt,List.find?_cons,e']
   rw[a7t e,b];exact ih
theorem KV.any{kvs:List (κ×V)}{vs:List (κ×Vl)}(r:KV kvs vs)(k:κ):(kvs.any fun kv=>decide (kv.1=k))=vs.any fun kv=>decide (kv.1=k):=by
 unfold KV at r
 induction r with
 |nil=>rfl
 |cons h t ih=>rw[a7N,a7N,ih,h.1]
theorem KV.repl{kvs:List (κ×V)}{vs:List (κ×Vl)}(r:KV kvs vs)(k:κ){y:V}{u:Vl}(ry:RelV y u):
  KV (kvs.map fun kv=>if kv.1=k then(kv.1,y)else kv) (vs.map fun kv=>if kv.1=k then(kv.1,u)else kv):=by
 unfold KV at r⊢
 induction r with
 |nil=>exact .nil
 | @cons p q ps qs h t ih=>
  rw[a2K,a2K];refine .cons ?_ ih;obtain⟨h1,h2⟩:=h;by_cases e:p.1=k
  ·rw[wB e,wB (h1.symm.trans e)];exact⟨h1,ry⟩
  ·rw[wA e,wA (fun z=>e (h1.trans z))];exact⟨h1,h2⟩
theorem KV.put{kvs:List (κ×V)}{vs:List (κ×Vl)}(r:KV kvs vs)(k:κ){y:V}{u:Vl}(ry:RelV y u):KV (b6t kvs k y) (stored vs k u):=by
 unfold b6t stored;rw[r.any k];by_cases e:(vs.any fun kv=>decide (kv.1=k))=true
 ·rw[wB e,wB e];exact r.repl k ry
 ·rw[wA e,wA e];exact Paired.snoc r ⟨rfl,ry⟩
theorem KV.length{kvs:List (κ×V)}{vs:List (κ×Vl)}(r:KV kvs vs):kvs.length=vs.length:=a4Z r
end
theorem c5w{P:Pg}{w:World}{k:Key}{u:Vl}(r:RelV (kV k) u):(a3e P w).is k u=true:=by
 cases k with
 |inl i=>obtain⟨t,e⟩:=(show ∃t,u=Value.int i t from r);subst e;exact b8p P w i t
 |inr x=>obtain⟨t,e⟩:=(show ∃t,u=Value.str x t from r);subst e;exact b8q P w x t
theorem b6u{P:Pg}{w:World}: ∀{ks:List Key} {us:Vs},Vals (ks.map kV) us->ItemsAre (a3e P w) ks us
 | [],_,r=>by rw[b0B]at r;cases r;exact .nil
 |k::ks,_,r=>by
  rw[a2K]at r;cases r with
  |cons h t=>exact .cons (c5w h) (b6u t)
abbrev KT(H:Hp):List (List Key×V)->List (List Key×Ad×Vl)->Prop:=Paired fun p q=>p.1=q.1/\H q.2.1=some (.tup (p.1.map kV))/\RelV p.2 q.2.2
theorem KT.val{H:Hp}{kvs:List (List Key×V)}{xs:List (List Key×Ad×Vl)}(r:KT H kvs xs)(k:List Key):RelO (b2w kvs k) ((atKey xs k).map (·.2)):=by
 induction r with
 |nil=>exact True.intro
 | @cons p q ps qs h t ih=>
  obtain⟨h1,_,h2⟩:=h;by_cases e:p.1=k
  ·have e':q.1=k:=h1.symm.trans e;have b:atKey (q::qs) k=some q.2:=by simp[atKey,List.find?_cons,e']
   rw[b0b e,b];exact h2
  ·have e': ¬q.1=k:=fun z=>e (h1.trans z);have b:atKey (q::qs) k=atKey qs k:=by simp[atKey,List.find?_cons,e']
   rw[a7t e,b];exact ih
theorem KT.repl{H:Hp}{kvs:List (List Key×V)}{xs:List (List Key×Ad×Vl)}(r:KT H kvs xs)(k:List Key){y:V}{u:Vl}(ry:RelV y u):
  KT H (kvs.map fun kv=>if kv.1=k then(kv.1,y)else kv) (xs.map (putAt k u)):=by
 induction r with
 |nil=>exact .nil
 | @cons p q ps qs h t ih=>
  rw[a2K,a2K];refine .cons ?_ ih;obtain⟨h1,h2,h3⟩:=h;unfold putAt;by_cases e:p.1=k
  ·rw[wB e,wB (h1.symm.trans e)];exact⟨h1,h2,ry⟩
  ·rw[wA e,wA (fun z=>e (h1.trans z))];exact⟨h1,h2,h3⟩
theorem KT.put{H:Hp}{kvs:List (List Key×V)}{xs:List (List Key×Ad×Vl)}(r:KT H kvs xs)(k:List Key){b:Ad}{y:V}{u:Vl}(hb:H b=some (.tup (k.map kV)))(ry:RelV y u):
  KT H (b6t kvs k y) (storedH xs k b u):=by
 have e:(kvs.any fun kv=>decide (kv.1=k))=(atKey xs k).isSome:=by
  rw[b4i,(r.val k).isSome_eq,a9V]
 unfold b6t storedH;rw[e];by_cases q:(atKey xs k).isSome=true
 ·rw[wB q,wB q];exact r.repl k ry
 ·rw[wA q,wA q];exact Paired.snoc r ⟨rfl,hb,ry⟩
theorem KT.keeps{H H':Hp}{kvs:List (List Key×V)}{xs:List (List Key×Ad×Vl)}(r:KT H kvs xs)(ht: ∀b ys,H b=some (.tup ys)->H' b=some (.tup ys)):KT H' kvs xs:=
 Paired.mapP r fun _ _ z=>⟨z.1,ht _ _ z.2.1,z.2.2⟩
section
variable{P:Pg}{w:World}{H:Hp}{h:Heap}{a:Ad}
theorem d8b{u:HO}(ok:HOk P w H h)(e:Rd H a u):ObjOk P w H h a u:=e.ok ok
theorem c5x{kvs:List (Key×V)}(ok:HOk P w H h)(e:Rd H a (.dK kvs)):kvs.length<=sizeLine/\(a==sysModules)=false/\ ∃vs,KV kvs vs/\h.DictOf (a3e P w) a vs:=
 show ObjOk P w H h a (.dK kvs)from d8b ok e
theorem dk_of{kvs:List (Key×V)}(ok:HOk P w H h)(e:H a=some (.dK kvs)):kvs.length<=sizeLine/\(a==sysModules)=false/\ ∃vs,KV kvs vs/\h.DictOf (a3e P w) a vs:=c5x ok (.inl e)
theorem b3l{ks:List Key}(ok:HOk P w H h)(e:H a=some (.tup (ks.map kV))):(tupleKind (a3e P w)).is h ks a:=by
 obtain⟨_,its,r,o,h1,h2,n,h3,_⟩:=(show ObjOk P w H h a (.tup (ks.map kV))from ok a _ e);exact⟨o,its.toArray,n,h1,h2,h3,by simpa using b6u r⟩
theorem c5y{kvs:List (List Key×V)}(ok:HOk P w H h)(e:Rd H a (.dT kvs)):kvs.length<=sizeLine/\(a==sysModules)=false/\
  ∃xs,KT H kvs xs/\h.DictOfH (tupleKind (a3e P w)) a xs:=by
 obtain⟨z,y,xs,r,o,es,ep,h1,h2,h3,h4,h5⟩:=(show ObjOk P w H h a (.dT kvs)from d8b ok e);refine⟨z,y,xs,r,o,es,ep,h1,h2,h3,h4,fun x hx=>?_,h5⟩;have all: ∀{l:List (List Key×V)} {m:List (List Key×Ad×Vl)},KT H l m-> ∀x∈m,(tupleKind (a3e P w)).is h x.1 x.2.1:=by
  intro l m q
  induction q with
  |nil=>intro x hx;exact nomatch hx
  | @cons p q ps qs hq t ih=>
   intro x hx
   rcases a1L.mp hx with e|hx
   ·subst e;exact b3l ok (by rw[<-hq.1];exact hq.2.1)
   ·exact ih x hx
 exact all r x hx
theorem d5h{kvs:List (List Key×V)}(ok:HOk P w H h)(e:H a=some (.dT kvs)):kvs.length<=sizeLine/\(a==sysModules)=false/\
  ∃xs,KT H kvs xs/\h.DictOfH (tupleKind (a3e P w)) a xs:=c5y ok (.inl e)
end
def DGet(H:Hp)(a:Ad)(y:V)(r:Option V):Prop:=
 (∃kvs k,Rd H a (.dK kvs)/\y=kV k/\r=b2w kvs k)∨ ∃kvs k b,Rd H a (.dT kvs)/\y= .ref b/\H b=some (.tup (k.map kV))/\r=b2w kvs k
def DPut(H:Hp)(a:Ad)(y v:V)(H':Hp):Prop:=
 (∃kvs k,H a=some (.dK kvs)/\y=kV k/\kvs.length<sizeLine/\H'=upd H a (.dK (b6t kvs k v)))∨
 ∃kvs k b,H a=some (.dT kvs)/\y= .ref b/\H b=some (.tup (k.map kV))/\kvs.length<sizeLine/\H'=upd H a (.dT (b6t kvs k v))
theorem DGet.t{H:Hp}{a b:Ad}{kvs:List (List Key×V)}{k:List Key}(e:H a=some (.dT kvs))(eb:H b=some (.tup (k.map kV))):DGet H a (.ref b) (b2w kvs k):= .inr ⟨kvs,k,b,.inl e,rfl,eb,rfl⟩
theorem DPut.t{H:Hp}{a b:Ad}{kvs:List (List Key×V)}{k:List Key}{v:V}(e:H a=some (.dT kvs))(eb:H b=some (.tup (k.map kV)))(hl:kvs.length<sizeLine):
  DPut H a (.ref b) v (upd H a (.dT (b6t kvs k v))):= .inr ⟨kvs,k,b,e,rfl,eb,hl,rfl⟩
section
variable{X:Cx}{za:AO}{σ:St}{H:Hp}{s:Sh}{a:Ad}{y v:V}{u r:Vl}{o:Option V}{A:Ar}{E:VP}
theorem Inv.big(I:Inv X za σ H s):sysModules<s.heap.objs.size:=by
 have h:mainGlobals<s.heap.objs.size:=(I.mod.glob.keeps I.bk).lt;exact a9P (by decide) h
theorem c5z{Q:VP}(hu:A.units+1<cLine)(I:Inv X za σ H s)(g:DGet H a y (some v))(ry:RelV y u)(h: ∀w' s',Inv X za σ H s'->RelV v w'->Q w' s'):
  wpAny (model X.prog X.w) A (getItem (.ref a) u) Q E s:=by
 rcases g with⟨kvs,k,e,ey,l⟩|⟨kvs,k,b,e,ey,eb,l⟩
 ·subst ey;obtain⟨z,hd,vs,rel,dd⟩:=c5x I.hok e;obtain⟨w',hw,rw'⟩:=RelO.some_of (v:=v) (o:=valueAt vs k) (by rw[l];exact rel.val k);exact wpAny_getItem_of (c5w ry) dd.mapOf hw (h w' _ (I.tok _) rw')
 ·subst ey;cases(show u=Value.ref b from ry);obtain⟨z,hd,xs,rel,dd⟩:=c5y I.hok e;obtain⟨w',hw,rw'⟩:=RelO.some_of (v:=v) (o:=(atKey xs k).map (·.2)) (by rw[l];exact rel.val k);obtain⟨p,hp,hp2⟩:=a0O.mp hw;refine wpAny_getItem_heap (a7O hu) (b3l I.hok eb) dd hp ?_;rw[hp2];exact h w' _ (I.tok _) rw'
theorem d_in{Q:VP}(hu:A.units+1<cLine)(I:Inv X za σ H s)(g:DGet H a y o)(ry:RelV y u)(h: ∀s',Inv X za σ H s'->Q (.bool o.isSome) s'):
  wpAny (model X.prog X.w) A (compareOp .In u (.ref a)) Q E s:=by
 rcases g with⟨kvs,k,e,ey,l⟩|⟨kvs,k,b,e,ey,eb,l⟩
 ·subst ey;obtain⟨z,hd,vs,rel,dd⟩:=c5x I.hok e;refine wpAny_in_of (c5w ry) hd dd.mapOf ?_;rw[<-(rel.val k).isSome_eq,<-l];exact h _ (I.tok _)
 ·subst ey;cases(show u=Value.ref b from ry);obtain⟨z,hd,xs,rel,dd⟩:=c5y I.hok e;refine wpAny_in_heap (a7O hu) (b3l I.hok eb) hd dd ?_;have q:=(rel.val k).isSome_eq;rw[a9V]at q;rw[<-q,<-l];exact h _ (I.tok _)
theorem d5i{Q:VP}(hu:A.units+1<cLine)(I:Inv X za σ H s)(g:DGet H a y o)(ry:RelV y u)(h: ∀s',Inv X za σ H s'->Q (.bool (!o.isSome)) s'):
  wpAny (model X.prog X.w) A (compareOp .NotIn u (.ref a)) Q E s:=by
 rcases g with⟨kvs,k,e,ey,l⟩|⟨kvs,k,b,e,ey,eb,l⟩
 ·subst ey;obtain⟨z,hd,vs,rel,dd⟩:=c5x I.hok e;refine wpAny_notIn_of (c5w ry) hd dd.mapOf ?_;rw[<-(rel.val k).isSome_eq,<-l];exact h _ (I.tok _)
 ·subst ey;cases(show u=Value.ref b from ry);obtain⟨z,hd,xs,rel,dd⟩:=c5y I.hok e;refine wpAny_notIn_heap (a7O hu) (b3l I.hok eb) hd dd ?_;have q:=(rel.val k).isSome_eq;rw[a9V]at q;rw[<-q,<-l];exact h _ (I.tok _)
theorem b8v{h':Heap}{t':Nat}{ob:HO}(I:Inv X za σ H s)(mu:Mut (H a))(hs:Heap.SameBut a s.heap h')(he: ∃q,h'.get? a=some q)(new:ObjOk X.prog X.w (upd H a ob) h' a ob):
  Inv X za σ (upd H a ob) {s with heap:=h',toks:=t'}:=
 I.write (x:=a) (e:=a) mu (.inl rfl) (fun b q hb z=>(hs.2 b hb).trans z) he new
theorem d8c{P:Pg}{w:World}{H':Hp}{h':Heap}{kvs:List (Key×V)}{vs:List (Key×Vl)}(z:kvs.length<=sizeLine)(hd:(a==sysModules)=false)(rel:KV kvs vs)(dd:h'.DictOf (a3e P w) a vs):
  ObjOk P w H' h' a (.dK kvs):=⟨z,hd,vs,rel,dd⟩
theorem c6a{H':Hp}{Q:Unit->Sh->Prop}(hu:A.units+1<cLine)(I:Inv X za σ H s)(g:DPut H a y v H')(ry:RelV y u)(rv:RelV v r)(h: ∀s',Inv X za σ H' s'->Q () s'):
  wpAny (model X.prog X.w) A (setItem (.ref a) u r) Q E s:=by
 rcases g with⟨kvs,k,e,ey,l,eH⟩|⟨kvs,k,b,e,ey,eb,l,eH⟩
 ·subst ey eH;obtain⟨z,hd,vs,rel,dd⟩:=dk_of I.hok e;have hz:vs.length<=sizeLine:=by rw[<-rel.length];exact z
  have hl:(b6t kvs k v).length<=sizeLine:=by have:=b1d kvs k v;lia
  refine wpAny_setItem_pairs (hsz:=hz) (c5w ry) dd fun h' dd' hs=>h _ ?_;have he: ∃q,h'.get? a=some q:=let⟨q,_,_,hq,_⟩:=dd';⟨q,hq⟩
  exact b8v I (by rw[e];exact True.intro) hs he (d8c hl hd (rel.put k rv) dd')
 ·subst ey eH;cases(show u=Value.ref b from ry);obtain⟨z,hd,xs,rel,dd⟩:=d5h I.hok e;have hz:xs.length<=sizeLine:=by rw[<-a4Z rel];exact z
  have hl:(b6t kvs k v).length<=sizeLine:=by have:=b1d kvs k v;lia
  refine wpAny_setItem_heap (hsz:=hz) (a7O hu) (b3l I.hok eb) dd fun h' dd' hs=>h _ ?_;obtain⟨q,es,ep,hq,h2,h3,h4,_,h5⟩:=dd';refine b8v I (by rw[e];exact True.intro) hs ⟨q,hq⟩ ⟨hl,hd,_,(rel.put k eb rv).keeps fun c ys ec=>?_,q,es,ep,hq,h2,h3,h4,h5⟩;rw[a0f (nE ec e)];exact ec
end
def NoSl(i:Expr):Prop:= ∀ov iv,subscripted i false ov iv=operate [ov,iv] (getItem ov iv)
theorem d5j{prog:Pg}{w:World}{A:Ar}{E:VP}{s:Sh}{env:Env}{value slice:Expr}{pos:Pos}{T id:String}{Q:VP}
  (hl:typeLookup (.type T) "__getitem__"=pure (some (.builtin id))) (hs:NoSl slice)
  (h:wpAny (model prog w) A (eval value env) (fun o s₁=>wpAny (model prog w) A (eval slice env) (fun i s₂=>s₂.TypeIs o T/\wpAny (model prog w) A (getItem o i) Q E s₂) E s₁) E s):
  wpAny (model prog w) A (eval (.Subscript value slice pos) env) Q E s:=by
 refine Subscript_ (a3Q h (fun o s₁ h₁=>a3Q h₁ (fun i s₂ h₂=>?_) fun _ _ x=>x) fun _ _ x=>x);obtain⟨hT,h₂⟩:=h₂;unfold subscriptTail;refine a0D ?_;rw[getitemInPython_of_ne hT.not_modules];refine a0D (wpAny_specialOf hT hl ?_);have fin:wpAny (model prog w) A (subscripted slice false o i) (fun r s₃=>wpAny (model prog w) A (letTemporaryGo value o r >>= fun _=>pure r) Q E s₃) E s₂:=by
  rw[hs o i];exact wpAny_operating (a3Q h₂ (fun r s₃ h₃=>a0D (wpAny_letTemporaryGo (a0G h₃))) fun _ _ x=>x)
 first
  |exact a0G (a0D fin)
  |exact a0D (a0G (a0D fin))
  |exact a0D fin
theorem b8w{X:Cx}{za:AO}{σ:St}{H:Hp}{s:Sh}{a:Ad}{y:V}{o:Option V}(I:Inv X za σ H s)(g:DGet H a y o):s.TypeIs (.ref a) "dict":=by
 rcases g with⟨kvs,k,e,_,_⟩|⟨kvs,k,b,e,_,_,_⟩
 ·obtain⟨_,_,vs,_,dd⟩:=c5x I.hok e;exact dd.typeIs
 ·obtain⟨_,_,xs,_,dd⟩:=c5y I.hok e;exact dd.typeIs
def d8d(td ty:TE):TE:=fun σ H Q=>td σ H fun x H1=>ty σ H1 fun y H2=> ∃a v,x= .ref a/\DGet H2 a y (some v)/\Q v H2
def tDIn(ty td:TE):TE:=fun σ H Q=>ty σ H fun y H1=>td σ H1 fun x H2=> ∃a o,x= .ref a/\DGet H2 a y o/\Q (.bl o.isSome) H2
def c6b(ty td:TE):TE:=fun σ H Q=>ty σ H fun y H1=>td σ H1 fun x H2=> ∃a o,x= .ref a/\DGet H2 a y o/\Q (.bl (!o.isSome)) H2
def d8e(td ty tv:TE):TS:=fun D σ H=>tv σ H fun v H1=>td σ H1 fun x H2=>ty σ H2 fun y H3=> ∃a H4,x= .ref a/\DPut H3 a y v H4/\D.nx σ H4
section
variable{X:Cx}{o i e value:Expr}{pos pos' tpos:Pos}{td ty tv:TE}
theorem a5j(hu:X.A.units+1<cLine)(ho:PE X o td)(hi:PE X i ty)(hs:NoSl i):PE X (.Subscript o i pos) (d8d td ty):=by
 intro za s σ H Q I h;refine d5j PySem.F.slot_dict_getitem.lookup hs (thn (ho za s σ H _ I h) fun u s1 ⟨x,H1,I1,rx,q1⟩=>thn (hi za s1 σ H1 _ I1 q1) fun iv s2 ⟨y,H2,I2,ry,a,v,ex,g,q2⟩=>?_);subst ex;obtain rfl:u=Value.ref a:=rx;exact⟨b8w I2 g,c5z hu I2 g ry fun w' s3 I3 rw'=>⟨v,H2,I3,rw',q2⟩⟩
theorem c0v(hu:X.A.units+1<cLine)(hi:PE X i ty)(ho:PE X o td):PC X .In i o (tDIn ty td):=by
 intro za s σ H Q I h;refine thn (hi za s σ H _ I h) fun iv s1 ⟨y,H1,I1,ry,q1⟩=>thn (ho za s1 σ H1 _ I1 q1) fun u s2 ⟨x,H2,I2,rx,a,ov,ex,g,q2⟩=>?_;subst ex;obtain rfl:u=Value.ref a:=rx;exact d_in hu I2 g ry fun s3 I3=>⟨.bl ov.isSome,H2,I3,rfl,q2⟩
theorem b1e(hu:X.A.units+1<cLine)(hi:PE X i ty)(ho:PE X o td):PC X .NotIn i o (c6b ty td):=by
 intro za s σ H Q I h;refine thn (hi za s σ H _ I h) fun iv s1 ⟨y,H1,I1,ry,q1⟩=>thn (ho za s1 σ H1 _ I1 q1) fun u s2 ⟨x,H2,I2,rx,a,ov,ex,g,q2⟩=>?_;subst ex;obtain rfl:u=Value.ref a:=rx;exact d5i hu I2 g ry fun s3 I3=>⟨.bl (!ov.isSome),H2,I3,rfl,q2⟩
theorem b1f(hu:X.A.units+1<cLine)(ho:PE X o td)(hi:PE X i ty)(hv:PE X value tv)(hs:swapsWith value (some (.Subscript o i pos')) pos.line X.env=pure false):
  PS X (.Assign [.Subscript o i pos'] value pos) (d8e td ty tv):=by
 intro za s σ H D I h;refine wpAny_Assign_Subscript (thn (hv za s σ H _ I h) fun r s1 ⟨v,H1,I1,rv,q1⟩=>thn (ho za s1 σ H1 _ I1 q1) fun u s2 ⟨x,H2,I2,rx,q2⟩=>thn (hi za s2 σ H2 _ I2 q2) fun iv s3 ⟨y,H3,I3,ry,a,H4,ex,g,q3⟩=>?_) hs;subst ex;obtain rfl:u=Value.ref a:=rx;exact c6a hu I3 g ry rv fun s4 I4=>⟨σ,H4,I4,q3⟩
end
theorem c0w{P:Pg}{w:World}{H:Hp}(h:Heap)(hb:sysModules<h.objs.size):ObjOk P w H (h.push {cls:= .type "dict",data:= .dict #[]}) h.objs.size (.dT []):=
 ⟨a3K _,a3J.mpr (a3T (a1M hb)),[],.nil,_,#[],0,a0X _ rfl,⟨rfl,rfl,rfl⟩,rfl,rfl,List.nodup_nil⟩
def d8f:TE:=fun _ H Q=> ∀p,H p=none->Q (.ref p) (upd H p (.dT []))
section
variable{X:Cx}{pos:Pos}
theorem b0c:PE X (.Dict [] [] pos) d8f:=fun za s σ H Q I h=>
 wpAny_Dict_empty ⟨.ref s.heap.objs.size,_,I.laid (a:=s.heap.objs.size) (o:= .dT []) (t':=s.toks) (fun _ _ q=>a0H _ q) (a0K _) (c0w s.heap I.big),rfl,h _ (I.hok.fresh (a0K _))⟩
end
def d3r:List (TE×TE)->St->Hp->(List (V×V)->Hp->Prop)->Prop
 | [],_,H,Q=>Q [] H
 |(tk,tv)::r,σ,H,Q=>tk σ H fun x H1=>tv σ H1 fun y H2=>d3r r σ H2 fun ps H3=>Q ((x,y)::ps) H3
abbrev VV:List (V×V)->List (Vl×Vl)->Prop:=Paired fun p q=>RelV p.1 q.1/\RelV p.2 q.2
def PPs(X:Cx)(pos:Pos)(keys:List (Option Expr))(values:List Expr)(trs:List (TE×TE)):Prop:=
 ∀(za:AO) (s:Sh) (σ:St) (H:Hp) (Q:List (V×V)->Hp->Prop),Inv X za σ H s->d3r trs σ H Q->
  wpAny (model X.prog X.w) X.A (evalPairs (pairTrees keys values X.env pos)) (fun vs s'=> ∃ps H',Inv X za σ H' s'/\VV ps vs/\Q ps H') X.xe s
theorem d5k{X:Cx}{pos:Pos}:PPs X pos [] [] []:=fun za s σ H Q I h=>pairTrees_nil_walk ⟨[],H,I,.nil,h⟩
theorem d0y{X:Cx}{pos:Pos}{k v:Expr}{ks:List (Option Expr)}{vs:List Expr}{tk tv:TE}{trs:List (TE×TE)}(hk:PE X k tk)(hv:PE X v tv)(hr:PPs X pos ks vs trs):
  PPs X pos (some k::ks) (v::vs) ((tk,tv)::trs):=fun za s σ H Q I h=>
 pairTrees_cons_walk (thn (hk za s σ H _ I h) fun u s1 ⟨x,H1,I1,rx,q1⟩=>thn (hv za s1 σ H1 _ I1 q1) fun w2 s2 ⟨y,H2,I2,ry,q2⟩=>
  thn (hr za s2 σ H2 _ I2 q2) fun ws s3 ⟨ps,H3,I3,rel,q3⟩=>⟨(x,y)::ps,H3,I3,.cons ⟨rx,ry⟩ rel,q3⟩)
structure M1(X:Cx)(o:Expr)(m:Str)(apos:Pos)(e:Expr)(cpos:Pos):Prop where
 base:attributeBase o m X.env (eval o X.env)=eval o X.env
 few:((backTo cpos (starEach [e] X.env)).all (fun x=> !x.1)&&(backToKw cpos (keywordEach [] X.env)).all (fun x=>x.1.isSome)
  &&decide (([e]:List Expr).length+([]:List Keyword).length+(if([]:List Keyword).isEmpty then 0 else 1)<30))=true
 line:(apos.endLine==cpos.line)=true
 trees:backTo cpos (starEach [e] X.env)=[(false,eval e X.env)]
theorem b1g{α β:Type}{f:α->β->Sem (ForInStep β)}{g:β->α->β}: ∀{l:List α} (c:β),(∀x∈l,∀c,f x c=pure (.yield (g c x)))->forIn l c f=pure (l.foldl g c)
 | [],_,_=>rfl
 |x::l,c,h=>by
  rw[List.forIn_cons,h x (a0T ..),pure_bind];exact b1g (g c x) fun y hy=>h y (a1D _ hy)
def a7c(env:Env)(acc:List (Str×Ad))(y:Str×NameKind):List (Str×Ad):=
 if y.2== .free then(match env.cells.lookup y.1 with|some c=>(y.1,c)::acc|none=>acc)else acc
def d3s(env:Env)(sc:Scope):List (Str×Ad):=sc.names.foldl (a7c env) []
theorem c3i{env:Env}{sc:Scope}(h: ∀y∈sc.names,y.2= .free-> ∃c,env.cells.lookup y.1=some c):closureFor sc env=pure (d3s env sc):=by
 simp only[closureFor];rw[b1g (g:=a7c env) [] fun x hx c=>?_]
 ·rfl
 ·obtain⟨n,k⟩:=x;by_cases hk:k= .free
  ·subst hk;obtain⟨d,hd⟩:=h _ hx rfl;have hd':env.cells.lookup n=some d:=hd;simp only[a7c,cellOf,hd',beq_self_eq_true,if_true,pure_bind]
  ·have hb:(k==NameKind.free)=false:=by simpa using hk
   simp only[a7c,hb,Bool.false_eq_true,if_false]
theorem b0d{env:Env}: ∀(names:List (Str×NameKind)) (acc:List (Str×Ad)),(∀y c,acc.lookup y=some c->env.cells.lookup y=some c)->
  ∀y c,(names.foldl (a7c env) acc).lookup y=some c->env.cells.lookup y=some c
 | [],_,h=>h
 | (n,k)::r,acc,h=>by
  refine b0d r _ fun y c e=>?_;unfold a7c at e;split at e
  ·split at e
   ·rename_i d hd
    rw[a4A]at e;cases hy:y==n with
    |true=>
     rw[hy]at e;have hy':y=n:=eq_of_beq hy;cases e;rw[hy'];exact hd
    |false=>rw[hy]at e;exact h y c e
   ·exact h y c e
  ·exact h y c e
theorem c6c{env:Env}: ∀(names:List (Str×NameKind)) (acc:List (Str×Ad)) (y:Str),(∃c,acc.lookup y=some c)-> ∃c,(names.foldl (a7c env) acc).lookup y=some c
 | [],_,_,h=>h
 | (n,k)::r,acc,y,h=>by
  refine c6c r _ y ?_;unfold a7c;split
  ·split
   ·rename_i d hd
    rw[a4A];cases hy:y==n with
    |true=>exact⟨_,rfl⟩
    |false=>exact h
   ·exact h
  ·exact h
theorem d3t{env:Env}: ∀(names:List (Str×NameKind)) (acc:List (Str×Ad)) (y:Str),names.lookup y=some .free->(∃c,env.cells.lookup y=some c)-> ∃c,(names.foldl (a7c env) acc).lookup y=some c
 | [],_,_,h,_=>by simp at h
 | (n,k)::r,acc,y,h,hc=>by
  rw[a4A]at h;cases hy:y==n with
  |true=>
   rw[hy]at h;cases h;have hy':y=n:=eq_of_beq hy;subst hy';obtain⟨c,hc⟩:=hc;refine c6c r _ y ?_;refine⟨c,?_⟩;unfold a7c;rw[wB (by rfl)];show List.lookup y (match env.cells.lookup y with|some c=>(y,c)::acc|none=>acc)=_
   rw[hc];simp
  |false=>
   rw[hy]at h;exact d3t r _ y h hc
theorem a4q{env:Env}: ∀{names:List (Str×NameKind)} {y:Str} {k:NameKind},
  (names.map fun(n,k)=>if(k==NameKind.free&&env.scope.kind== .function&&env.kindOf n==some .cell)then(n,NameKind.cell)else(n,k)).lookup y=some k->
   names.lookup y=some k∨(names.lookup y=some .free/\k= .cell)
 | [],_,_,h=>by simp at h
 | (n,k0)::r,y,k,h=>by
  have ih:=@a4q env r y k;rw[a2K]at h;by_cases hc:(k0==NameKind.free&&env.scope.kind== .function&&env.kindOf n==some .cell)=true
  ·have h':List.lookup y ((n,NameKind.cell)::(r.map fun(n,k)=>if(k==NameKind.free&&env.scope.kind== .function&&env.kindOf n==some .cell)then(n,NameKind.cell)else(n,k)))=some k:=by
    have e:(if(k0==NameKind.free&&env.scope.kind== .function&&env.kindOf n==some .cell)=true then(n,NameKind.cell)else(n,k0))=(n,NameKind.cell):=wB hc;rw[<-e];exact h
   rw[a4A]at h'⊢;cases hy:y==n with
   | true=>
    rw[hy]at h';cases h';have hk:k0= .free:=by
     rw[a2P,a2P]at hc;exact eq_of_beq hc.1.1
    exact .inr ⟨by rw[hk],rfl⟩
   |false=>rw[hy]at h';exact ih h'
  ·have h':List.lookup y ((n,k0)::(r.map fun(n,k)=>if(k==NameKind.free&&env.scope.kind== .function&&env.kindOf n==some .cell)then(n,NameKind.cell)else(n,k)))=some k:=by
    have e:(if(k0==NameKind.free&&env.scope.kind== .function&&env.kindOf n==some .cell)=true then(n,NameKind.cell)else(n,k0))=(n,k0):=wA hc;rw[<-e];exact h
   rw[a4A]at h'⊢;cases hy:y==n with
   |true=>rw[hy]at h';exact .inl h'
   |false=>rw[hy]at h';exact ih h'
def b8x(y:Str):Str:=⟨#[46]++y.cps⟩
def d0j(vs:Ss)(y:Str):Str:=if vs.contains y=true then b8x y else y
structure CompScope(X:Cx)(vs:Ss)(sc:Scope):Prop where
 kind:sc.kind= .function
 cell: ∀y∈sc.names,y.2≠ .cell
 locs: ∀y∈sc.names,y.2= .local->sc.names.lookup y.1=some .local
 own: ∀y∈X.N.map (d0j vs),sc.names.lookup y≠some .local
 hid: ∀y∈vs,sc.names.lookup (b8x y)=none
 nd:(vs++X.N.map (d0j vs)).Nodup
 free: ∀y∈sc.names,y.2= .free->X.env.kindOf y.1=some .cell∨X.env.kindOf y.1=some .free
def cxC(X:Cx)(vs:Ss)(sc:Scope)(C:Ad)(s:Sh)(H:Hp)(fp:As):Cx where
 prog:=X.prog
 w:=X.w
 K:=X.K
 mg:=X.mg
 base:=X.base
 A:=X.A
 N:=vs++X.N.map (d0j vs)
 s₀:=s
 H₀:=H
 env:=compEnvC sc (d3s X.env sc) C X.env
 outer:=X.stack
 stack:=X.stack
 ex:=fp
 fn:=fun _=>false
 calm:=X.calm
 pn:=X.pn
 xe:=fun _ _=>False
def a4c(vs:Ss)(σ:St):St:=List.replicate vs.length none++σ
section
variable{X:Cx}{za:AO}{σ:St}{H:Hp}{s:Sh}{vs:Ss}{sc:Scope}
theorem d0z{C:Ad}{fp:As}{h':Heap}{tk:Nat}{m0:SV}(S:CompScope X vs sc)(I:Inv X za σ H s)(hf: ∀b∈fp,FpOk X za H b)(ho: ∀b∈fp,∃o,s.heap.get? b=some o)
  (k: ∀b o,s.heap.get? b=some o->h'.get? b=some o) (hns:h'.Ns C m0) (hC:s.heap.objs.size<=C):Inv (cxC X vs sc C s H fp) za (a4c vs σ) H {s with heap:=h',toks:=tk}:=by
 have sound: ∀y c,(d3s X.env sc).lookup y=some c->X.env.cells.lookup y=some c:=b0d sc.names [] fun y c e=>by simp at e
 have fr: ∀y,sc.names.lookup y=some .free->X.env.kindOf y=some .cell∨X.env.kindOf y=some .free:=fun y e=>S.free (y,.free) (a3L e) rfl;have frc: ∀y,(X.env.kindOf y=some .cell∨X.env.kindOf y=some .free)-> ∃c,X.env.cells.lookup y=some c:=fun y e=>I.ok.has y e;have kinds: ∀{y:Str} {kd:NameKind},(relabel sc X.env).names.lookup y=some kd->kd= .cell∨kd= .free->sc.names.lookup y=some .free:=fun {y kd} e hk=>by
  rcases a4q (names:=sc.names) e with z|⟨z,_⟩
  ·rcases hk with q|q
   ·subst q;exact wC rfl (S.cell _ (a3L z))
   ·subst q;exact z
  ·exact z
 have has: ∀y,sc.names.lookup y=some .free-> ∃c,(d3s X.env sc).lookup y=some c:=fun y e=>d3t sc.names [] y e (frc y (fr y e));have hlt: ∀y c,X.env.cells.lookup y=some c->c<s.heap.objs.size:=fun y c e=>let⟨_,z⟩:=I.cell y c e;z.lt
 have kc: ∀{c v},s.heap.IsCell c v->h'.IsCell c v:=fun {c v} ⟨o,e,d⟩=>⟨o,k _ _ e,d⟩;refine⟨⟨I.ok.mod,S.kind,I.ok.glob,I.ok.blt,hC,fun y z c h1 h2=>I.ok.inj y z c (sound y c h1) (sound z c h2),fun y hy=>?_,fun y c z _=>(nomatch z),I.ok.hd,I.ok.frames,.inl rfl,fun b hb=>⟨?_,fun y c e=>?_⟩,I.bs,a1C I.ok.bsz I.sz,fun b o e hb=>?_,fun b hb hs=>?_,I.stack,I.stkFree⟩,
  rfl,I.bare,Un.kept k,⟨m0,hns,fun i y v e1 e2 e3=>?_⟩,fun y c e=>?_,I.hok.fresh hC,fun y c e=>I.freeC y c (sound y c e),fun p hp=>?_,I.hok.kept k,?_⟩
 ·have hy':(relabel sc X.env).names.lookup y=some .cell∨(relabel sc X.env).names.lookup y=some .free:=hy
  rcases hy' with z|z
  ·exact has y (kinds z (.inl rfl))
  ·exact has y (kinds z (.inr rfl))
 ·obtain⟨o,e⟩:=ho b hb;exact a1M (a1N (a0U e) hC)
 ·exact(hf b hb).2.2.2.2.1 y c (sound y c e)
 ·obtain⟨_,_,_,z,_⟩:=hf b hb
  rcases z with z|z
  ·exact I.ok.noex b o e z
  ·exact wC (a1N (a0U (I.ok.bs b o e).1) z) (a4G _)
 ·obtain⟨_,h1,h2,_⟩:=hf b hb
  rcases a1L.mp (I.stkSub b hs)with z|z
  ·exact h1 z
  ·exact h2 z
 ·have e1':(vs++X.N.map (d0j vs))[i]? =some y:=e1;have e2':(List.replicate vs.length none++σ)[i]? =some (some v):=e2;have hi:vs.length<=i:=by
   by_cases z:i<vs.length
   ·rw[a0N (by simpa using z),List.getElem?_replicate]at e2';split at e2'<;>cases e2'
   ·lia
  rw[a0M hi]at e1';rw[a0M (by simpa using hi),List.length_replicate]at e2';have yN:y∈X.N.map (d0j vs):=a0E e1';have e3':(relabel sc X.env).names.lookup y=some .local∨(relabel sc X.env).names.lookup y=some .cell∨(relabel sc X.env).names.lookup y=some .free:=e3;have isf:sc.names.lookup y=some .free:=by
   rcases e3' with z|z|z
   ·rcases a4q (names:=sc.names) z with q|⟨_,q⟩
    ·exact wC q (S.own y yN)
    ·cases q
   ·exact kinds z (.inl rfl)
   ·exact kinds z (.inr rfl)
  have e1':X.N[i-vs.length]? =some y:=by
   rw[a0F]at e1';cases e:X.N[i-vs.length]? with
   |none=>rw[e]at e1';cases e1'
   | some y0=>
    rw[e]at e1';have e2:d0j vs y0=y:=a1X e1';unfold d0j at e2
    split at e2
    ·rename_i hc
     rw[<-e2,S.hid y0 (by simpa using hc)]at isf;cases isf
    ·rw[e2]
  have ok:=fr y isf;obtain⟨m,_,hl⟩:=I.loc;obtain⟨u,r,lk⟩:=hl (i-vs.length) y v e1' e2' (.inr ok);refine⟨u,r,?_⟩
  rcases lk with⟨q,_⟩|⟨_,c,ec,hc⟩
  ·rcases ok with z|z<;>rw[z]at q<;>cases q
  ·obtain⟨c',e'⟩:=has y isf;have:c'=c:=a1X ((sound y c' e').symm.trans ec);subst this;refine .inr ⟨?_,c',e',kc hc⟩
   rcases e3' with z|z|z
   ·rcases a4q (names:=sc.names) z with q|⟨_,q⟩
    ·exact wC q (S.own y yN)
    ·cases q
   ·exact .inl z
   ·exact .inr z
 ·obtain⟨v,z⟩:=I.cell y c (sound y c e);exact⟨v,kc z⟩
 ·obtain⟨e,n,ne,nf,d⟩:=I.pin p hp;refine⟨k _ _ e,n,a1M (a1N (a0U e) hC),fun z=>?_,d⟩
  rcases a1L.mp (I.stkSub p.1 z)with q|q
  ·exact ne q
  ·exact nf q
 ·show(List.replicate vs.length none++σ).length=(vs++X.N.map (d0j vs)).length;rw[a0L,a0L,a6O,a0C,I.len]
theorem Inv.adopt{D:Ad}{ys:List V}{its:Vs}{n:Nat}(I:Inv X za σ H s)(hz:ys.length<=sizeLine)(hv:Vals ys its)(hD:H D=none)(e:s.heap.get? D=some {cls:= .type "list",data:= .seq its.toArray n})
  (h0:X.s₀.heap.objs.size<=D) (h1:D≠X.env.locals) (h2: ∀x c,X.env.cells.lookup x=some c->c≠D) (h3: ∀p∈X.pn++za,p.1≠D):Inv X za σ (upd H D (.lst ys)) s:=by
 have nd: ∀b u,H b=some u->b≠D:=fun b u q z=>by rw[z,hD]at q;cases q
 have q:=I.step (h':=s.heap) (H':=upd H D (.lst ys)) (g':=s.gens) (t':=s.toks) (d':=s.drawn) (ch:=[D]) (fun b hb=>by
   have z:b=D:=by simpa using hb
   subst z;exact⟨.inr h0,h1,h2,h3⟩)
  (fun b o _ _ _ e _=>e) (fun b o _ _ _ e _=>⟨o.slots,e⟩) (fun b o hb _ n=>by rw[a0f (fun z=>hb (by simp[z]))];exact n) (fun b o _ e=>⟨o,e⟩)
  (fun b xs q=>by rw[a0f (nd b _ q)];exact q) (fun b o u q=>by rw[a0f (nd b _ q)];exact q) (fun b ps q=>⟨#[],by rw[a0f (nd b _ q),q];simp⟩) (fun m hm=>hm) (fun b u q=>?_) I.bare
 ·exact q
 ·by_cases hb:b=D
  ·subst hb;rw[a0a]at q;cases q;exact⟨hz,its,n,hv,e⟩
  ·rw[a0f hb]at q;exact(I.hok b u q).stay (fun _ _ _ z=>z) (fun c z=>by rw[a0f (nd c _ z)];exact z) fun c xs z=>by rw[a0f (nd c _ z)];exact z
end
def PTs(X:Cx)(ifs:List Expr)(t:TT):Prop:=
 ∀(za:AO) (s:Sh) (σ:St) (H:Hp) (Q:Bool->Hp->Prop),Inv X za σ H s->t σ H Q->
  wpAny (model X.prog X.w) X.A (forIn ifs true fun c r=>if r=true then do let ok <-isTrue c X.env (eval c X.env);pure (ForInStep.yield ok)else pure (ForInStep.yield r)) (TP X za σ Q) X.xe s
def tYes:TT:=fun _ H Q=>Q true H
theorem a4r{σ:St}{H:Hp}{F G:Hp->Prop}(h:F H):tYes σ H (fun b H3=>if b=true then F H3 else G H3):=by
 show(if true=true then F H else G H);exact b1c h
theorem a2q{X:Cx}:PTs X [] tYes:=fun _ _ _ H _ I h=>a0G ⟨H,I,h⟩
theorem b1h{X:Cx}{c:Expr}{t:TT}(h:PT X c t):PTs X [c] t:=fun za s σ H Q I q=>wpAny_tests_one (h za s σ H Q I q)
theorem c6d{prog:Pg}{w:World}{A:Ar}{R:Result->Sh->Prop}{s:Sh}{elt tg iter:Expr}{ifs:List Expr}{sc:Scope}{pos:Pos}{it acc:Vl}{env:Env}(Iv:Nat->Sh->Prop)
  (turn: ∀n s,Iv n s->wpAny (model prog w) A (pyNext it) (fun r s1=>match r with
   |none=>R (.ok .next) s1
   | some v=>wpAny (model prog w) A (letOwnedTupleGo tg it v) (fun _ s1=>wpAny (model prog w) A (assign tg env v) (fun _ s2=>
     wpAny (model prog w) A (forIn ifs true fun c r=>if r=true then do let ok <-isTrue c env (eval c env);pure (ForInStep.yield ok)else pure (ForInStep.yield r)) (fun ok s3=>
      if ok=true then wpAny (model prog w) A (eval elt env) (fun y s4=>wpAny (model prog w) A (call (.builtin "list.append") [acc,y]) (fun _ s5=> ∃m,m<n/\Iv m s5) (fun _ _=>False) s4) (fun _ _=>False) s3
      else ∃m,m<n/\Iv m s3) (fun _ _=>False) s2) (fun _ _=>False) s1) (fun _ _=>False) s1) (fun _ _=>False) s)
  (n:Nat) (h:Iv n s):codeAny (model prog w) A (.compLoop (.ListComp elt [⟨tg,iter,ifs,0⟩] sc pos) 0 it acc env) R s:=by
 refine codeAny_loop rfl Iv (fun n s hI=>?_) n h;show wpAny _ A ((compTurn (.ListComp elt [⟨tg,iter,ifs,0⟩] sc pos) 0 it acc env).onRaise (fun x=>do noteFrame x env;theTreesLotGoes x)) _ _ s;refine wpAny_noted (a3Q (E:=fun _ _=>False) ?_ (fun _ _ q=>q) fun _ _ z=>z.elim);rw[compTurn_list];refine a0D (a9X (a0D (thn (turn n s hI) fun r s1 h1=>?_)));cases r with
 |none=>exact a0G h1
 |some v=>
  refine a0D (thn h1 fun _ s2 h2=>a0D (thn h2 fun _ s3 h3=>a0D (thn h3 fun ok s4 h4=>?_)));cases ok with
  |false=>exact a0G ⟨rfl,h4⟩
  |true=>exact a0D (a0D (thn h4 fun y s5 h5=>a0D (thn h5 fun _ s6 h6=>a0G (a0G ⟨rfl,h6⟩))))
def b8y(σ σ':St):Prop:= ∀(i:Nat) v,σ[i]? =some (some v)->σ'[i]? =some (some v)
theorem a1l{σ:St}{x:Option V}:b8y (none::σ) (x::σ):=fun i v e=>by
 cases i with
 |zero=>cases e
 |succ i=>exact e
theorem d1a{σ:St}{x y:Option V}:b8y (none::none::σ) (x::y::σ):=fun i v e=>by
 match i,e with
 |0,e=>cases e
 |1,e=>cases e
 |_+2,e=>exact e
section
variable{X:Cx}{za:AO}{σ:St}{H:Hp}{s:Sh}{vs:Ss}{sc:Scope}{tg elt iter:Expr}{ifs:List Expr}{pos:Pos}{g:TG}{tt:TT}{te:TE}
def b8z(vs:Ss)(g:TG)(tt:TT)(te:TE)(σ:St)(J:It)(H:Hp)(Fin:List V->Hp->Prop):Prop:=
 ∃W:Nat->Nat->List V->Hp->Prop,(∃m,W 0 m [] H)/\ ∀i m ys H,W i m ys H->
  (J.stop i H/\ys.length<=sizeLine/\Fin ys H)∨(J.go i H/\ys.length<sizeLine/\ ∃N:List V->Hp->Prop,(∀zs H',N zs H'-> ∃m',m'<m/\W (i+1) m' zs H')/\
   ∀v H',J.yld i H v H'->g v (a4c vs σ) H' fun σ2 H2=>b8y (a4c vs σ) σ2/\tt σ2 H2 fun b H3=>if b=true then te σ2 H3 fun y H4=>N (ys++[y]) H4 else N ys H3)
theorem b3m{J:It}{fp:As}{it:Ad}{tn:Nat->Heap->Prop}{E:VP}{RR:Vl->Ad->Result->Sh->Prop}{Fin:List V->Hp->Prop}
  (S:CompScope X vs sc) (hc:X.calm=true) (hg: ∀C s H fp,PG (cxC X vs sc C s H fp) tg g) (ht: ∀C s H fp,PTs (cxC X vs sc C s H fp) ifs tt) (he: ∀C s H fp,PE (cxC X vs sc C s H fp) elt te)
  (I:Inv X za σ H s) (T:Turn X.prog X.w X.K tg J fp it tn) (st:tn 0 s.heap) (hf: ∀b∈fp,FpOk X za H b) (hW:b8z vs g tt te σ J H Fin)
  (hRR: ∀D C s' H' ys m',Inv X za σ (upd H' D (.lst ys)) s'->H' D=none->FpOk X za (upd H' D (.lst ys)) C->s'.heap.Ns C m'->Fin ys H'->RR (.ref D) C (.ok .next) s'):
  wpAny (model X.prog X.w) X.A (newList []) (fun acc s3=>wpAny (model X.prog X.w) X.A (newFunctionEnv sc X.env.globals (d3s X.env sc) [] X.env.qual none .none (some X.env)) (fun cenv s4=>
   codeAny (model X.prog X.w) X.A (.compStart (.ListComp elt [⟨tg,iter,ifs,0⟩] sc pos) 0 (.ref it) acc {cenv with scope:=relabel sc X.env}) (RR acc cenv.locals) s4) E s3) E s:=by
 obtain⟨W,⟨m0,w0⟩,turn⟩:=hW;refine a2S (wpAny_newFunctionEnv S.cell (by intro y hy;simp at hy) (fun h1 hns hsb=>?_) S.kind);dsimp only at hns hsb⊢;generalize hH2:s.heap.push {cls:= .type "list",dict:=none,data:= .seq ([]:Vs).toArray}=H2 at hns hsb⊢;have hC:H2.objs.size=s.heap.objs.size+1:=by rw[<-hH2,a8G]
 generalize hCe:H2.objs.size=C at hns hsb hC⊢;generalize hDe:s.heap.objs.size=D at hC⊢;have hDC:D≠C:=by lia
 have below: ∀b o,s.heap.get? b=some o->b≠D/\b≠C:=fun b o e=>by
  have z:b<s.heap.objs.size:=a0U e;rw[hDe]at z;exact⟨a1M z,a1M (by rw[hC];exact a5M z)⟩
 have old: ∀b o,s.heap.get? b=some o->h1.get? b=some o:=fun b o e=>hsb.extBut b o (below b o e).2 (a0H _ (hH2▸a0H _ e));have hD1:h1.get? D=some {cls:= .type "list",data:= .seq ([]:Vs).toArray}:=
  hsb.extBut _ _ hDC (a0H _ (by rw[<-hH2,<-hDe];exact a0X _ rfl))
 have hobj: ∀b∈fp,∃o,s.heap.get? b=some o:=fun b hb=>let⟨o,e,_⟩:=T.obj 0 _ st b hb;⟨o,e⟩
 have fne: ∀b∈fp,b≠D/\b≠C:=fun b hb=>let⟨o,e⟩:=hobj b hb;below b o e
 have fD: ∀H',H' D=none->FpOk X za H' D:=fun H' n=>I.fpOk (by lia) n;have fC: ∀H',H' C=none->FpOk X za H' C:=fun H' n=>I.fpOk (by lia) n;have Dpn: ∀p∈X.pn++za,p.1≠D:=fun p hp=>(below _ _ (I.pin p hp).1).1;have cells: ∀y c,(d3s X.env sc).lookup y=some c->c≠D:=fun y c e=>by
  have e':=b0d sc.names [] (fun y c e=>by simp at e) y c e;obtain⟨v,z⟩:=I.cell y c e';have z':c<s.heap.objs.size:=z.lt;rw[hDe]at z';exact a1M z'
 have nfs: ∀b,b∈frs X.stack-> ∃o,s.heap.get? b=some o:=fun b hb=>let⟨_,o,ho,_⟩:=I.stack.mem hb;⟨o,ho⟩
 have Dfs:D∉frs X.stack:=fun z=>let⟨o,e⟩:=nfs D z;(below _ _ e).1 rfl
 have fpC: ∀{pl:AO} {H':Hp},(∀p∈pl,p.1=D)->(∀b∈fp,H' b=none)-> ∀b∈fp,FpOk (cxC X vs sc C s H fp) (za++pl) H' b:=fun {pl H'} hpl hn b hb=>by
  obtain⟨_,q1,q2,q3,q4,q5⟩:=hf b hb;refine⟨hn b hb,(fne b hb).2,fun z=>?_,.inl hb,fun y c e=>q4 y c (b0d sc.names [] (fun y c e=>by simp at e) y c e),fun p hp=>?_⟩
  ·rcases a1L.mp (I.stkSub b z)with y|y
   ·exact q1 y
   ·exact q2 y
  ·rcases a0Q.mp hp with z|z
   ·exact q5 p (a3G _ z)
   ·rcases a0Q.mp z with y|y
    ·exact q5 p (a1E _ y)
    ·rw[hpl p y];exact a3T (fne b hb).1
 have loop: ∀s3:Sh,s3={s with heap:=h1,toks:=s.toks+([]:List (Str×Vl)).length}->
   codeAny (model X.prog X.w) X.A (.compLoop (.ListComp elt [⟨tg,iter,ifs,0⟩] sc pos) 0 (.ref it) (.ref D) (compEnvC sc (d3s X.env sc) C X.env)) (RR (.ref D) C) s3:=by
  rintro s3 rfl;have I0:Inv (cxC X vs sc C s H fp) za (a4c vs σ) H {s with heap:=h1,toks:=s.toks+([]:List (Str×Vl)).length}:=d0z S I hf hobj old hns (by lia);refine c6d (fun n s'=> ∃i ys its no H',Inv (cxC X vs sc C s H fp) za (a4c vs σ) H' s'/\tn i s'.heap/\(∀b∈fp,H' b=none)/\H' D=none/\
   s'.heap.get? D=some {cls:= .type "list",data:= .seq its.toArray no}/\Vals ys its/\W i n ys H') ?_ m0
   ⟨0,[],[],0,H,I0,T.keep 0 _ _ st fun b hb o e=>old b o e,fun b hb=>(hf b hb).1,I.hok.fresh (by lia),hD1,.nil,w0⟩
  rintro n s' ⟨i,ys,its,no,H',I1,st1,fr1,dn1,dl1,va1,w1⟩;have pinD:Inv (cxC X vs sc C s H fp) (za++[(D,{cls:= .type "list",data:= .seq its.toArray no})]) (a4c vs σ) H' s':=I1.pins_of fun p hp=>by
   rcases a0Q.mp hp with z|z
   ·exact I1.pin p (a1E _ z)
   ·have e:p=(D,{cls:= .type "list",data:= .seq its.toArray no}):=by simpa using z
    subst e;exact⟨dl1,dn1,hDC,Dfs,fun v z=>by have z':Data.seq _ _=Data.cell v:=z;cases z'⟩
  have onlyD: ∀p∈[((D,{cls:= .type "list",data:= .seq its.toArray no}):Ad×Obj)],p.1=D:=fun p hp=>by
   have e:p=(D,{cls:= .type "list",data:= .seq its.toArray no}):=by simpa using hp
   rw[e]
  rcases turn i n ys H' w1 with⟨stop,hz,fin⟩|⟨go,hz,N,hN,step⟩
  ·refine thn (T.done (cxC X vs sc C s H fp) rfl rfl rfl hc i _ s' _ H' (fun _ _=>False) pinD (fpC onlyD fr1) st1 stop) fun r s4 ⟨hr,I4⟩=>?_;subst hr;have d4:s4.heap.get? D=some {cls:= .type "list",data:= .seq its.toArray no}:=(I4.pin (D,_) (a1E _ (a1E _ (a0T ..)))).1;have Io:Inv X za σ H' s4:=I.call' (H':=H') (ch:=fp) I4.os I4.base I4.hok I4.bare fun b hb=>by
    obtain⟨_,q1,_,q3,q4,q5⟩:=hf b hb;exact⟨q3,q1,q4,q5⟩
   obtain⟨_,a1,_,a3,a4,a5⟩:=fD H' dn1;have Ia:=Io.adopt hz va1 dn1 d4 (a1C I.sz (by lia)) a1 a4 a5;obtain⟨m4,ns4,_⟩:=I4.loc;refine hRR D C s4 H' ys m4 Ia dn1 (fC _ ?_) ns4 fin;rw[a0f (a3T hDC)];exact I4.free
  ·refine thn (T.item (cxC X vs sc C s H fp) rfl rfl rfl hc i _ s' _ H' (fun _ _=>False) pinD (fpC onlyD fr1) st1 go) fun r s4 ⟨u,hr,h4⟩=>?_;subst hr;refine thn h4 fun _ s5 ⟨x,H5,I5,r5,y5,st5,fr5⟩=>?_;have I5':=I5.pinned (fpC onlyD fr5) (T.obj _ _ st5);refine thn (hg C s H fp _ s5 _ H5 x u _ I5' r5 (step x H5 y5)) fun _ s6 ⟨σ6,H6,I6,k6,q6⟩=>?_;refine thn (ht C s H fp _ s6 σ6 H6 _ I6 q6) fun ok s7 ⟨H7,I7,q7⟩=>?_;have len6:(a4c vs σ).length=σ6.length:=by rw[I1.len,I6.len]
   have pinned: ∀{H8:Hp} {s8:Sh},Inv (cxC X vs sc C s H fp) (za++[(D,{cls:= .type "list",data:= .seq its.toArray no})]++b6k fp s5.heap) σ6 H8 s8->
     tn (i+1) s8.heap/\(∀b∈fp,H8 b=none)/\H8 D=none/\s8.heap.get? D=some {cls:= .type "list",data:= .seq its.toArray no}:=fun {H8 s8} I8=>by
    refine⟨T.keep _ _ _ st5 fun b hb o e=>(I8.pin (b,o) (a1E _ (a1E _ (a6t hb e)))).1,fun b hb=>?_,?_,?_⟩
    ·obtain⟨o,e,d⟩:=T.obj _ _ st5 b hb;exact(I8.pin (b,o) (a1E _ (a1E _ (a6t hb e)))).2.1
    ·exact(I8.pin (D,_) (a1E _ (a3G _ (a1E _ (a0T ..))))).2.1
    ·exact(I8.pin (D,_) (a1E _ (a3G _ (a1E _ (a0T ..))))).1
   cases ok with
   |false=>
    rw[wA (by decide)]at q7⊢;obtain⟨m',hm,w7⟩:=hN _ _ q7;obtain⟨a1,a2,a3,a4⟩:=pinned I7;exact⟨m',hm,i+1,ys,its,no,H7,(I7.unpinned.unpinned).weak len6 k6,a1,a2,a3,a4,va1,w7⟩
   | true=>
    rw[wB rfl]at q7⊢;refine thn (he C s H fp _ s7 σ6 H7 _ I7 q7) fun yv s8 ⟨y,H8,I8,r8,n8⟩=>?_;obtain⟨m',hm,w8⟩:=hN _ _ n8;obtain⟨a1,a2,a3,a4⟩:=pinned I8;have szI:its.toArray.size<=sizeLine:=by
     have:=va1.length;rw[a0V];lia
    refine wpAny_list_append_plain ⟨no,a4⟩ (fun h' pl sb=>?_) szI;obtain⟨no',pl'⟩:=pl;have I9:Inv (cxC X vs sc C s H fp) za σ6 H8 {s8 with heap:=h'}:=(I8.unpinned.unpinned).turned (t':=s8.toks) (it:=D) (fun b o hb e=>(sb.2 b hb).trans e) a3 hDC (.inr (a7H hDe)) cells Dpn;refine⟨m',hm,i+1,ys++[y],its++[yv],no',H8,I9.weak len6 k6,T.keep _ _ _ a1 fun b hb o e=>(sb.2 b (fne b hb).1).trans e,a2,a3,?_,va1.append (.cons r8 .nil),w8⟩;rw[pl']
    simp
 exact codeAny_compStart_list (loop _ rfl) (T.self _ 0 _ _ _ (T.keep 0 _ _ st fun b hb o e=>old b o e) (loop _ rfl))
def d1b(vs:Ss)(wi:TI)(g:TG)(tt:TT)(te:TE):TE:=fun σ H Q=>wi σ H fun J H1=>b8z vs g tt te σ J H1 fun ys H'=> ∀p,H' p=none->Q (.ref p) (upd H' p (.lst ys))
theorem CompScope.clos{za:AO}{σ:St}{H:Hp}{s:Sh}(S:CompScope X vs sc)(I:Inv X za σ H s):closureFor sc X.env=pure (d3s X.env sc):=
 c3i fun y hy hk=>I.ok.has y.1 (S.free y hy hk)
theorem c6e{wi:TI}(S:CompScope X vs sc)(hc:X.calm=true)(hi:PI X tg iter wi)(hg: ∀C s H fp,PG (cxC X vs sc C s H fp) tg g)(ht: ∀C s H fp,PTs (cxC X vs sc C s H fp) ifs tt)
  (he: ∀C s H fp,PE (cxC X vs sc C s H fp) elt te) (hs: ∀x,foldedSetIterable iter X.env x=pure x:=by intro _;rfl):PE X (.ListComp elt [⟨tg,iter,ifs,0⟩] sc pos) (d1b vs wi g tt te):=by
 intro za s σ H Q I h;rw[eval_ListComp];refine wpAny_comprehension_free (use:=none) rfl hs (S.clos I) S.kind S.locs ?_;refine thn (hi za s σ H _ I h) fun v s1 h1=>thn h1 fun itv s2 h2=>?_;obtain⟨it,fp,tn,J,H2,e,I2,T,st2,f2,hW⟩:=h2;subst e;refine b3m (RR:=fun acc C=>compPost (model X.prog X.w) X.A X.xe none (EP X za σ Q) acc C) S hc hg ht he I2 T st2 f2 hW fun D C s' H' ys m' I' hD fC ns fin=>?_;obtain⟨c0,c1,c2,c3,c4,c5⟩:=fC;refine⟨m',ns,fun h' sb=>⟨.ref D,_,?_,rfl,fin D hD⟩⟩;exact I'.turned (t':=s'.toks) (it:=C) (fun b o hb e=>(sb.2 b hb).trans e) c0 c1 c3 c4 c5
theorem d3u{x:Str}{p:Pos}(S:CompScope X [x] sc)(hx:sc.names.lookup x=some .local): ∀C s H fp,PG (cxC X [x] sc C s H fp) (.Name x p) (a5z 0):=fun C s H fp=>
 a1c S.nd rfl (.inl (a4P hx)) (.inr (a4P hx))
theorem a1m{wi:TI}{x:Str}{p:Pos}(S:CompScope X [x] sc)(hc:X.calm=true)(hx:sc.names.lookup x=some .local)(hi:PI X (.Name x p) iter wi)(ht: ∀C s H fp,PTs (cxC X [x] sc C s H fp) ifs tt)
  (he: ∀C s H fp,PE (cxC X [x] sc C s H fp) elt te) (hs: ∀x,foldedSetIterable iter X.env x=pure x:=by intro _;rfl):PE X (.ListComp elt [⟨.Name x p,iter,ifs,0⟩] sc pos) (d1b [x] wi (a5z 0) tt te):=
 c6e S hc hi (d3u S hx) ht he hs
theorem d5l{wi:TI}{j:Nat}{y:Str}{py spos:Pos}(S:CompScope X vs sc)(hc:X.calm=true)(hN:X.N.Nodup)(hj:X.N[j]? =some y)(hy:X.env.scope.names.lookup y=some .local)(hi:PI X tg iter wi)(hg: ∀C s H fp,PG (cxC X vs sc C s H fp) tg g)(ht: ∀C s H fp,PTs (cxC X vs sc C s H fp) ifs tt)
  (he: ∀C s H fp,PE (cxC X vs sc C s H fp) elt te) (hsw:swapsWith (.ListComp elt [⟨tg,iter,ifs,0⟩] sc pos) (some (.Name y py)) spos.line X.env=pure true:=by rfl) (hs: ∀x,foldedSetIterable iter X.env x=pure x:=by intro _;rfl):
  PS X (.Assign [.Name y py] (.ListComp elt [⟨tg,iter,ifs,0⟩] sc pos) spos) (d0n (d1b vs wi g tt te) (a5z j)):=by
 intro za s σ H D I h;rw[exec_Assign_Name_used _ _ _ _ hsw];refine a0D (a9X (a0D ?_));show wpAny _ X.A (do let _ <-comprehension (.ListComp elt [⟨tg,iter,ifs,0⟩] sc pos) sc X.env _ (newList []) false (eval iter X.env) (some (assign (.Name y py) X.env))) _ _ s;refine a0D (a3Q (wpAny_comprehension_free (use:=some (assign (.Name y py) X.env)) (Q:=fun _ s'=>SP X za D .next s') rfl hs (S.clos I) S.kind S.locs ?_) (fun _ s' hq=>a0G (a0G hq)) fun _ _ e=>e);refine thn (hi za s σ H _ I h) fun v s1 h1=>thn h1 fun itv s2 h2=>?_;obtain⟨it,fp,tn,J,H2,e,I2,T,st2,f2,hW⟩:=h2;subst e;refine b3m (RR:=fun acc C=>compPost (model X.prog X.w) X.A X.xe (some (assign (.Name y py) X.env)) (fun _ s'=>SP X za D .next s') acc C) S hc hg ht he I2 T st2 f2 hW fun D' C s' H' ys m' I' hD fC ns fin=>?_;obtain⟨c0,c1,c2,c3,c4,c5⟩:=fC;show wpAny _ X.A (assign (.Name y py) X.env (.ref D')) _ _ _;refine wpAny_assign_Name (b6j (v:= .ref D') I' hN hj (.inl hy) (show RelV (.ref D') (.ref D')from rfl) (fun s3 I3 ⟨a,sb,ha⟩=>?_) (.inr hy));have hac:a≠C:=by
  rcases ha with z|z
  ·rw[z];exact a3T c1
  ·exact c4 y a z
 refine⟨m',ns.sameBut sb (a3T hac),fun h' sb'=>⟨_,_,I3.turned (t':=s3.toks) (it:=C) (fun b o hb e=>(sb'.2 b hb).trans e) c0 c1 c3 c4 c5,fin D' hD⟩⟩
theorem c0x{wi:TI}{j:Nat}{x y:Str}{p py spos:Pos}(S:CompScope X [x] sc)(hc:X.calm=true)(hx:sc.names.lookup x=some .local)(hN:X.N.Nodup)(hj:X.N[j]? =some y)(hy:X.env.scope.names.lookup y=some .local)(hi:PI X (.Name x p) iter wi)
  (ht: ∀C s H fp,PTs (cxC X [x] sc C s H fp) ifs tt) (he: ∀C s H fp,PE (cxC X [x] sc C s H fp) elt te)
  (hsw:swapsWith (.ListComp elt [⟨.Name x p,iter,ifs,0⟩] sc pos) (some (.Name y py)) spos.line X.env=pure true:=by rfl) (hs: ∀x,foldedSetIterable iter X.env x=pure x:=by intro _;rfl):
  PS X (.Assign [.Name y py] (.ListComp elt [⟨.Name x p,iter,ifs,0⟩] sc pos) spos) (d0n (d1b [x] wi (a5z 0) tt te) (a5z j)):=d5l S hc hN hj hy hi (d3u S hx) ht he hsw hs
end
section
variable{K:W.Frag}{a:Ad}{xs:List V}{vs:Ss}{g:TG}{tt:TT}{te:TE}{σ:St}{H:Hp}{Fin:List V->Hp->Prop}
theorem d1c(Pv:Nat->List V->Hp->Prop)(hz:xs.length<=sizeLine)(h0:Pv 0 [] H)(hl: ∀i ys H,i<=xs.length->Pv i ys H->SqT K H a xs/\ys.length<=i)
  (hs: ∀i v ys H,xs[i]? =some v->Pv i ys H->g v (a4c vs σ) H fun σ2 H2=>b8y (a4c vs σ) σ2/\tt σ2 H2 fun b H3=>if b=true then te σ2 H3 fun y H4=>Pv (i+1) (ys++[y]) H4 else Pv (i+1) ys H3)
  (hd: ∀ys H,Pv xs.length ys H->Fin ys H):b8z vs g tt te σ (Itt K a) H Fin:=by
 refine⟨fun i m ys H=>m=xs.length-i/\i<=xs.length/\Pv i ys H,⟨xs.length,by simp,Nat.zero_le _,h0⟩,?_⟩;rintro i m ys H ⟨rfl,hi,p⟩;obtain⟨q,hy⟩:=hl i ys H hi p;by_cases hlt:i<xs.length
 ·refine .inr ⟨⟨xs,xs[i],q,by simp[hlt]⟩,by lia,Pv (i+1),fun zs H' p'=>⟨xs.length-(i+1),Nat.sub_succ_lt_self _ _ hlt,rfl,hlt,p'⟩,fun v H' y=>?_⟩;obtain⟨e,y⟩:=y;subst e;exact hs i v ys _ (y xs q) p
 ·have e:i=xs.length:=by lia
  subst e;exact .inl ⟨⟨xs,q,a0K _⟩,by lia,hd ys H p⟩
theorem a2j(Pv:Nat->List V->Hp->Prop)(hz:xs.length<=sizeLine)(h0:Pv 0 [] H)(hl: ∀i ys H,i<=xs.length->Pv i ys H->SqL K H a xs/\ys.length<=i)
  (hs: ∀i v ys H,xs[i]? =some v->Pv i ys H->g v (a4c vs σ) H fun σ2 H2=>b8y (a4c vs σ) σ2/\tt σ2 H2 fun b H3=>if b=true then te σ2 H3 fun y H4=>Pv (i+1) (ys++[y]) H4 else Pv (i+1) ys H3)
  (hd: ∀ys H,Pv xs.length ys H->Fin ys H):b8z vs g tt te σ (Itl K a) H Fin:=by
 refine⟨fun i m ys H=>m=xs.length-i/\i<=xs.length/\Pv i ys H,⟨xs.length,by simp,Nat.zero_le _,h0⟩,?_⟩;rintro i m ys H ⟨rfl,hi,p⟩;obtain⟨q,hy⟩:=hl i ys H hi p;by_cases hlt:i<xs.length
 ·refine .inr ⟨⟨xs,xs[i],q,by simp[hlt]⟩,by lia,Pv (i+1),fun zs H' p'=>⟨xs.length-(i+1),Nat.sub_succ_lt_self _ _ hlt,rfl,hlt,p'⟩,fun v H' y=>?_⟩;obtain⟨e,y⟩:=y;subst e;exact hs i v ys _ (y xs q) p
 ·have e:i=xs.length:=by lia
  subst e;exact .inl ⟨⟨xs,q,a0K _⟩,by lia,hd ys H p⟩
theorem a4a{lo:Int}{n:Nat}(Pv:Nat->List V->Hp->Prop)(hz:n<=sizeLine)(h0:Pv 0 [] H)(hl: ∀i ys H,i<=n->Pv i ys H->ys.length<=i)
  (hs: ∀i ys H,i<n->Pv i ys H->g (.int (lo+i)) (a4c vs σ) H fun σ2 H2=>b8y (a4c vs σ) σ2/\tt σ2 H2 fun b H3=>if b=true then te σ2 H3 fun y H4=>Pv (i+1) (ys++[y]) H4 else Pv (i+1) ys H3)
  (hd: ∀ys H,Pv n ys H->Fin ys H):b8z vs g tt te σ (Itr lo n) H Fin:=by
 refine⟨fun i m ys H=>m=n-i/\i<=n/\Pv i ys H,⟨n,by simp,Nat.zero_le _,h0⟩,?_⟩;rintro i m ys H ⟨rfl,hi,p⟩;have hy:=hl i ys H hi p;by_cases hlt:i<n
 ·refine .inr ⟨hlt,by lia,Pv (i+1),fun zs H' p'=>⟨n-(i+1),Nat.sub_succ_lt_self _ _ hlt,rfl,hlt,p'⟩,fun v H' y=>?_⟩;obtain⟨e,y⟩:=y;subst e y;exact hs i ys _ hlt p
 ·have e:i=n:=by lia
  subst e;exact .inl ⟨a0K _,by lia,hd ys H p⟩
theorem b9a{x:Str}{xs:List V}{f:V->V}(hz:xs.length<=sizeLine)(hq:SqT K H a xs)(hs: ∀v (Q:VK),v∈xs->Q (f v) H->te (some v::σ) H Q)(hd:Fin (xs.map f) H):
  b8z [x] (a5z 0) tYes te σ (Itt K a) H Fin:=by
 refine d1c (fun i ys H'=>H'=H/\ys=(xs.take i).map f) hz ⟨rfl,rfl⟩ (fun i ys H' hi ⟨e,ey⟩=>?_) (fun i v ys H' hv ⟨e,ey⟩=>⟨a1l,?_⟩) (fun ys H' ⟨e,ey⟩=>?_)
 ·subst e ey;exact⟨hq,by simp;lia⟩
 ·subst e ey;refine a4r (hs v _ (a0E hv) ⟨rfl,?_⟩);rw[a2L,hv,a1B];rfl
 ·subst e ey;rw[a2B];exact hd
end
inductive Dt where
 |non|int (i:Int)|str (x:Str)|lst (ds:List Dt)|tup (ds:List Dt)
inductive Rep (K:W.Frag) (H:Hp):Nat->Dt->V->Prop where
 |non (n:Nat):Rep K H n .non .non
 |int (n:Nat) (i:Int):Rep K H n (.int i) (.int i)
 |str (n:Nat) (x:Str):Rep K H n (.str x) (.str x)
 |lst {n:Nat} {ds:List Dt} {a:Ad} {xs:List V} (h:SqL K H a xs) (hl:xs.length=ds.length) (hi: ∀(i:Nat) d v,ds[i]? =some d->xs[i]? =some v->Rep K H n d v):Rep K H (n+1) (.lst ds) (.ref a)
 |tup {n:Nat} {ds:List Dt} {a:Ad} {xs:List V} (h:SqT K H a xs) (hl:xs.length=ds.length) (hi: ∀(i:Nat) d v,ds[i]? =some d->xs[i]? =some v->Rep K H n d v):Rep K H (n+1) (.tup ds) (.ref a)
theorem a6b{α:Type}{xs ys:List α}(hl:xs.length=ys.length)(h: ∀(i:Nat) a b,xs[i]? =some a->ys[i]? =some b->a=b):xs=ys:=by
 refine a9Z hl fun i h1 h2=>?_;exact h i _ _ (by simp[h1]) (by simp[h2])
section
variable{X:Cx}{za:AO}{σ:St}{H:Hp}{s:Sh}
theorem d3v{a:Ad}{xs ys:List V}(I:Inv X za σ H s)(h:SqL X.K H a xs)(h':SqT X.K H a ys):False:=by
 obtain⟨_,_,p,_⟩:=I.list h;obtain⟨_,_,q,_⟩:=I.tuple h';exact SeqAt.ne_of_list_tuple p.isList (show s.heap.IsTuple a _ from q) rfl
theorem b9b(I:Inv X za σ H s): ∀(n:Nat) {d d':Dt} {v:V},Rep X.K H n d v->Rep X.K H n d' v->d=d':=by
 intro n
 induction n with
 |zero=>
  intro d d' v r r';cases r<;>cases r'<;>rfl
 | succ n ih=>
  intro d d' v r r';cases r with
  |non=>cases r';rfl
  |int=>cases r';rfl
  |str=>cases r';rfl
  | @lst _ ds a xs h hl hi=>
   cases r' with
   | @lst _ ds' _ xs' h' hl' hi'=>
    have e:=I.list_inj h h';subst e;refine a1W Dt.lst (a6b (hl.symm.trans hl') fun i d d' e1 e2=>?_);have hlt:i<xs.length:=by rw[hl];exact(a0B.mp e1).1
    exact ih (hi i d xs[i] e1 (a0A hlt)) (hi' i d' xs[i] e2 (a0A hlt))
   |tup h' _ _=>exact(d3v I h h').elim
  | @tup _ ds a xs h hl hi=>
   cases r' with
   |lst h' _ _=>exact(d3v I h' h).elim
   | @tup _ ds' _ xs' h' hl' hi'=>
    have e:=I.tuple_inj h h';subst e;refine a1W Dt.tup (a6b (hl.symm.trans hl') fun i d d' e1 e2=>?_);have hlt:i<xs.length:=by rw[hl];exact(a0B.mp e1).1
    exact ih (hi i d xs[i] e1 (a0A hlt)) (hi' i d' xs[i] e2 (a0A hlt))
theorem b6v{ds ds':List Dt}(hl:ds.length=ds'.length){e:Nat->Bool}{N:Nat}(hN:N=ds.length)(he: ∀(j:Nat) d d',ds[j]? =some d->ds'[j]? =some d'->(e j=true↔d=d')):((List.range N).all e=true↔ds=ds'):=by
 subst hN;rw[a6C];constructor
 ·intro h;refine a6b hl fun i a b e1 e2=>?_;exact(he i a b e1 e2).mp (h i (a1Q.mpr (a0B.mp e1).1))
 ·intro h i hi;have hi':=a1Q.mp hi;subst h;exact(he i ds[i] ds[i] (by simp[hi']) (by simp[hi'])).mpr rfl
theorem c3j{P:Nat->Bool->Prop}(h: ∀j,∃b,P j b): ∃e:Nat->Bool,∀j,P j (e j):=⟨fun j=>Classical.choose (h j),fun j=>a3W (h j)⟩
theorem b3n{A:Ar}{its its':Vs}{ds ds':List Dt}(h1:its.length=ds.length)(h2:its'.length=ds'.length)
  (h: ∀(j:Nat) u u' d d',its[j]? =some u->its'[j]? =some u'->ds[j]? =some d->ds'[j]? =some d'-> ∃b,SeqAt.EqAt A s u u' b/\(b=true↔d=d')):
  ∃e:Nat->Bool,(∀j (g1:j<its.toArray.size) (g2:j<its'.toArray.size),SeqAt.EqAt A s its.toArray[j] its'.toArray[j] (e j))/\ ∀(j:Nat) d d',ds[j]? =some d->ds'[j]? =some d'->(e j=true↔d=d'):=by
 obtain⟨e,he⟩:=c3j (P:=fun j b=>(∀u u',its[j]? =some u->its'[j]? =some u'->SeqAt.EqAt A s u u' b)/\ ∀d d',ds[j]? =some d->ds'[j]? =some d'->(b=true↔d=d')) fun j=>by
  by_cases g:j<its.length/\j<its'.length
  ·obtain⟨b,h3,h4⟩:=h j its[j] its'[j] (ds[j]'(by lia)) (ds'[j]'(by lia)) (by simp[g.1]) (by simp[g.2]) (List.getElem?_eq_getElem _) (List.getElem?_eq_getElem _);refine⟨b,fun u u' q q'=>?_,fun d d' q q'=>?_⟩
   ·rw[a0A g.1]at q;rw[a0A g.2]at q';cases q;cases q';exact h3
   ·rw[a0A (by lia)]at q;rw[a0A (by lia)]at q';cases q;cases q';exact h4
  ·refine⟨true,fun u u' q q'=>wC ⟨(a0B.mp q).1,(a0B.mp q').1⟩ g,fun d d' q q'=>?_⟩;have q1:=(a0B.mp q).1;have q2:=(a0B.mp q').1;exact wC ⟨by lia,by lia⟩ g
 refine⟨e,fun j g1 g2=>?_,fun j=>(he j).2⟩;simp only[List.size_toArray]at g1 g2;exact(he j).1 _ _ (by simp[g1]) (by simp[g2])
theorem c6f(I:Inv X za σ H s){n:Nat}{A:Ar}(hu:A.units<cLine){d d':Dt}{a a':Ad}(r:Rep X.K H (n+1) d (.ref a))(r':Rep X.K H (n+1) d' (.ref a'))
  (ih: ∀{d d':Dt} {v v':V} {u u':Vl},Rep X.K H n d v->Rep X.K H n d' v'->RelV v u->RelV v' u'-> ∃b,SeqAt.EqAt A.in1 s u u' b/\(b=true↔d=d')):
  ∃b,SeqAt.RcAt A s (.ref a) (.ref a') b/\SeqAt.RcNeAt A s (.ref a) (.ref a') (!b)/\(b=true↔d=d'):=by
 cases r with
 | @lst _ ds _ xs h hl hi=>
  obtain⟨its,rv,p,_⟩:=I.list h;have l1:=rv.length;cases r' with
  | @lst _ ds' _ xs' h' hl' hi'=>
   obtain⟨its',rv',p',_⟩:=I.list h';have l2:=rv'.length;by_cases hs:ds.length=ds'.length
   ·obtain⟨e,e1,e2⟩:=b3n (A:=A.in1) (s:=s) (its:=its) (its':=its') (ds:=ds) (ds':=ds') (by lia) (by lia) fun j u u' d d' q1 q2 q3 q4=>by
     have g1:=(a0B.mp q3).1;have g2:=(a0B.mp q4).1;have k1:xs[j]? =some (xs[j]'(by lia)):=a0A _;have k2:xs'[j]? =some (xs'[j]'(by lia)):=a0A _;obtain⟨w1,z1,y1⟩:=rv.get k1;obtain⟨w2,z2,y2⟩:=rv'.get k2;rw[q1]at z1;rw[q2]at z2;cases z1;cases z2;exact ih (hi j d _ q3 k1) (hi' j d' _ q4 k2) y1 y2
    have hz:its.toArray.size=its'.toArray.size:=by simp only[List.size_toArray];lia
    refine⟨_,SeqAt.RcAt.lists p.isList p'.isList hz hu e1,SeqAt.RcNeAt.lists p.isList p'.isList hz hu e1,?_⟩;rw[b6v hs (by simp only[List.size_toArray];lia) e2];exact⟨fun z=>by rw[z],fun z=>by cases z;rfl⟩
   ·have hz:(its.toArray.size != its'.toArray.size)=true:=by
     rw[bne_iff_ne];simp only[List.size_toArray];lia
    refine⟨false,SeqAt.RcAt.lists_lengths p.isList p'.isList hz hu,SeqAt.RcNeAt.lists_lengths p.isList p'.isList hz hu,⟨fun z=>(by cases z),fun z=>?_⟩⟩;cases z;exact wC rfl hs
  | @tup _ ds' _ xs' h' hl' hi'=>
   obtain⟨its',rv',p',_⟩:=I.tuple h';exact⟨false,SeqAt.RcAt.list_tuple p.isList (show s.heap.IsTuple a' _ from p') hu,SeqAt.RcNeAt.list_tuple p.isList (show s.heap.IsTuple a' _ from p') hu,⟨fun z=>(by cases z),fun z=>(by cases z)⟩⟩
 | @tup _ ds _ xs h hl hi=>
  obtain⟨its,rv,p,_⟩:=I.tuple h;have l1:=rv.length;cases r' with
  | @lst _ ds' _ xs' h' hl' hi'=>
   obtain⟨its',rv',p',_⟩:=I.list h';exact⟨false,SeqAt.RcAt.tuple_list (show s.heap.IsTuple a _ from p) p'.isList hu,SeqAt.RcNeAt.tuple_list (show s.heap.IsTuple a _ from p) p'.isList hu,⟨fun z=>(by cases z),fun z=>(by cases z)⟩⟩
  | @tup _ ds' _ xs' h' hl' hi'=>
   obtain⟨its',rv',p',_⟩:=I.tuple h';have l2:=rv'.length;obtain⟨e,e1,e2⟩:=b3n (A:=A.in1) (s:=s) (its:=its) (its':=its') (ds:=ds) (ds':=ds') (by lia) (by lia) fun j u u' d d' q1 q2 q3 q4=>by
     have g1:=(a0B.mp q3).1;have g2:=(a0B.mp q4).1;have k1:xs[j]? =some (xs[j]'(by lia)):=a0A _;have k2:xs'[j]? =some (xs'[j]'(by lia)):=a0A _;obtain⟨w1,z1,y1⟩:=rv.get k1;obtain⟨w2,z2,y2⟩:=rv'.get k2;rw[q1]at z1;rw[q2]at z2;cases z1;cases z2;exact ih (hi j d _ q3 k1) (hi' j d' _ q4 k2) y1 y2
   refine⟨_,SeqAt.RcAt.tuples (show s.heap.IsTuple a _ from p) (show s.heap.IsTuple a' _ from p') hu e1,SeqAt.RcNeAt.tuples (show s.heap.IsTuple a _ from p) (show s.heap.IsTuple a' _ from p') hu e1,?_⟩;by_cases hs:ds.length=ds'.length
   ·have hz:(its.toArray.size==its'.toArray.size)=true:=by
     rw[a6T];simp only[List.size_toArray];lia
    rw[hz,Bool.and_true,b6v hs (by simp only[List.size_toArray];lia) e2];exact⟨fun z=>by rw[z],fun z=>by cases z;rfl⟩
   ·have hz:(its.toArray.size==its'.toArray.size)=false:=by
     rw[a3J];simp only[List.size_toArray];lia
    rw[hz,Bool.and_false];refine⟨fun z=>(by cases z),fun z=>?_⟩;cases z;exact wC rfl hs
theorem c6g{n m:Nat}{d d':Dt}{v v':V}(r:Rep X.K H n d v)(r':Rep X.K H m d' v')(f:a6a v=true)(f':a6a v'=true):(eqV v v'=true↔d=d'):=by
 cases r<;>first|(cases f;done)|skip
 all_goals (cases r'<;>first|(cases f';done)|skip)
 all_goals first|exact⟨fun _=>rfl,fun _=>rfl⟩|exact⟨fun z=>Bool.noConfusion z,fun z=>by cases z⟩|exact⟨fun z=>a1W Dt.int (eq_of_beq z),fun z=>by injection z with z;exact a6T.mpr z⟩|exact⟨fun z=>a1W Dt.str (eq_of_beq z),fun z=>by injection z with z;exact a6T.mpr z⟩
theorem b6w(I:Inv X za σ H s): ∀(n:Nat) {A:Ar},A.units+n<cLine-> ∀{d d':Dt} {v v':V} {u u':Vl},Rep X.K H n d v->Rep X.K H n d' v'->RelV v u->RelV v' u'-> ∃b,SeqAt.EqAt A s u u' b/\(b=true↔d=d'):=by
 intro n
 induction n with
 |zero=>
  intro A hu d d' v v' u u' r r' q q';have f:a6a v=true:=by cases r<;>rfl
  have f':a6a v'=true:=by cases r'<;>rfl
  exact⟨_,c0u q q' f f',c6g r r' f f'⟩
 | succ n ih=>
  intro A hu d d' v v' u u' r r' q q';by_cases f:a6a v=true
  ·by_cases f':a6a v'=true
   ·exact⟨_,c0u q q' f f',c6g r r' f f'⟩
   ·refine⟨false,?_,⟨fun z=>(by cases z),fun z=>?_⟩⟩
    ·cases r' with
     |non=>exact wC rfl f'
     |int=>exact wC rfl f'
     |str=>exact wC rfl f'
     | @lst _ ds a xs h hl hi=>
      cases q';obtain⟨its,_,p,_⟩:=I.list h;cases r with
      |non=>cases q;exact SeqAt.EqAt.none_list p.isList (by lia)
      |int _ i=>obtain⟨t,rfl⟩:=q;exact SeqAt.EqAt.int_list i t p.isList (by lia)
      |str _ x=>obtain⟨t,rfl⟩:=q;exact SeqAt.EqAt.str_list x t p.isList (by lia)
      |lst _ _ _=>cases f
      |tup _ _ _=>cases f
     | @tup _ ds a xs h hl hi=>
      cases q';obtain⟨its,_,p,_⟩:=I.tuple h;have p':s.heap.IsTuple a its.toArray:=p;cases r with
      |non=>cases q;exact SeqAt.EqAt.none_tuple p' (by lia)
      |int _ i=>obtain⟨t,rfl⟩:=q;exact SeqAt.EqAt.int_tuple i t p' (by lia)
      |str _ x=>obtain⟨t,rfl⟩:=q;exact SeqAt.EqAt.str_tuple x t p' (by lia)
      |lst _ _ _=>cases f
      |tup _ _ _=>cases f
    ·subst z;cases r<;>first|(cases f;done)|skip
     all_goals (cases r';exact wC rfl f')
  ·by_cases f':a6a v'=true
   ·refine⟨false,?_,⟨fun z=>(by cases z),fun z=>?_⟩⟩
    ·cases r with
     |non=>exact wC rfl f
     |int=>exact wC rfl f
     |str=>exact wC rfl f
     | @lst _ ds a xs h hl hi=>
      cases q;obtain⟨its,_,p,_⟩:=I.list h;cases r' with
      |non=>cases q';exact SeqAt.EqAt.list_none p.isList (by lia)
      |int _ i=>obtain⟨t,rfl⟩:=q';exact SeqAt.EqAt.list_int i t p.isList (by lia)
      |str _ x=>obtain⟨t,rfl⟩:=q';exact SeqAt.EqAt.list_str x t p.isList (by lia)
      |lst _ _ _=>cases f'
      |tup _ _ _=>cases f'
     | @tup _ ds a xs h hl hi=>
      cases q;obtain⟨its,_,p,_⟩:=I.tuple h;have p':s.heap.IsTuple a its.toArray:=p;cases r' with
      |non=>cases q';exact SeqAt.EqAt.tuple_none p' (by lia)
      |int _ i=>obtain⟨t,rfl⟩:=q';exact SeqAt.EqAt.tuple_int i t p' (by lia)
      |str _ x=>obtain⟨t,rfl⟩:=q';exact SeqAt.EqAt.tuple_str x t p' (by lia)
      |lst _ _ _=>cases f'
      |tup _ _ _=>cases f'
    ·subst z;cases r'<;>first|(cases f';done)|skip
     all_goals (cases r;exact wC rfl f)
   ·have ex: ∀{m:Nat} {d:Dt} {v:V},Rep X.K H m d v-> ¬a6a v=true-> ∃a,v= .ref a:=fun {m d v} r f=>by
     cases r<;>first|exact⟨_,rfl⟩|exact wC rfl f
    obtain⟨a,rfl⟩:=ex r f;obtain⟨a',rfl⟩:=ex r' f';cases q;cases q';by_cases ha:a=a'
    ·subst ha;exact⟨true,SeqAt.EqAt.same _,⟨fun _=>b9b I (n+1) r r',fun _=>rfl⟩⟩
    ·obtain⟨b,h1,_,h3⟩:=c6f I (A:=A) (by lia) r r' fun r r' q q'=>ih (A:=A.in1) (by show A.units+1+n<cLine;lia) r r' q q';exact⟨b,.of_refs ha h1,h3⟩
def d7e(K:W.Frag)(neg:Bool):R2:=fun x y H Q=> ∃a a' n d d',x= .ref a/\y= .ref a'/\Rep K H (n+1) d (.ref a)/\Rep K H (n+1) d' (.ref a')/\n<=30/\ ∀b,(b=true↔d=d')->Q (.bl (if neg then !b else b)) H
theorem c0y(hu:X.A.units+64<cLine):OpR X (compareOp .Eq) (d7e X.K false):=by
 intro za s σ H x y v u Q I rx ry h;obtain⟨a,a',n,d,d',rfl,rfl,r,r',hn,q⟩:=h;cases rx;cases ry;obtain⟨b,h1,_,h3⟩:=c6f I (A:=X.A) (by lia) r r' fun r r' q q'=>b6w I n (A:=X.A.in1) (by show X.A.units+1+n<cLine;lia) r r' q q';exact h1 _ _ _ _ ⟨.bl b,H,I,rfl,q b h3⟩
theorem b6x(hu:X.A.units+64<cLine):OpR X (compareOp .NotEq) (d7e X.K true):=by
 intro za s σ H x y v u Q I rx ry h;obtain⟨a,a',n,d,d',rfl,rfl,r,r',hn,q⟩:=h;cases rx;cases ry;obtain⟨b,_,h2,h3⟩:=c6f I (A:=X.A) (by lia) r r' fun r r' q q'=>b6w I n (A:=X.A.in1) (by show X.A.units+1+n<cLine;lia) r r' q q';exact h2 _ _ _ _ ⟨.bl (!b),H,I,rfl,q b h3⟩
end
theorem c0z{K:W.Frag}{H:Hp}{n:Nat}{is:Zs}(i:Nat)(d:Dt)(v:V)(h1:(is.map Dt.int)[i]? =some d)(h2:(is.map V.int)[i]? =some v):Rep K H n d v:=by
 rw[a0F]at h1 h2;cases e:is[i]? with
 |none=>rw[e]at h1;cases h1
 |some k=>
  rw[e]at h1 h2;cases h1;cases h2;exact .int n k
theorem repL{K:W.Frag}{H:Hp}{n:Nat}{is:Zs}{a:Ad}(h:SqL K H a (is.map V.int)):Rep K H (n+1) (.lst (is.map Dt.int)) (.ref a):= .lst h (by simp) c0z
theorem repT{K:W.Frag}{H:Hp}{n:Nat}{is:Zs}{a:Ad}(h:SqT K H a (is.map V.int)):Rep K H (n+1) (.tup (is.map Dt.int)) (.ref a):= .tup h (by simp) c0z
theorem a8x{α β:Type}{f:α->β}(hf: ∀a b,f a=f b->a=b): ∀{xs ys:List α},xs.map f=ys.map f->xs=ys
 | [],[],_=>rfl
 | [],_::_,h=>by simp at h
 |_::_,[],h=>by simp at h
 |a::xs,b::ys,h=>by
  simp only[List.map_cons,List.cons.injEq]at h;rw[hf a b h.1,a8x hf h.2]
theorem dt_intsT{xs ys:Zs}:Dt.tup (xs.map Dt.int)=Dt.tup (ys.map Dt.int)↔xs=ys:=
 ⟨fun h=>by injection h with h;exact a8x (fun a b e=>by injection e) h,fun h=>by rw[h]⟩
def a5b(n:Nat):List V:=(List.range n).map fun(i:Nat)=>V.int (i:Int)
section
variable{X:Cx}
def d8g:List V->Hp->VK->Prop:=fun xs H Q=> ∃j:Int,xs=[.int j]/\ ∀p,H p=none->Q (.ref p) (upd H p (.rng 0 j))
theorem b1i:a7r X (.type "range") d8g:=by
 intro za s σ H xs us Q I r h;obtain⟨j,rfl,q⟩:=h;obtain⟨u,rfl,t,rfl⟩:=a6y r;refine call_range_1 ⟨.ref s.heap.objs.size,_,I.laid (t':=s.toks+1+1) (fun b o e=>a0H _ e) (a0K _) (show ObjOk X.prog X.w _ _ _ (.rng 0 j)from⟨_,_,_,a0X _ rfl⟩),rfl,q _ (I.hok.fresh (a0K _))⟩
theorem b1j{n:Nat}{acc:AV}(h:ItemsOf (fun i v=> ∃t,v=Value.int ((0:Int)+(i:Nat) * 1) t) acc n):Vals (a5b n) acc.toList:=by
 obtain⟨hs,hi⟩:=h;have go: ∀(xs:List V) (us:Vs),xs.length=us.length->(∀(j:Nat) x u,xs[j]? =some x->us[j]? =some u->RelV x u)->Vals xs us:=by
  intro xs
  induction xs with
  |nil=>intro us hl _;cases us with
   |nil=>exact .nil
   |cons=>simp at hl
  |cons x xs ih=>
   intro us hl h;cases us with
   |nil=>simp at hl
   |cons u us=>exact .cons (h 0 x u rfl rfl) (ih us (by simpa using hl) fun j a b e1 e2=>h (j+1) a b (by simpa using e1) (by simpa using e2))
 refine go _ _ (by simp[a5b,hs]) fun j x u e1 e2=>?_;obtain⟨t,rfl⟩:=hi j u (by simpa using e2);unfold a5b at e1;rw[a0F]at e1;have hj:j<n:=by
  have:=(a0B.mp e2).1;simpa[hs]using this
 rw[a3C hj]at e1;cases e1;refine⟨t,?_⟩
 congr 1
 lia
theorem b1k{j:Int}(h0:0<=j)(h1:j<=1000000):Builtin.Range.small 0 j 1=true:=small_one (by decide) (by decide) (by lia) (by lia)
theorem b1l{j:Int}(h0:0<=j):Builtin.Range.rangeSize 0 j 1=(j.toNat:Nat):=by
 rw[rangeSize_one];split<;>lia
def d1d:List V->Hp->VK->Prop:=fun xs H Q=> ∃p j,xs=[.ref p]/\H p=some (.rng 0 j)/\0<=j/\j<=1000000/\ ∀l,H l=none->Q (.ref l) (upd H l (.lst (a5b j.toNat)))
theorem b4k(hc:X.calm=true):a7r X (.type "list") d1d:=by
 intro za s σ H xs us Q I r h;obtain⟨p,j,rfl,hp,h0,h1,q⟩:=h;obtain⟨u,rfl,rx⟩:=a6y r;cases rx;obtain⟨t1,t2,t3,e⟩:=I.hok p _ hp;refine call_list_range (I.ok.hd hc) e (b1k h0 h1) (b1l h0) (by lia) fun h' tk acc c' kp e' hit=>?_;have hv:=b1j hit;have e2:h'.get? s.heap.objs.size=some {cls:= .type "list",data:= .seq acc.toList.toArray c'}:=by simpa using e'
 exact⟨.ref s.heap.objs.size,_,I.laid (t':=tk) kp (a0K _) (show ObjOk X.prog X.w _ h' _ (.lst (a5b j.toNat))from⟨by rw[a0Y];simp[a5b];lia,acc.toList,c',hv,e2⟩),rfl,q _ (I.hok.fresh (Nat.le_refl _))⟩
end
section
open AutoSeq1 (wpAny_loadPart')
abbrev b0e(j:Int)(acc:AV):Prop:=ItemsOf (fun i v=> ∃t,v=Value.int ((0:Int)+(i:Nat) * 1) t) acc j.toNat
theorem b9c{prog:Pg}{w:World}{A:Ar}{E:VP}{s:Sh}{Q:Vs->Sh->Prop}{r:Ad}{j:Int}{t u v:Tok}(hh:A.handled=none)(hr:IsRange s.heap r 0 j 1 t u v)(h0:0<=j)(h1:j<=1000000)
  (hQ: ∀h' tk acc,(∀b o,s.heap.get? b=some o->h'.get? b=some o)->b0e j acc->Q acc.toList {s with heap:=h',toks:=tk}):wpAny (model prog w) A (collect (.ref r)) Q E s:=by
 have hS:(s.heap.push {cls:= .type "list",data:= .seq ([]:Vs).toArray}).get? s.heap.objs.size=some {cls:= .type "list",data:= .seq #[] 0}:=by exact a0X _ rfl
 unfold collect;refine wpAny_bind (wpAny_runValue (codeAny_builtin F.entry_proto_collect ?_));rw[Around.under_plainId F.plain_proto_collect _];show wpAny _ A.in1 (newList [] >>= fun l=>again (.builtin "list.__iadd__" ⟨[l,.ref r],[]⟩)) _ _ s;refine a0D (a2S (a0G ⟨a7P F.plain_list_iadd _,a5N F.entry_list_iadd ?_⟩));rw[a4Q F.plain_list_iadd _];show wpAny _ A.in1 (Builtin.List.listExtendWith (.ref s.heap.objs.size) (.ref r) (.ref s.heap.objs.size)) _ _ _;have fin': ∀s',(∃h' tk acc c',s'={s with heap:=h',toks:=tk}/\(∀b o,s.heap.get? b=some o->h'.get? b=some o)/\h'.get? s.heap.objs.size=some {cls:= .type "list",dict:=none,data:= .seq acc c',slots:= #[]}/\b0e j acc)->
   wpAny (model prog w) A (match Value.ref s.heap.objs.size with
    | Value.ref a=>do
     let o <-load a
     match o.data with
      |Data.seq xs _=>pure xs.toList
      |_=>unsupported "internal:collect"
    |_=>unsupported "internal:collect") Q E s':=by
  rintro s' ⟨h',tk,acc,c',rfl,kp,hS',hit⟩;show wpAny _ A (load s.heap.objs.size >>= _) _ _ _;exact a0D (wpAny_load hS' (a0G (hQ h' tk acc kp hit)))
 refine a3Q (wpAny_extend_range (A:=A) (R:=fun r s'=>r= .ok (.ret (.ref s.heap.objs.size))/\ ∃h' tk acc c',s'={s with heap:=h',toks:=tk}/\(∀b o,s.heap.get? b=some o->h'.get? b=some o)/\h'.get? s.heap.objs.size=some {cls:= .type "list",dict:=none,data:= .seq acc c',slots:= #[]}/\b0e j acc)
  (s:={s with heap:=s.heap.push {cls:= .type "list",data:= .seq ([]:Vs).toArray}}) hh (a0H _ hr) (b1k h0 h1) (b1l h0) (by lia) _ (.ref s.heap.objs.size) 0 hS fun h' tk acc c' kp hS' hit=>
   ⟨rfl,h',tk,acc,c',rfl,fun b o e=>kp b o (a1M (a0U e)) (a0H _ e),hS',hit⟩) (fun fin s' h=>?_) (fun e s' h=>wC h.1 (by simp))
 cases fin with
 |done f=>obtain⟨e,g⟩:=h;cases e;exact fin' _ g
 |again c'=>exact⟨h.1,a5U h.2 fun r s'' hr=>by obtain⟨rfl,g⟩:=hr;exact fin' _ g⟩
theorem b1m(r:Ad)(j:Int)(t u v:Tok)(h0:0<=j)(h1:j<=1000000):Meets (Builtin.«tuple.__new__» ⟨[.type "tuple",.ref r],[]⟩)
  (fun A R s=>A.handled=none/\IsRange s.heap r 0 j 1 t u v/\ ∀(h':Heap) tk acc,(∀b o,s.heap.get? b=some o->h'.get? b=some o)->b0e j acc->
   R (.ok (.ret (.ref h'.objs.size))) {s with heap:=h'.push {cls:= .type "tuple",data:= .seq acc},toks:=tk}):=
 .of_wp fun prog w A R s h=>by
  obtain⟨hp,g,d,tk,os⟩:=s;obtain⟨hh,hr,h⟩:=h;have hsub:=sub_tuple_self;have hinit:=init_tuple_lookup;have hmh:=madeHere_tuple
  have hT:Shared.TypeIs ⟨hp,g,d,tk,os⟩ (.ref r) "range":=⟨_,hr,rfl⟩
  wp_walk using a3Y hr,a8H hT,b9c (A:=A.in1) hh hr h0 h1
  intro h' tk' acc hk hit;show wpAny _ _ (Builtin.Tuple.tupleExact acc.toList.toArray >>= fun v=>ret v) _ _ _;have hz:acc.toList.toArray.size<=sizeLine:=by
   have:=hit.1;rw[a0Y];simp only[List.size_toArray,Array.length_toList];lia
  unfold Builtin.Tuple.tupleExact;refine wpAny_bind (wpAny_newObj_type (wpAny_pure ⟨_,rfl,?_⟩) hz);have e:acc.toList.toArray=acc:=by simp
  rw[e];exact h h' tk' acc hk hit
end
section
variable{X:Cx}
def d5m:List V->Hp->VK->Prop:=fun xs H Q=> ∃p j,xs=[.ref p]/\H p=some (.rng 0 j)/\0<=j/\j<=1000000/\ ∀l,H l=none->Q (.ref l) (upd H l (.tup (a5b j.toNat)))
theorem b6y(hc:X.calm=true):a7r X (.type "tuple") d5m:=by
 intro za s σ H xs us Q I r h;obtain⟨p,j,rfl,hp,h0,h1,q⟩:=h;obtain⟨u,rfl,rx⟩:=a6y r;cases rx;obtain⟨t1,t2,t3,e⟩:=I.hok p _ hp;refine callType_new F.called_tuple (by decide) (F.typeCall_tuple_1 _) (F.newCall_tuple_1 _) (fun obj=>F.args_object_init_2 obj _) F.entry_tuple_new (b1m p j t1 t2 t3 h0 h1) ⟨I.ok.hd hc,e,fun h' tk acc kp hit=>⟨⟨_,a0X _ rfl,rfl⟩,?_⟩⟩;have hv:=b1j hit;have I1:Inv X za σ H {s with heap:=h',toks:=tk}:=I.kept kp;have hz:(a5b j.toNat).length<=sizeLine:=by rw[a0Y];simp[a5b];lia
 have I2:Inv X za σ (upd H h'.objs.size (.tup (a5b j.toNat))) {s with heap:=h'.push {cls:= .type "tuple",data:= .seq acc},toks:=tk}:=
  I1.laid (t':=tk) (fun b o e=>a0H _ e) (a0K _) (show ObjOk X.prog X.w _ _ _ (.tup (a5b j.toNat))from⟨hz,acc.toList,hv,by simpa using TupD.new h' acc⟩)
 exact⟨.ref h'.objs.size,_,I2,rfl,q _ (I1.hok.fresh (a0K _))⟩
end
structure CompSc(N:Ss)(osc:Scope)(vs:Ss)(sc:Scope):Prop where
 kind:sc.kind= .function:=by rfl
 cell: ∀y∈sc.names,y.2≠ .cell:=by decide+kernel
 locs: ∀y∈sc.names,y.2= .local->sc.names.lookup y.1=some .local:=by decide+kernel
 own: ∀y∈N.map (d0j vs),sc.names.lookup y≠some .local:=by decide+kernel
 hid: ∀y∈vs,sc.names.lookup (b8x y)=none:=by decide+kernel
 nd:(vs++N.map (d0j vs)).Nodup:=by decide+kernel
 free: ∀y∈sc.names,y.2= .free->osc.names.lookup y.1=some .cell∨osc.names.lookup y.1=some .free:=by decide+kernel
theorem CompSc.to{X:Cx}{N:Ss}{osc:Scope}{vs:Ss}{sc:Scope}(h:CompSc N osc vs sc)(hN:X.N=N:=by rfl)(hs:X.env.scope=osc:=by rfl):CompScope X vs sc:=by
 subst hN hs;exact⟨h.kind,h.cell,h.locs,h.own,h.hid,h.nd,h.free⟩
def a0u(P:Pg)(w:World)(K:W.Frag)(mg:SV)(base:Heap)(x:Str)(k:Nat)(ps:Ss)(sp:Sp):Prop:=
 ∃f fd,FnOk P w K mg base CX0 k f fd ps sp/\mg x=some (.ref f)/\PySem.W.keepIn K (.ref f)=true/\Binds K fd ps []
theorem a0m{X:Cx}{x:Str}{k:Nat}{ps:Ss}{sp:Sp}{e:Expr}{es:List Expr}{t:TA}{p pos:Pos}(c:a0u X.prog X.w X.K X.mg X.base x k ps sp)(hr:Room k X.A)(hg:Gl X x)(ha:PA X (e::es) t)
  (hd:(x==("__debug__":Str))=false:=by decide) (hs:starEach (e::es) X.env=(false,eval e X.env)::starEach es X.env:=by rfl) (hp:(backTo pos (starEach es X.env)).any (·.1)=false:=by rfl):
  PE X (.Call (.Name x p) (e::es) [] pos) (d0s sp [] E0 t):=by
 obtain⟨f,fd,F,m,kp,b⟩:=c;exact d5a F hr hg m kp b .nil c5t ha hd hs hp
theorem IxR.k{X:Cx}{K:W.Frag}(r:W.Frag->R2)(h:IxR X (r X.K))(hK:X.K=K):IxR X (r K):=hK▸h
theorem OpR.k{X:Cx}{K:W.Frag}{f:Vl->Vl->Sem Vl}(r:W.Frag->R2)(h:OpR X f (r X.K))(hK:X.K=K):OpR X f (r K):=hK▸h
theorem a0c{H:Hp}{p:Ad}(h:H p=none)(o:HO):Same H (upd H p o):=fun b u q=>by rw[a0f (a0j q h)];exact q
theorem small{n:Nat}(h:n<=1000):n<=sizeLine:=a1S (c5u h)
abbrev nv(n:Nat):V:= .int (n:Int)
theorem c6h(xs:Nsq):xs.map nv=(xs.map fun(n:Nat)=>(n:Int)).map V.int:=by rw[a3X];rfl
theorem d1e{xs ys:Nsq}:(xs.map fun(n:Nat)=>(n:Int))=(ys.map fun(n:Nat)=>(n:Int))↔xs=ys:=
 ⟨fun h=>a8x (fun a b e=>a8Y e) h,fun h=>by rw[h]⟩
theorem repLn{K:W.Frag}{H:Hp}{n:Nat}{is:Nsq}{a:Ad}(h:SqL K H a (is.map nv)):Rep K H (n+1) (.lst ((is.map fun(n:Nat)=>(n:Int)).map Dt.int)) (.ref a):=repL (by rw[<-c6h];exact h)
theorem a5c{K:W.Frag}{H:Hp}{n:Nat}{is:Nsq}{a:Ad}(h:SqT K H a (is.map nv)):Rep K H (n+1) (.tup ((is.map fun(n:Nat)=>(n:Int)).map Dt.int)) (.ref a):=repT (by rw[<-c6h];exact h)
theorem dt_natsT{xs ys:Nsq}:Dt.tup ((xs.map fun(n:Nat)=>(n:Int)).map Dt.int)=Dt.tup ((ys.map fun(n:Nat)=>(n:Int)).map Dt.int)↔xs=ys:=dt_intsT.trans d1e
theorem b2x{xs:Nsq}{k:Nat}(h:k<xs.length):atI (xs.map nv) (k:Int)=some (nv (xs.getD k 0)):=a1x (by rw[a0F,a0A h,a0I,a0A h];rfl)
def d8h(H:Hp)(xs:List V)(Q:VK):Prop:= ∀r H',Same H H'->H' r=some (.tup xs)->Q (.ref r) H'
def tCut(t:TS):TS:=fun D σ H=> ∃S:St->Hp->Prop,t {D with nx:=S} σ H/\ ∀σ' H',S σ' H'->D.nx σ' H'
theorem c1a{X:Cx}{st:Stmt}{t:TS}(h:PS X st t):PS X st (tCut t):=by
 intro za s σ H D I q;obtain⟨S,q1,q2⟩:=q;refine thn (h za s σ H _ I q1) fun f s' z=>?_;cases f with
 |next=>obtain⟨σ',H',I',z⟩:=z;exact⟨σ',H',I',q2 σ' H' z⟩
 |brk=>exact z
 |cont=>exact z
 |ret u=>exact z
theorem a1e{H H':Hp}{l:Ad}{o:HO}(g:Same H H')(hl:H l=none):Same H (upd H' l o):=fun b u e=>by rw[a0f (a0j e hl)];exact g b u e
theorem d8i{cs:Zs}{k:Nat}(h:k<cs.length):atI (cs.map V.int) (k:Int)=some (.int (cs.getD k 0)):=a1x (by rw[a0F,a0A h,a0I,a0A h];rfl)
theorem b4l{n k:Nat}(h:k<n):ixN n (k:Int)=some k:=by
 unfold ixN;rw[wB (by lia),wB (by lia),a1U]
theorem mod_nv(c:Int){n:Nat}(h:1<=n):V.int (c%(n:Int))=nv (c%(n:Int)).toNat/\(c%(n:Int)).toNat<n:=by
 have h1:=Int.emod_nonneg c (by lia:(n:Int)≠0);have h2:=Int.emod_lt_of_pos c (by lia:(0:Int)<(n:Int));refine⟨?_,by lia⟩;show V.int _=V.int (((c%(n:Int)).toNat:Nat):Int);rw[Int.toNat_of_nonneg h1]
theorem c1b(ys:Nsq)(j v:Nat):(ys.map nv).set j (nv v)=(ys.set j v).map nv:=(List.map_set).symm
theorem c1c{ys:Nsq}{j v n:Nat}(h: ∀y∈ys,y<n)(hv:v<n): ∀y∈ys.set j v,y<n:=by
 intro y hy
 rcases List.mem_or_eq_of_mem_set hy with z|z
 ·exact h y z
 ·rw[z];exact hv
theorem b1n{ys:Nsq}{j n:Nat}(h: ∀y∈ys,y<n)(hj:j<ys.length):ys.getD j 0<n:=by
 rw[a0I,a0A hj];exact h _ (a2Y hj)
theorem b9d{P:Pg}{w:World}{a:Ad}{κ:Type}[DecidableEq κ]{kd:HeapKind P w κ}(na:(a==sysModules)=false):
  MeetsIn P w (Builtin.«dict.__len__» ⟨[.ref a],[]⟩) fun _ R s=> ∃xs,s.heap.DictOfH kd a xs/\R (.ok (.ret (.int xs.length s.toks))) {s with toks:=s.toks+1}:=
 .of_wp fun A R s ⟨xs,dd,q⟩=>by
  obtain⟨ob,en,ep,g1,g2,g3,g4,_⟩:=dd;have ez:en.size=xs.length:=a9H g4;show wpAny _ _ (dictSize a >>= _) _ _ s;unfold dictSize;refine a0D (a0D (a4V g1 g3 (a0G (a0D (wpAny_pendingCount_other na (wpAny_ret_mkInt ?_))))));rw[a8I,ez];exact q
theorem c3k{P:Pg}{w:World}{A:Ar}{E:VP}{s:Sh}{a:Ad}{κ:Type}[DecidableEq κ]{kd:HeapKind P w κ}{xs:List (κ×Ad×Vl)}{Q:VP}(na:(a==sysModules)=false)
  (dd:s.heap.DictOfH kd a xs) (few:(xs.length:Int)<2 ^ 63) (q:Q (.int xs.length (s.toks+1)) {s with toks:=s.toks+1+1}):wpAny (model P w) A (Builtin.«len» ⟨[.ref a],[]⟩) (fun fin s'=> ∃r,fin= .done (.ret r)/\Q r s') E s:=by
 have n0: ¬((xs.length:Nat):Int)<0:=by lia
 have n1: ¬((xs.length:Nat):Int)≥2 ^ 63:=by lia
 unfold Builtin.«len»;refine a0D (m:=oneArg "len" _) (a0G (a0D (m:=callSpecial? (.ref a) (Str.ofString "__len__")) ?_));refine a2U (name:=Str.ofString "__len__") dd.typeIs F.slot_dict_len (call_meetsIn F.slot_dict_len dd.typeIs F.entry_dict_len (F.args_dict_len_1 _) (b9d (kd:=kd) na) ⟨xs,dd,?_⟩);show wpAny _ _ _ _ _ {s with toks:=s.toks+1};refine a0D (a2T (a0G (a0D (wpAny_letGo ?_))));show wpAny _ _ (if((xs.length:Nat):Int)<0 then _ else(if((xs.length:Nat):Int)≥2 ^ 63 then _ else _)) _ _ _;rw[wA n0,wA n1];exact a0D (wpAny_mkInt (a0G ⟨_,rfl,q⟩))
section
variable{X:Cx}
theorem c6i:a7r X (.builtin "len") (fun xs H Q=> ∃a kvs,xs=[V.ref a]/\H a=some (.dT kvs)/\Q (.int kvs.length) H):=by
 intro za s σ H xs us Q I r h;obtain⟨a,kvs,rfl,ha,q⟩:=h;obtain⟨u,rfl,ru⟩:=a6y r;cases ru;obtain⟨z,na,ys,rel,dd⟩:=d5h I.hok ha;have el:kvs.length=ys.length:=a4Z rel;refine a6Z kind_len plain_len entry_len (args_len1 _) (c3k na dd (by rw[<-el];rw[a0Y]at z;lia) ?_);exact⟨.int kvs.length,H,I.tok _,⟨_,by rw[el]⟩,q⟩
end
def nk(xs:Nsq):List Key:=xs.map fun(n:Nat)=>(Sum.inl (n:Int):Key)
theorem a7a(xs:Nsq):(nk xs).map kV=xs.map nv:=by
 unfold nk;rw[a3X];rfl
theorem c1d{xs ys:Nsq}(h:nk xs=nk ys):xs=ys:=by
 unfold nk at h;exact a8x (fun a b e=>by injection e with e;exact a8Y e) h
section
variable{X:Cx}
def d8j(K:W.Frag):R2:=fun x y H Q=> ∃l b xs zs,x= .ref l/\y= .ref b/\SqL K H l xs/\SqL K H b zs/\xs.length+zs.length<=sizeLine/\ ∀p,H p=none->Q (.ref p) (upd H p (.lst (xs++zs)))
theorem b4m:OpR X (binaryOp .Add) (d8j X.K):=by
 intro za s σ H x y v u Q I rx ry h;obtain⟨l,b,xs,zs,rfl,rfl,hl,hb,hz,q⟩:=h;cases rx;cases ry;obtain⟨its,r,⟨⟨c1,d1,k1,s1⟩,n,e,ec,ed,ek⟩,_⟩:=I.list hl;obtain⟨its2,r2,⟨⟨c2,d2,k2,s2⟩,n2,e2,ec2,ed2,ek2⟩,_⟩:=I.list hb;simp only at ec ed ek ec2 ed2 ek2;subst ec ed ek ec2 ed2 ek2;have l1:=r.length;have l2:=r2.length;have ea:its.toArray++its2.toArray=(its++its2).toArray:=by simp
 refine b0A ⟨_,e,rfl⟩ ⟨_,e2,rfl⟩ noFill_list_add seq_list_add F.slot_list_add F.entry_list_add (F.args_list_add_2 _ _) (list_addW l b its.toArray its2.toArray n n2 none none s1 s2 (by simp only[List.size_toArray];lia)) ⟨e,e2,?_⟩;rw[ea];exact⟨.ref _,_,I.lnew (t':=s.toks) (r.append r2) (by rw[a0L];lia),rfl,q _ I.fresh⟩
end
section
variable{X:Cx}
theorem c6j{xs:List V}{lo hi:Option Int}(h:HT.sIx xs.length 0 lo=0/\HT.sIx xs.length xs.length hi=xs.length):b6q xs lo hi=xs:=by
 unfold b6q;rw[h.1,h.2,a7A,b0E,a2B]
theorem a7u{P:Pg}{w:World}{A:Ar}{E:VP}{s:Sh}{t sl:Ad}{its:AV}{vl vu:Vl}{lo hi:Option Int}{Q:VP}(ht:IsTup s.heap t its)(hs:s.heap.IsSliceOf sl vl vu .none)
  (pl:IsPart vl lo) (pu:IsPart vu hi) (hw:HT.sIx its.size 0 lo=0/\HT.sIx its.size its.size hi=its.size) (h:Q (.ref t) s):wpAny (model P w) A (getItem (.ref t) (.ref sl)) Q E s:=by
 obtain⟨os,hos,hcs,hds⟩:=id hs;have hT:s.TypeIs (.ref sl) "slice":=⟨os,hos,hcs⟩;unfold getItem
 try with_reducible refine a2T ?_
 first|refine a0D (a0G ?_)|skip
 refine a0D (wpAny_sequenceKey ht.typeIs (by decide) ?_);refine a0D (a2U (name:=Str.ofString "__getitem__") ht.typeIs a2Z (a2N a2Z ht.typeIs entry_tuple_getitem ?_ (args_tuple_getitem _ _)));show wpAny _ _ (Builtin.Tuple.tupleItemsOf (.ref t) >>= _) _ _ s;refine a0D (tupleItemsOf_ ht (a0D (a8H hT ?_)));rw[wB (by decide)];refine a0D (HT.sliceApplied_gen hs pl pu ?_);have yes:(((HT.sIx its.size 0 lo:Nat):Int)==0&&(1:Int)==1&&(HT.sIx its.size its.size hi-HT.sIx its.size 0 lo)==its.size)=true:=by
  rw[hw.1,hw.2];simp
 show wpAny _ _ (if(((HT.sIx its.size 0 lo:Nat):Int)==0&&(1:Int)==1&&(HT.sIx its.size its.size hi-HT.sIx its.size 0 lo)==its.size)=true then _ else _) _ _ s;rw[wB yes];unfold Builtin.Tuple.tupleIsExact;refine a0D (a0D (a8H ht.typeIs (a0G ?_)));rw[wB (by decide)]
 first
  |exact a0D (a6F (a0D (a0G (a0G ⟨_,rfl,a0G h⟩))))
  |exact a0D (a6F (a0G ⟨_,rfl,a0G h⟩))
def rSlA:V->Option Int->Option Int->Hp->VK->Prop:=fun x lo hi H Q=> ∃a xs,x= .ref a/\H a=some (.tup xs)/\ ∀p H',Same H H'->H' p=some (.tup (b6q xs lo hi))->Q (.ref p) H'
theorem b1o:SlR X rSlA:=by
 intro za s σ H x v vl vu lo hi sl Q I rx hs pl pu h;obtain⟨a,xs,rfl,hx,q⟩:=h;by_cases hw:HT.sIx xs.length 0 lo=0/\HT.sIx xs.length xs.length hi=xs.length
 ·cases rx;obtain⟨its,r,ht,hz⟩:=I.tuple (SqT.of hx);have el:its.toArray.size=xs.length:=by rw[a0V];exact r.length.symm
  refine⟨"tuple",_,a2Z.lookup,ht.typeIs,a7u ht hs pl pu (by rw[el];exact hw) ⟨.ref a,H,I,rfl,q a H (Same.refl H) ?_⟩⟩;rw[c6j hw];exact hx
 ·exact d7y za s σ H (.ref a) v vl vu lo hi sl Q I rx hs pl pu ⟨a,xs,rfl,SqT.of hx,hw,fun p hp=>q p _ (a0c hp _) a0a⟩
end
section
variable{X:Cx}
def rCatA:R2:=fun x y H Q=> ∃a b xs ys,x= .ref a/\y= .ref b/\H a=some (.tup xs)/\H b=some (.tup ys)/\xs.length+ys.length<=sizeLine/\ ∀p H',Same H H'->H' p=some (.tup (xs++ys))->Q (.ref p) H'
theorem c6k:OpR X (binaryOp .Add) rCatA:=by
 intro za s σ H x y v u Q I rx ry h;obtain⟨a,b,xs,ys,rfl,rfl,ha,hb,hz,q⟩:=h;by_cases hx:xs=[]
 ·cases rx;cases ry;obtain⟨its,r1,p1,_⟩:=I.tuple (SqT.of ha);obtain⟨its2,r2,p2,_⟩:=I.tuple (SqT.of hb);obtain⟨⟨c1,d1,k1,s1⟩,o1,ec,n,ed⟩:=id p1;obtain⟨⟨c2,d2,k2,s2⟩,o2,ec2,n2,ed2⟩:=id p2;simp only at ec ed ec2 ed2;subst ec ed ec2 ed2;have e0:its=[]:=r1.nil_iff.mpr hx;refine b0A ⟨_,o1,rfl⟩ ⟨_,o2,rfl⟩ a9Y seq_tuple_add F.slot_tuple_add F.entry_tuple_add (F.args_tuple_add_2 _ _) (tuple_addW0 a b its.toArray its2.toArray n n2 d1 d2 s1 s2 (by rw[e0];rfl)) ⟨o1,o2,?_⟩;exact⟨.ref b,H,I,rfl,q b H (Same.refl H) (by rw[hx];exact hb)⟩
 ·refine d5f za s σ H (.ref a) (.ref b) v u Q I rx ry ⟨a,b,xs,ys,rfl,rfl,SqT.of ha,SqT.of hb,hx,hz,fun z=>?_,fun z p hp=>q p _ (a0c hp _) a0a⟩;refine q a H (Same.refl H) ?_;rw[z,a2I];exact ha
theorem b2y:fillsNumberSlot (.type "tuple") "mul"=pure false:=by
 unfold fillsNumberSlot
 kernel_rfl
theorem c3l:seqRepeat? (.type "tuple")=pure (some (.builtin "tuple.__mul__")):=by
 unfold seqRepeat?
 kernel_rfl
end
open AutoSeq1 (wpAny_loadPart')
theorem d1f(a:Int)(t:Tok)(l:Ad)(its:AV)(n:Nat)(dd:Option Ad)(sl:Array (Option Vl)):
  Meets (Builtin.«int.__rmul__» ⟨[.int a t,.ref l],[]⟩) (fun _ R s=>s.heap.get? l=some {cls:= .type "tuple",dict:=dd,data:= .seq its n,slots:=sl}/\R (.ok (.ret Value.notImplemented)) s):=
 .of_wp fun P w A R s h=>by
  obtain⟨hp,g,d,tk,os⟩:=s;obtain⟨hl,h⟩:=h
  wp_walk using a3Y hl
  exact⟨_,rfl,h⟩
theorem d1g(l:Ad)(its:AV)(n:Nat)(dd:Option Ad)(sl:Array (Option Vl))(k:Int)(u:Tok)(c0: ¬(decide (k< -(2 ^ 63)) || decide (k≥2 ^ 63))=true)(c1:(its.isEmpty || k==1)=true):
  Meets (Builtin.«tuple.__mul__» ⟨[.ref l,.int k u],[]⟩) (fun _ R s=>s.heap.get? l=some {cls:= .type "tuple",dict:=dd,data:= .seq its n,slots:=sl}/\R (.ok (.ret (.ref l))) s):=
 .of_wp fun P w A R s h=>by
  obtain⟨hp,g,d,tk,os⟩:=s;obtain⟨hl,h⟩:=h;have f1:=AutoSeq1.idx_int
  wp_walk using a3Y hl
  refine b0F (a1J c0) ?_
  wp_walk using a3Y hl
  exact⟨_,rfl,h⟩
theorem d1h(l:Ad)(its:AV)(n:Nat)(dd:Option Ad)(sl:Array (Option Vl))(k:Int)(u:Tok)(c0: ¬(decide (k< -(2 ^ 63)) || decide (k≥2 ^ 63))=true)(c1: ¬(its.isEmpty || k==1)=true)
  (c2: ¬(decide (k<=0) || its.isEmpty)=true) (c3: ¬(its.size:Int) * k>(2 ^ 63-1) /8) (c4: ¬Builtin.Tuple.tupleTooMany ((its.size:Int) * k)=true) (hz:((List.replicate k.toNat its).foldl (· ++ ·) #[]).size<=sizeLine):
  Meets (Builtin.«tuple.__mul__» ⟨[.ref l,.int k u],[]⟩) (fun _ R s=>s.heap.get? l=some {cls:= .type "tuple",dict:=dd,data:= .seq its n,slots:=sl}/\
   R (.ok (.ret (.ref s.heap.objs.size))) {s with heap:=s.heap.push {cls:= .type "tuple",data:= .seq ((List.replicate k.toNat its).foldl (· ++ ·) #[])}}):=
 .of_wp fun P w A R s h=>by
  obtain⟨hp,g,d,tk,os⟩:=s;obtain⟨hl,h⟩:=h;have f1:=AutoSeq1.idx_int
  wp_walk using a3Y hl
  refine b0F (a1J c0) ?_
  wp_walk using a3Y hl
  refine b0F (a1J c3) ?_
  wp_walk using a3Y hl
  exact⟨_,rfl,h⟩
section
variable{X:Cx}
def rRepA:R2:=fun x y H Q=> ∃a xs k,x= .ref a/\y= .int ((k+1:Nat):Int)/\H a=some (.tup xs)/\k<=1000/\xs.length<=1000/\ ∀p H',Same H H'->H' p=some (.tup (List.replicate (k+1) xs).flatten)->Q (.ref p) H'
theorem d5n:OpR X (binaryOp .Mult) rRepA:=by
 intro za s σ H x y v u Q I rx ry h;obtain⟨a,xs,k,rfl,rfl,ha,hk,hx,q⟩:=h;cases rx;obtain⟨t,rfl⟩:=ry;obtain⟨its,r1,p1,_⟩:=I.tuple (SqT.of ha);have l1:=r1.length;obtain⟨⟨c1,d1,k1,s1⟩,o1,ec,n,ed⟩:=id p1;simp only at ec ed;subst ec ed;have c0: ¬(decide (((k+1:Nat):Int)< -(2 ^ 63)) || decide (((k+1:Nat):Int)≥2 ^ 63))=true:=by
  simp only[Bool.or_eq_true,decide_eq_true_eq];lia
 have hz:(k+1) * its.length<=1001 * 1000:=Nat.mul_le_mul (by lia) (by lia);refine wpAny_binaryOp_repeat_ref (T:="tuple") (U:="int") (by decide) ⟨_,o1,rfl⟩ (fun s'=>b0N s' _ t) b2y F.fills_int_mul a9G c3l F.slot_int_index.lookup
  (a7I a9G (b0N s _ t) F.entry_int_rmul (F.args_int_rmul_2 _ _) (d1f _ t a its.toArray n d1 s1) ⟨o1,rfl,⟨_,o1,rfl⟩,?_⟩)
 by_cases hc:(its.toArray.isEmpty || ((k+1:Nat):Int)==1)=true
 ·refine a7I F.slot_tuple_mul ⟨_,o1,rfl⟩ F.entry_tuple_mul (F.args_tuple_mul_2 _ _) (d1g a its.toArray n d1 s1 _ t c0 hc) ⟨o1,⟨.ref a,H,I,rfl,q a H (Same.refl H) ?_⟩⟩;have e:(List.replicate (k+1) xs).flatten=xs:=by
   rcases Bool.or_eq_true_iff.mp hc with z|z
   ·have e0:its=[]:=by simpa using z
    have e1:xs=[]:=r1.nil_iff.mp e0;rw[e1];simp
   ·have e0:k=0:=by
     have:=eq_of_beq z;lia
    subst e0;simp
  rw[e];exact ha
 ·have hne:its≠[]:=fun z=>hc (by rw[z];rfl);have f0: ∀m:Nat,List.foldl (fun x1 x2=>x1++x2) #[] (List.replicate m its.toArray)=(List.replicate m its).flatten.toArray:=fun m=>by
   have:=b1a its m [];rw[a9F]at this;exact this
  have hl:((List.replicate (k+1) its).flatten).length=(k+1) * its.length:=b8u its (k+1);refine a7I F.slot_tuple_mul ⟨_,o1,rfl⟩ F.entry_tuple_mul (F.args_tuple_mul_2 _ _) (d1h a its.toArray n d1 s1 _ t c0 hc (by simp only[Bool.or_eq_true,decide_eq_true_eq];intro z;rcases z with z|z;lia;exact hne (by simpa using z)) ?_ ?_ ?_) ⟨o1,?_⟩
  ·rw[a0V];have:((its.length:Int) * ((k+1:Nat):Int))=(((k+1) * its.length:Nat):Int):=by rw[Int.natCast_mul,Int.mul_comm]
   lia
  ·unfold Builtin.Tuple.tupleTooMany;rw[decide_eq_true_eq,a0V,a0Y];have:((its.length:Int) * ((k+1:Nat):Int))=(((k+1) * its.length:Nat):Int):=by rw[Int.natCast_mul,Int.mul_comm]
   lia
  ·rw[a1U,f0,a0V,hl,a0Y];lia
  ·rw[a1U,f0];refine⟨.ref s.heap.objs.size,_,I.laid (t':=s.toks) (o:= .tup (List.replicate (k+1) xs).flatten) (fun b ob z=>a0H _ z) (a0K _) ?_,rfl,q _ _ (a0c (I.hok.fresh (a0K _)) _) a0a⟩;exact⟨by rw[b8u,a0Y,l1];lia,_,r1.rep (k+1),TupD.new _ _⟩
end
end L2
namespace L2
open PySem PySem.Spec PyProof.Rows
section
variable{X:Cx}
def rAll(K:W.Frag):List V->Hp->VK->Prop:=fun xs H Q=> ∃(p:Ad) (bs:List Bool),xs=[.ref p]/\SqL K H p (bs.map V.bl)/\Q (.bl (bs.all id)) H
theorem c6l(hc:X.calm=true):a7r X (.builtin "all") (rAll X.K):=by
 intro za s σ H xs us Q I r h;obtain⟨p,bs,rfl,hp,q⟩:=h;obtain⟨u,rfl,ru⟩:=a6y r;cases ru;obtain⟨its,rv,pl,_⟩:=I.list hp;have hl:=pl.isList;have hlt:p<s.heap.objs.size:=pl.lt;have hlen:its.length=bs.length:=by rw[<-rv.length,a0C]
 refine call_all_walk (a8A hl ⟨_,_,_,_,_,_,fun i=>bs.getD i false,rfl,Walks.list (A:=X.A.in1) (I.ok.hd hc) _ p (a1M hlt) its.toArray,⟨⟨_,a0X _ rfl,rfl,rfl⟩,hl.push _⟩,?_,fun h' tk hk=>?_⟩)
 ·intro i v s2 Q2 E2 hv hq;have hv':its[i]? =some v:=by simpa using hv
  have hi:i<bs.length:=by rw[<-hlen];exact(a0B.mp hv').1
  obtain⟨u2,e1,e2⟩:=rv.get (i:=i) (x:= .bl (bs.getD i false)) (by rw[a0F,a0A hi,a0I,a0A hi];rfl);rw[hv']at e1;cases e1;cases(show v=Value.bool _ from e2);exact a4U hq
 ·have e:(List.range its.toArray.size).all (fun i=>bs.getD i false)=bs.all id:=by
   rw[a0V,hlen];have:bs=(List.range bs.length).map fun i=>bs.getD i false:=by
    refine a9Z (by simp) fun i h1 h2=>?_;simp[List.getD_eq_getElem?_getD,h1]
   conv=>rhs;rw[this,List.all_map]
   rfl
  rw[e];exact⟨.bl (bs.all id),H,I.kept fun b o z=>hk b o (by simp only[List.mem_singleton];exact Nat.ne_of_lt (Heap.lt_size z)) (Heap.get?_push_of_some _ z),rfl,q⟩
end
structure PL(X:Cx)(es:List Expr)(t:TA):Prop where
 pa:PA X es t
section
variable{X:Cx}{e a b:Expr}{es:List Expr}{te ta tb:TE}{t:TA}{pos:Pos}
theorem a0o:PL X [] c0r:=⟨a0i⟩
theorem a0b(ha:PE X e te)(hr:PL X es t)(hs:starEach (e::es) X.env=(false,eval e X.env)::starEach es X.env):PL X (e::es) (a8v te t):=⟨a0g ha hr.pa hs⟩
theorem a0v(h:PL X es t):PA X es t:=h.pa
end
def d8k(op:CmpOp)(A:Ar)(s:Sh)(x y:Vl)(r:Bool):Prop:=
 ∀(P:Pg) (w:World) (E:VP) (Q:VP),Q (.bool r) s->wpAny (model P w) A (richCompare op x y) Q E s
inductive Cmp (op:CmpOp) (A:Ar) (s:Sh):List (Vl×Vl)->Option Bool->Prop where
 |nil:Cmp op A s [] none
 |eq {x y zs o}:SeqAt.EqAt A s x y true->Cmp op A s zs o->Cmp op A s ((x,y)::zs) o
 |ne {x y zs r}:SeqAt.EqAt A s x y false->d8k op A s x y r->Cmp op A s ((x,y)::zs) (some r)
def SeqObj(c:String)(h:Heap)(a:Ad)(its:Vs):Prop:= ∃n dx sl,h.get? a=some ⟨.type c,dx,.seq its.toArray n,sl⟩
section
variable{P:Pg}{w:World}{A:Ar}{E:VP}{s:Sh}{op:CmpOp}
theorem d1i{β:Type}{f:Vl×Vl->β->Sem (ForInStep β)}{b0:β}{Q:β->Sh->Prop}{zs:List (Vl×Vl)}{o:Option Bool}(h:Cmp op A s zs o)
  (yes: ∀x y Q,SeqAt.EqAt A s x y true->Q (.yield b0) s->wpAny (model P w) A (f (x,y) b0) Q E s)
  (no: ∀x y r,SeqAt.EqAt A s x y false->d8k op A s x y r->o=some r->wpAny (model P w) A (f (x,y) b0) (fun t s'=>match t with| .yield _=>False| .done b=>Q b s') E s)
  (fin:o=none->Q b0 s):wpAny (model P w) A (forIn zs b0 f) Q E s:=by
 refine wpAny_forIn_list f (fun rest b s'=>b=b0/\s'=s/\Cmp op A s rest o) Q (fun z rest b s' q=>?_) (fun b s' q=>?_) zs b0 ⟨rfl,rfl,h⟩
 ·obtain⟨rfl,rfl,c⟩:=q;cases c with
  |eq e c=>exact yes _ _ _ e ⟨rfl,rfl,c⟩
  |ne e c=>
   refine a3Q (no _ _ _ e c rfl) (fun t s2 z=>?_) fun _ _ z=>z;cases t with
   |yield _=>exact z.elim
   |done _=>exact z
 ·obtain⟨rfl,rfl,c⟩:=q;cases c;exact fin rfl
end
section
open AutoSeq1
open MeetsSeq MeetsSeq2 MeetsSeq3 SeqRoads2 SeqAt
variable{l b:Ad}{xs ys:Vs}
theorem d8l:Meets (Builtin.«tuple.__lt__» ⟨[.ref l,.ref b],[]⟩) (fun A R s=>SeqObj "tuple" s.heap l xs/\SeqObj "tuple" s.heap b ys/\ ∃o,Cmp .Lt A.in1 s (xs.zip ys) o/\R (.ok (.ret (.bool (o.getD (decide (xs.length<ys.length)))))) s):=by
 refine .of_wp fun P w A R ⟨h,gn,dr,k,os⟩ ⟨⟨n,dx,sl,e1⟩,⟨m,dy,tl,e2⟩,o,c,q⟩=>?_;have sub:=AutoSeq1.sub_tuple_tuple
 wp_walk using a3Y e1,a3Y e2
 refine d1i c (fun x y Q e z=>?_) (fun x y r e rc z=>?_) (fun z=>?_)
 ·refine a0D (e P w _ _ ?_)
  wp_walk
  exact z
 ·refine a0D (e P w _ _ ?_);generalize g:richCompare .Lt x y=ask
  wp_walk
  subst g;refine rc P w _ _ ?_
  wp_walk
  subst z;exact⟨_,rfl,q⟩
 ·subst z
  wp_walk
  exact⟨_,rfl,by simpa[Builtin.Tuple.tupleCompareSizes]using q⟩
end
def a9t:Nsq->List Nat->Option Bool
 |a::xs,b::ys=>if a=b then a9t xs ys else some (decide (a<b))
 |_,_=>none
def ltl(xs ys:Nsq):Bool:=(a9t xs ys).getD (decide (xs.length<ys.length))
theorem a6c(xs:Nsq):ltl xs xs=false:=by
 have no:a9t xs xs=none:=by
  induction xs with
  |nil=>rfl
  |cons a xs ih=>rw[a9t,wB rfl,ih]
 unfold ltl;rw[no];simp
section
variable{A:Ar}{s:Sh}{l b:Ad}{xs ys:Vs}{o:Option Bool}
theorem d1j{i j:Int}{t u:Tok}:d8k .Lt A s (.int i t) (.int j u) (decide (i<j)):=fun P w E Q q=>show wpAny _ _ (compareOp .Lt _ _) _ _ _ from PyProof.Rows.lt_int q
theorem eqAt_int{i j:Int}{t u:Tok}:SeqAt.EqAt A s (.int i t) (.int j u) (decide (i=j)):=by
 have z:=c0u (A:=A) (s:=s) (y:= .int i) (x:= .int j) (u:= .int i t) (v:= .int j u) ⟨t,rfl⟩ ⟨u,rfl⟩ rfl rfl;have e:eqV (.int i) (.int j)=decide (i=j):=by
  show(i==j)=_;by_cases h:i=j<;>simp[h]
 rwa[e]at z
theorem c1e{op:CmpOp}{F:Bool->Bool}(rc: ∀(i j:Nat) (t u:Tok),i≠j->d8k op A s (.int (i:Int) t) (.int (j:Int) u) (F (decide (i<j)))):
  ∀{ns ms:Nsq} {xs ys:Vs},Vals (ns.map nv) xs->Vals (ms.map nv) ys->Cmp op A s (xs.zip ys) ((a9t ns ms).map F)
 | [],ms,_,_,.nil,_=>by rw[List.zip_nil_left,show a9t [] ms=none by cases ms<;>rfl];exact .nil
 |n::ns,[],_,_,.cons _ _,.nil=>by rw[List.zip_nil_right];exact .nil
 | n::ns,m::ms,_,_,.cons ⟨t,e1⟩ r1,.cons ⟨u,e2⟩ r2=>by
  subst e1 e2;have z:=eqAt_int (A:=A) (s:=s) (i:=(n:Int)) (j:=(m:Int)) (t:=t) (u:=u);by_cases e:n=m
  ·rw[a1A (by lia)]at z;rw[a9t,wB e];exact .eq z (c1e rc r1 r2)
  ·rw[a1J (by lia)]at z;rw[a9t,wA e];exact .ne z (rc n m t u e)
theorem d8m{ns ms:Nsq}(h1:Vals (ns.map nv) xs)(h2:Vals (ms.map nv) ys):Cmp .Lt A s (xs.zip ys) (a9t ns ms):=by
 have z:=c1e (A:=A) (s:=s) (op:= .Lt) (F:=fun b=>b) (fun i j t u _=>by
  have e:decide ((i:Int)<(j:Int))=decide (i<j):=by simp
  exact e▸d1j) h1 h2
 rwa[Option.map_id']at z
theorem c3m(h:s.heap.IsTuple l xs.toArray):SeqObj "tuple" s.heap l xs:=by
 obtain⟨⟨c,dx,da,sl⟩,e,hc,n,hd⟩:=h;cases hc;cases hd;exact⟨n,dx,sl,e⟩
theorem SeqObj.ty{c:String}(h:SeqObj c s.heap l xs):s.TypeIs (.ref l) c:=let⟨_,_,_,e⟩:=h;⟨_,e,rfl⟩
theorem d1k(h1:SeqObj "tuple" s.heap l xs)(h2:SeqObj "tuple" s.heap b ys)(hu:A.units<cLine)(c:Cmp .Lt A.in1 s (xs.zip ys) o):d8k .Lt A s (.ref l) (.ref b) (o.getD (decide (xs.length<ys.length))):=fun P w E Q q=>
 richCompare_meets_room (op:= .Lt) h1.ty h2.ty F.slot_tuple_lt F.entry_tuple_lt (F.args_tuple_lt_2 _ _) d8l ⟨h1,h2,o,c,(fun z=>nomatch z),q⟩ hu
end
section
variable{X:Cx}
def plt(i:Int)(ps:Nsq)(j:Int)(qs:Nsq):Bool:=if i=j then ltl ps qs else decide (i<j)
end
def a1b(m:Nat):Nsq:=(List.range 5).filter fun i=>m.testBit i
def a9u(led:Bool)(xs:Nsq):SetTable:={mask:=if xs.length=5 then 31 else 7,place:=xs.toArray,dummies:= #[],finger:=0,led,moves:=if xs.length=5 then 1 else 0,plain:=true}
def b1p(xs:Nsq)(k:Nat):Nat:=(xs.filter (· <k)).length
def c3n(led:Bool)(m k:Nat):SetTable:={a9u led (a1b m)with place:=(a1b (m |||2 ^ k)).toArray}
theorem a6d: ∀(led:Bool) (m:Fin 32),(a9u led (a1b m)).fits (a1b m).length=true:=by decide+kernel
theorem c6m: ∀(led:Bool) (m:Fin 32) (k:Fin 5),(m:Nat).testBit k=false->(a9u led (a1b m)).freeSlot ((k:Nat):Int)=some ((k:Nat),false):=by decide+kernel
theorem d1l: ∀(led:Bool) (m:Fin 32) (k:Fin 5),(m:Nat).testBit k=false->(a9u led (a1b m)).put k=(c3n led m k,b1p (a1b m) k)/\(c3n led m k).fits ((a1b m).length+1)=true:=by decide+kernel
theorem d1m: ∀(m:Fin 32) (k:Fin 5),(m:Nat).testBit k=false->a1b (m |||2 ^ (k:Nat))=(a1b m).take (b1p (a1b m) k)++(k:Nat)::(a1b m).drop (b1p (a1b m) k):=by decide+kernel
theorem d1n: ∀(m:Fin 32) (k:Fin 5),(k:Nat)∈a1b m->(m |||2 ^ (k:Nat):Nat)=m:=by decide+kernel
theorem d1o: ∀(m:Fin 32) (k:Fin 5),(k:Nat)∉a1b m->(m:Nat).testBit k=false:=by decide+kernel
theorem c6n: ∀(m:Fin 32) (k:Fin 5),(m |||2 ^ (k:Nat):Nat)<32:=by decide+kernel
theorem a7v: ∀m:Fin 32,(a1b m).length<=5:=by decide+kernel
theorem c3o: ∀(led:Bool) (m:Fin 32) (k:Fin 5),(m:Nat).testBit k=false->(a1b m).length≠4->c3n led m k=a9u led (a1b (m |||2 ^ (k:Nat)))/\(c3n led m k).tooFull=false:=by decide+kernel
theorem d1p: ∀(led:Bool) (m:Fin 32) (k:Fin 5),(m:Nat).testBit k=false->(a1b m).length=4->(c3n led m k).tooFull=true/\
  (c3n led m k).relaid #[0,1,2,3,4] (SetTable.grown 5)=some (a9u led (a1b (m |||2 ^ (k:Nat))),#[0,1,2,3,4])/\a1b (m |||2 ^ (k:Nat))=[0,1,2,3,4]/\(a9u led (a1b (m |||2 ^ (k:Nat)))).fits 5=true:=by decide+kernel
theorem d5o: ∀k:Fin 5,hashInt ((k:Nat):Int)=((k:Nat):Int):=by decide+kernel
def Ents:Nsq->List (Int×Vl)->Prop:=Paired fun n e=>e.1=(n:Int)/\ ∃t,e.2= .int (n:Int) t
def a6e(es:List (Int×Vl))(ep:Nat)(t:SetTable):Obj:={cls:= .type "set",data:= .set es.toArray ep t}
def IsSet5(h:Heap)(a:Ad)(led:Bool)(m:Nat):Prop:=m<32/\ ∃es ep,h.get? a=some (a6e es ep (a9u led (a1b m)))/\Ents (a1b m) es
theorem Ents.take: ∀{ns:Nsq} {es:List (Int×Vl)} (p:Nat),Ents ns es->Ents (ns.take p) (es.take p)
 |_,_,0,_=> .nil
 |_,_,_+1,.nil=> .nil
 |_,_,p+1,.cons r t=> .cons r (Ents.take p t)
theorem Ents.drop: ∀{ns:Nsq} {es:List (Int×Vl)} (p:Nat),Ents ns es->Ents (ns.drop p) (es.drop p)
 |_,_,0,r=>r
 |_,_,_+1,.nil=> .nil
 |_,_,p+1,.cons _ t=>Ents.drop p t
theorem Ents.app: ∀{ns ms:Nsq} {es fs:List (Int×Vl)},Ents ns es->Ents ms fs->Ents (ns++ms) (es++fs)
 |_,_,_,_,.nil,r=>r
 |_,_,_,_,.cons q t,r=> .cons q (Ents.app t r)
theorem Ents.len{ns:Nsq}{es:List (Int×Vl)}(h:Ents ns es):es.length=ns.length:=(a4Z h).symm
theorem Ents.keys: ∀{ns:Nsq} {es:List (Int×Vl)},Ents ns es->es.map (·.1)=ns.map fun(n:Nat)=>(n:Int)
 |_,_,.nil=>rfl
 |_,_,.cons q t=>by rw[a2K,a2K,q.1,Ents.keys t]
theorem Ents.mem: ∀{ns:Nsq} {es:List (Int×Vl)} {e:Int×Vl},Ents ns es->e∈es-> ∃n∈ns,e.1=(n:Int)/\ ∃t,e.2= .int (n:Int) t
 | _,_,_,.cons q t,h=>by
  rcases a1L.mp h with z|z
  ·subst z;exact⟨_,a0T,q⟩
  ·obtain⟨n,h1,h2⟩:=Ents.mem t z;exact⟨n,a1D _ h1,h2⟩
theorem Ents.has: ∀{ns:Nsq} {es:List (Int×Vl)} {n:Nat},Ents ns es->n∈ns-> ∃e∈es,∃t,e.2= .int (n:Int) t
 | _,_,_,.cons q t,h=>by
  rcases a1L.mp h with z|z
  ·subst z;exact⟨_,a0T,q.2⟩
  ·obtain⟨e,h1,h2⟩:=Ents.has t z;exact⟨e,a1D _ h1,h2⟩
theorem Ents.elems{P:Pg}{w:World}{m:Fin 32}{es:List (Int×Vl)}(h:Ents (a1b m) es):ElemsOf (intKind P w) es:=fun e he=>by
 obtain⟨n,hn,e1,t,e2⟩:=h.mem he;have hn5:n<5:=a1Q.mp (a0S.mp hn).1;exact⟨⟨(n:Int),by rw[e2];exact b0O _ _ _ _,by rw[e1];exact(d5o ⟨n,hn5⟩).symm⟩,by rw[e2];rfl⟩
theorem d1q{α:Type}(xs:List α)(p:Nat)(x:α):(SetTable.insertAt xs.toArray p x)=(xs.take p++x::xs.drop p).toArray:=by
 unfold SetTable.insertAt;apply Array.ext';simp;exact a4Y (by simp)
section
variable{P:Pg}{w:World}{A:Ar}{E:VP}{s:Sh}{a:Ad}{led:Bool}{m k:Nat}{t:Tok}
theorem c6o{h:Heap}{es fs:List (Int×Vl)}{ep:Nat}{t u:SetTable}(e:h.get? a=some (a6e es ep t)):(h.update a (Obj.putSet fs.toArray u)).get? a=some (a6e fs (ep+1) u):=a4I _ e rfl
theorem c6p{α:Type}{fs:List α}{n:Nat}(h:fs.length=n+1): ∃a r,fs=a::r/\r.length=n:=by
 cases fs with
 |nil=>cases h
 |cons a r=>exact⟨a,r,rfl,Nat.succ.inj h⟩
theorem pick5{α:Type}{fs:List α}(h:fs.length=5):(#[0,1,2,3,4]:Array Nat).filterMap (fs.toArray[·]?)=fs.toArray:=by
 obtain⟨_,_,rfl,h1⟩:=c6p h;obtain⟨_,_,rfl,h2⟩:=c6p h1;obtain⟨_,_,rfl,h3⟩:=c6p h2;obtain⟨_,_,rfl,h4⟩:=c6p h3;obtain⟨_,_,rfl,h5⟩:=c6p h4;cases a2V.mp h5;rfl
theorem d1r{Q:Sh->Prop}(hk:k<5)(hS:IsSet5 s.heap a led m)(q: ∀h',IsSet5 h' a led (m |||2 ^ k)->Heap.SameBut a s.heap h'->Q {s with heap:=h'}):
  wpAny (model P w) A (setAddHashed a (.int (k:Int) t) (k:Int)) (fun _ s'=>Q s') E s:=by
 obtain⟨hm,es,ep,e,en⟩:=hS;have ln:=en.len;have fit:=a6d led ⟨m,hm⟩;have el:ElemsOf (intKind P w) es.toArray.toList:=Ents.elems (m:=⟨m,hm⟩) en;have m5:(a1b m).length<=5:=a7v ⟨m,hm⟩;have fit':(a9u led (a1b m)).fits es.toArray.size=true:=by rw[a0V,ln];exact fit
 have sc:byScan (.int (k:Int) t) es.toArray=true:=by
  unfold byScan;have e3:es.toArray.all (·.2.scannable)=true:=by
   rw[Array.all_eq_true_iff_forall_mem];exact fun x hx=>(el x (by simpa using hx)).2
  rw[e3];have e4:decide (es.toArray.size<scanBound)=true:=a1A (by rw[a0V,ln];unfold scanBound;lia);rw[e4];rfl
 have hh:(intKind P w).hash (k:Int)=(k:Int):=d5o ⟨k,hk⟩;unfold setAddHashed setAddHashedIn;refine a2T (a0D (a4W e rfl fit' ?_));dsimp only;rw[sc,wB rfl];unfold setAddByScan;refine a0D (a0D (a6F (a0D ?_)));have scan: ∀{R:ScanMet->Sh->Prop},R (match es.toArray.toList.findIdx? (fun e=>(intKind P w).is (k:Int) e.2)with|some j=> .found (0+j)|none=> .absent) s->wpAny (model P w) A (setScan a (.int (k:Int) t) (k:Int) true es.toArray) R E s:=fun z=>by
  have y:=wpAny_setScan_of (prog:=P) (w:=w) (A:=A) (E:=E) (knd:=intKind P w) (k:=(k:Int)) (x:= .int (k:Int) t) (adding:=true) (b0O _ _ _ _) e rfl fit' el z;rw[hh]at y;exact y
 refine scan ?_;rw[a7F];by_cases hin:k∈a1b m
 ·obtain⟨x,hx,tx,ex⟩:=en.has hin;cases hf:es.findIdx? fun e=>(intKind P w).is (k:Int) e.2 with
  |none=>
   have z:=List.findIdx?_eq_none_iff.mp hf x hx;rw[ex,b0O]at z;cases z
  |some j=>
   refine a0G (a0G ?_);have z:=q s.heap (by rw[d1n ⟨m,hm⟩ ⟨k,hk⟩ hin];exact⟨hm,es,ep,e,en⟩) (Heap.SameBut.refl a s.heap);cases s;exact z
 ·have nb:=d1o ⟨m,hm⟩ ⟨k,hk⟩ hin;cases hf:es.findIdx? fun e=>(intKind P w).is (k:Int) e.2 with
  |some j=>
   obtain⟨hj,hpj,_⟩:=List.findIdx?_eq_some_iff_getElem.mp hf;obtain⟨n,hn,_,tn,e2⟩:=en.mem (a2Y hj);rw[e2]at hpj;have z:(k:Int)=(n:Int):=(intKind P w).inj _ _ _ hpj (b0O _ _ _ tn);have z':k=n:=by lia
   exact wC (z'▸hn) hin
  | none=>
   obtain⟨pu,pf⟩:=d1l led ⟨m,hm⟩ ⟨k,hk⟩ nb;have sa:=d1m ⟨m,hm⟩ ⟨k,hk⟩ nb;have lt32:=c6n ⟨m,hm⟩ ⟨k,hk⟩;dsimp only at pu pf sa lt32;have en':Ents (a1b (m |||2 ^ k)) (es.take (b1p (a1b m) k)++((k:Int),Value.int (k:Int) t)::es.drop (b1p (a1b m) k)):=by
    rw[sa];exact(en.take _).app (.cons ⟨rfl,t,rfl⟩ (en.drop _))
   have lay:layNew (a9u led (a1b m)) es.toArray (k:Int) (.int (k:Int) t)=((es.take (b1p (a1b m) k)++((k:Int),Value.int (k:Int) t)::es.drop (b1p (a1b m) k)).toArray,c3n led m k,false,false):=by
    unfold layNew;rw[c6m led ⟨m,hm⟩ ⟨k,hk⟩ nb];dsimp only;rw[pu];dsimp only;rw[d1q];have sz:(es.take (b1p (a1b m) k)++((k:Int),Value.int (k:Int) t)::es.drop (b1p (a1b m) k)).toArray.size=(a1b m).length+1:=by
     rw[a0V,a0L,a3E,a0W,a3N,ln];lia
    rw[sz];unfold SetTable.orStandIn;rw[pf];rfl
   generalize es.take (b1p (a1b m) k)++((k:Int),Value.int (k:Int) t)::es.drop (b1p (a1b m) k)=fs at en' lay;have lf:=en'.len;have f5:fs.length<=5:=by rw[lf];exact a7v ⟨_,lt32⟩
   dsimp only;rw[lay];dsimp only;refine a0D (show wpAny _ _ (pure ()) _ _ _ from a0G ?_);refine a0D (show wpAny _ _ (pure true) _ _ _ from a0G ?_);refine a0D (wpAny_storeSet_of e rfl ?_ (by rw[a0V,a0Y];lia));have e1:=c6o (h:=s.heap) (fs:=fs) (u:=c3n led m k) e;have same1:Heap.SameBut a s.heap (s.heap.update a (Obj.putSet fs.toArray (c3n led m k))):=Heap.SameBut.update ..;by_cases h4:(a1b m).length=4
   ·obtain⟨tf,rl,s5,ff⟩:=d1p led ⟨m,hm⟩ ⟨k,hk⟩ nb h4;dsimp only at tf rl s5 ff;have l5:fs.length=5:=by rw[lf,s5];rfl
    have ks:fs.toArray.map (·.1)= #[0,1,2,3,4]:=by
     rw[List.map_toArray,en'.keys,s5];rfl
    have pick:(#[0,1,2,3,4]:Array Nat).filterMap (fs.toArray[·]?)=fs.toArray:=pick5 l5;have rel:relayAll (c3n led m k) fs.toArray (SetTable.grown fs.toArray.size)=(fs.toArray,a9u led (a1b (m |||2 ^ k)),false):=by
     unfold relayAll;rw[ks,a0V,l5,rl];dsimp only;rw[pick,a0V,l5,ff,Bool.and_true,wB (by decide+kernel)]
    show wpAny _ _ (if(!false&&(c3n led m k).tooFull)=true then _ else _) _ _ _;rw[tf,wB (by decide)];simp only[if_true];rw[rel];dsimp only;refine a0D (show wpAny _ _ (pure ()) _ _ _ from a0G ?_);refine a0D (wpAny_storeSet_of e1 rfl ?_ (by rw[a0V,a0Y];lia));have e2:=c6o (fs:=fs) (u:=a9u led (a1b (m |||2 ^ k))) e1;have same2:=Heap.SameBut.trans same1 (Heap.SameBut.update (s.heap.update a (Obj.putSet fs.toArray (c3n led m k))) a (Obj.putSet fs.toArray (a9u led (a1b (m |||2 ^ k)))));exact a0G (a0G (q _ ⟨lt32,fs,ep+1+1,e2,en'⟩ same2))
   ·obtain⟨te,tf⟩:=c3o led ⟨m,hm⟩ ⟨k,hk⟩ nb h4;dsimp only at te tf;show wpAny _ _ (if(!false&&(c3n led m k).tooFull)=true then _ else _) _ _ _
    rw[tf,wA (by decide)];refine a0G (a0G (q _ ⟨lt32,fs,ep+1,?_,en'⟩ same1));rw[<-te];exact e1
end
def b1q(m:Nat)(ns:Nsq):Nat:=ns.foldl (fun m n=>m |||2 ^ n) m
section
variable{P:Pg}{w:World}{A:Ar}{E:VP}{S it l:Ad}{led:Bool}{ns:Nsq}{vs:Vs}
theorem b6z{R:Result->Sh->Prop}(hh:A.handled=none)(d1:S≠it)(d2:S≠l)(d3:it≠l)(hv:Vals (ns.map nv) vs)(h5: ∀n∈ns,n<5):
  ∀(rest:Nsq) (i m:Nat) (s:Sh),ns.drop i=rest->s.heap.IsListIter it l i->s.heap.IsList l vs.toArray->IsSet5 s.heap S led m->
   (∀h' tk,IsSet5 h' S led (b1q m rest)->(∀b o,b≠S->b≠it->s.heap.get? b=some o->h'.get? b=some o)->R (.ok (.ret .none)) {s with heap:=h',toks:=tk})->
   codeAny (model P w) A (.builtin "set.update.loop" ⟨[.ref S,.ref it],[]⟩) R s
 | [],i,m,s,hd,hi,hl,hS,q=>by
  have hlen:vs.length<=i:=by
   have h1:vs.length=ns.length:=by simpa using hv.length.symm
   have h2:=List.drop_eq_nil_iff.mp hd;lia
  refine a5N F.entry_set_update_loop ?_;rw[a4Q a7Q _];show wpAny _ A.in1 (pyNext (.ref it) >>= _) _ _ s;refine a0D (wpAny_pyNext_list_end (by simpa using hh) hi hl (by simp;lia) fun h' keep=>?_);refine a0G (q h' s.toks ?_ fun b o _ h2 e=>keep b o h2 e);obtain⟨hm,es,ep,e,en⟩:=hS;exact⟨hm,es,ep,keep _ _ d1 e,en⟩
 | n::rest,i,m,s,hd,hi,hl,hS,q=>by
  have at1:ns[i]? =some n:=by rw[<-List.head?_drop,hd];rfl
  have next:ns.drop (i+1)=rest:=by rw[<-List.tail_drop,hd];rfl
  have n5:=h5 n (a0E at1);obtain⟨u,hu,t,rfl⟩:=hv.get (i:=i) (x:=nv n) (by rw[a0F,at1];rfl);refine a5N F.entry_set_update_loop ?_;rw[a4Q a7Q _];show wpAny _ A.in1 (pyNext (.ref it) >>= _) _ _ s;refine a0D (wpAny_pyNext_list_item hi hl (x:= .int (n:Int) t) (by simpa using hu) fun h1 hi1 sb1=>?_);show wpAny _ A.in1 (holding [Value.int (n:Int) t] (setAdd S (.int (n:Int) t)) >>= _) _ _ _;refine a0D (a2T ?_);unfold setAdd;refine a2T (a0D ((intKind P w).pyHash (k:=(n:Int)) (b0O _ _ _ _) ?_));rw[show(intKind P w).hash (n:Int)=(n:Int)from d5o ⟨n,n5⟩];have hS1:IsSet5 h1 S led m:=by
   obtain⟨hm,es,ep,e,en⟩:=hS;exact⟨hm,es,ep,sb1.extBut _ _ d1 e,en⟩
  refine d1r n5 hS1 fun h2 hS2 sb2=>?_;refine a0G ⟨a7P a7Q _,b6z hh d1 d2 d3 hv h5 rest (i+1) (m |||2 ^ n) _ next (hi1.extBut sb2.extBut d1.symm) ((hl.extBut sb1.extBut d3.symm).extBut sb2.extBut d2.symm) hS2 fun h' tk hS' keep=>?_⟩;exact q h' tk hS' fun b o b1 b2 e=>keep b o b1 b2 (sb2.extBut _ _ b1 (sb1.extBut _ _ b2 e))
theorem d1s{s:Sh}{x:Vl}{Q:VP}(q:Q (.ref s.heap.objs.size) {s with heap:=s.heap.push (a6e [] 0 (a9u (!w.params.followText "set-order") []))}):
  codeAny (model P w) A (.call (.builtin "set.__new__") ⟨[.type "set",x],[]⟩) (wants Q E) s:=by
 refine codeAny_of_tree ?_;show wpAny _ A.in1 (checkBuiltinCall "set.__new__" ⟨[.type "set",x],[]⟩ >>= fun _=>again (.builtin "set.__new__" ⟨[.type "set",x],[]⟩)) _ _ s;refine a0D (b0Q (F.newCall_set_1 x) (a0G ⟨a7P F.plain_set_new _,a5N F.entry_set_new ?_⟩));rw[a4Q F.plain_set_new _];have sub:=sub_set_self;unfold Builtin.«set.__new__» Builtin.Frozenset.newClass
 wp_walk
 refine a7D (a0G ?_);dsimp only;simp only[newObj];refine a0D (wpAny_alloc (a0G (a0G ?_)));exact q
abbrev d8n(led:Bool):Obj:={cls:= .type "set",dict:=none,data:= .set #[] 0 (.fresh 0 0 led)}
set_option maxHeartbeats 4000000 in
theorem c6q{h:Heap}{gn:Array GenState}{dr:Drawn}{k:Nat}{os:OsState}{R:PySem.Fin->Sh->Prop}(hh:A.handled=none)(hl:h.IsList l vs.toArray)(hv:Vals (ns.map nv) vs)(h5: ∀n∈ns,n<5)
  (q: ∀h' tk,IsSet5 h' h.objs.size led (b1q 0 ns)->(∀b o,h.get? b=some o->h'.get? b=some o)->R (.done (.ret .none)) ⟨h',gn,dr,tk,os⟩):
  wpAny (model P w) A (Builtin.«set.__init__» ⟨[.ref h.objs.size,.ref l],[]⟩) R E ⟨h.push (d8n led),gn,dr,k,os⟩:=by
 obtain⟨⟨cl,dl,dat,sl⟩,e2,c2,n2,d2⟩:=id hl;simp only at c2 d2;subst c2 d2;have e3:(h.push (d8n led)).get? l=some ⟨.type "list",dl,.seq vs.toArray n2,sl⟩:=a0H _ e2;have e0:(h.push (d8n led)).get? h.objs.size=some {cls:= .type "set",dict:=none,data:= .set #[] 0 (.fresh 0 0 led)}:=a0X _ rfl;have s1:=F.sub_list_set;have s2:=F.sub_list_frozenset;have ne:(Value.type "list"==Value.type "dict")=false:=by decide
 unfold Builtin.«set.__init__» noKeywords Builtin.Frozenset.updateFrom;generalize g:pyIter=iter
 wp_walk
 subst g;have hl1:(h.push (d8n led)).IsList l vs.toArray:=hl.push _;refine a8A hl1 (a0D (wpAny_runValue ?_));have lt:l<h.objs.size:=a0U e2;have sz:(h.push (d8n led)).objs.size=h.objs.size+1:=a8G ..;refine b6z (vs:=vs) (led:=led) (by simpa using hh) (by rw[sz];exact Nat.ne_of_lt (Nat.lt_succ_self _)) (Nat.ne_of_gt lt) (by rw[sz];exact Nat.ne_of_gt (Nat.lt_succ_of_lt lt)) hv h5 ns 0 0 _ rfl ⟨_,Heap.get?_push_size _ rfl,rfl,rfl⟩ (hl1.push _) ⟨by decide,[],0,Heap.get?_push_of_some _ e0,.nil⟩ fun h' tk z1 z2=>?_;refine a0G (a0G (q h' tk z1 fun b o e=>?_));have bl:=a0U e;exact z2 b o (a1M bl) (by rw[sz];exact a1M (a5M bl)) (a0H _ (a0H _ e))
theorem c6r{s:Sh}{Q:VP}(hh:A.handled=none)(hl:s.heap.IsList l vs.toArray)(hv:Vals (ns.map nv) vs)(h5: ∀n∈ns,n<5)
  (q: ∀h' tk,IsSet5 h' s.heap.objs.size (!w.params.followText "set-order") (b1q 0 ns)->(∀b o,s.heap.get? b=some o->h'.get? b=some o)->Q (.ref s.heap.objs.size) {s with heap:=h',toks:=tk}):
  wpAny (model P w) A (call (.type "set") [.ref l]) Q E s:=by
 have lt:l<s.heap.objs.size:=let⟨_,e,_⟩:=hl;a0U e
 obtain⟨c,tl,mro⟩:=a6Q.mro;have made:=a6Q.made;have sub:=a6Q.sub;have noType:=a6Q.notType;have may:=a6Q.canCreate;have args:=F.typeCall_set_1 (.ref l);have look:=a6Q.init.lookup;have bnd:=a6Q.init.bind (.ref s.heap.objs.size);generalize eo:a6e [] 0 (a9u (!w.params.followText "set-order") [])=o0;have e0:(s.heap.push o0).get? s.heap.objs.size=some o0:=a0X _ (by rw[<-eo];rfl);have ty:Shared.TypeIs {s with heap:=s.heap.push o0} (.ref s.heap.objs.size) "set":=⟨_,e0,by rw[<-eo];rfl⟩;refine b0M (codeAny_of_tree (show wpAny _ _ (callAny (.type "set") _) _ _ _ from a0G ⟨Code.quiet_builtin _ (by decide+kernel),a5N F.entry_type_call ?_⟩));rw[Around.under_plain (weight_type_call_type "set" [.ref l] []) rfl]
 repeat (any_goals (first|assumption|wp_step))
 refine a5U (d1s (w:=w) (E:=E) (Q:=fun v s1=>v= .ref s.heap.objs.size/\s1={s with heap:=s.heap.push o0}) (by rw[eo];exact⟨rfl,rfl⟩)) fun r s1 z=>?_;cases r with
 |error _=>exact z
 | ok f=>
  cases f<;>first|exact z.elim|skip
  obtain⟨e1,e2⟩:=z;subst e1 e2
  repeat (any_goals (first|assumption|wp_step))
  refine a5U (codeAny_call_builtin (R:=wants (fun v s2=>v= .none/\ ∃h' tk,s2={s with heap:=h',toks:=tk}/\IsSet5 h' s.heap.objs.size (!w.params.followText "set-order") (b1q 0 ns)/\ ∀b o,s.heap.get? b=some o->h'.get? b=some o) E)
   a6Q.init.plain F.entry_set_init (check_set_init_1 ty ?_)) fun r s2 z=>?_
  ·subst eo;exact c6q (A:=A.in1.in1) (by simpa using hh) hl hv h5 fun h' tk z1 z2=>⟨rfl,h',tk,rfl,z1,z2⟩
  ·cases r with
   |error _=>exact z
   |ok f=>
    cases f<;>first|exact z.elim|skip
    obtain⟨e1,h',tk,e2,z1,z2⟩:=z;subst e1 e2
    repeat (any_goals (first|assumption|wp_step))
    exact q h' tk z1 z2
end
theorem si_next:Slot "set_iterator" "__next__" "set_iterator.__next__":=Slot.of (owner:="set_iterator") (n:="__next__") (by rw[typeLookup_type,builtinLookup_eq_fast];kernel_rfl) (by decide+kernel) (by decide+kernel) (by decide+kernel) (by first|exact .inl (by decide+kernel)|exact .inr (by decide+kernel)) (by rw[isSubtype_type];kernel_rfl)
theorem c6s:Slot "set_iterator" "__iter__" "set_iterator.__iter__":=Slot.of (owner:="set_iterator") (n:="__iter__") (by rw[typeLookup_type,builtinLookup_eq_fast];kernel_rfl) (by decide+kernel) (by decide+kernel) (by decide+kernel) (by first|exact .inl (by decide+kernel)|exact .inr (by decide+kernel)) (by rw[isSubtype_type];kernel_rfl)
theorem b3o:entryFor table "set_iterator.__next__"=some Builtin.«set_iterator.__next__»:=entryFor_of_tree (by kernel_rfl)
theorem c3p:entryFor table "set_iterator.__iter__"=some Builtin.«dict_keyiterator.__iter__»:=entryFor_alias (id':="dict_keyiterator.__iter__") (by kernel_rfl) (by first|rfl|decide+kernel|(unfold String.splitOn;simp+decide [String.splitOnAux])) (by decide+kernel) (by kernel_rfl)
theorem c6t:entryFor table "set.__iter__"=some Builtin.«frozenset.__iter__»:=entryFor_alias (id':="frozenset.__iter__") (by kernel_rfl) (by first|rfl|decide+kernel|(unfold String.splitOn;simp+decide [String.splitOnAux])) (by decide+kernel) (by kernel_rfl)
theorem a9m(a:Vl):argsOk "set_iterator.__next__" ⟨[a],[]⟩:=by unfold argsOk;kernel_rfl
theorem b7a(a:Vl):argsOk "set_iterator.__iter__" ⟨[a],[]⟩:=by unfold argsOk;kernel_rfl
theorem c6u{α:Type}(f:Nat->Nat): ∀(fuel k:Nat) (left:List α) (out:Array α),left.length=fuel->(pickOrder.go f fuel k left out).toList.Perm (out.toList++left)
 |0,k,left,out,h=>by
  rw[List.eq_nil_of_length_eq_zero h];simp[pickOrder.go]
 | fuel+1,k,left,out,h=>by
  have lt:f k%left.length<left.length:=Nat.mod_lt _ (by lia);unfold pickOrder.go;rw[a0A lt];dsimp only;refine(c6u f fuel (k+1) (left.eraseIdx (f k%left.length)) (out.push left[f k%left.length]) (by rw[List.length_eraseIdx_of_lt lt];lia)).trans ?_;rw[a5O,a1G];refine a5C _ ?_;rw[List.eraseIdx_eq_take_drop_succ];have e:left=left.take (f k%left.length)++left[f k%left.length]::left.drop (f k%left.length+1):=by
   rw[<-a5G lt,a2W]
  have z:=(List.perm_middle (a:=left[f k%left.length]) (l₁:=left.take (f k%left.length)) (l₂:=left.drop (f k%left.length+1))).symm;rw[<-e]at z;exact z
def a9v(w:World)(a:Ad)(ep:Nat)(es:List (Int×Vl)):List (Int×Vl):=if w.params.followText "set-order" then(pickOrder (w.params.setOrder a ep) es.toArray).toList else es
theorem a8y(w:World)(a:Ad)(ep:Nat)(es:List (Int×Vl)):(a9v w a ep es).Perm es:=by
 unfold a9v;cases w.params.followText "set-order" with
 |true=>
  have z:=c6u (w.params.setOrder a ep) es.toArray.size 0 es.toArray.toList #[] (by simp);simpa[pickOrder]using z
 |false=>exact List.Perm.refl _
def a9w(byText:Bool)(xs:Nsq):Nat->Nat
 |0=>0
 |i+1=>if byText then 0 else xs.getD i 0+1
theorem d8o: ∀(m:Fin 32) (i:Fin 6),(i:Nat)<=(a1b m).length->SetTable.below (a1b m).toArray (a9w false (a1b m) i)=i:=by decide+kernel
def a7h(slot i n ep:Nat)(a:Ad):Obj:={cls:= .type "set_iterator",data:= .fields #[rawInt slot,rawInt i,.ref a,rawInt n,rawInt ep]}
section
variable{P:Pg}{w:World}{A:Ar}{E:VP}{s:Sh}{a it:Ad}{m ep i:Nat}{es:List (Int×Vl)}
theorem d8p{Q:Option (Vl×Nat)->Sh->Prop}(hm:m<32)(hS:s.heap.get? a=some (a6e es ep (a9u (!w.params.followText "set-order") (a1b m))))(en:Ents (a1b m) es)(hi:i<=(a1b m).length)
  (q:Q (((a9v w a ep es)[i]?).map fun e=>(e.2,a9w (w.params.followText "set-order") (a1b m) (i+1))) s):wpAny (model P w) A (setNext a (a9w (w.params.followText "set-order") (a1b m) i) i ep) Q E s:=by
 have ln:=en.len;have fit:(a9u (!w.params.followText "set-order") (a1b m)).fits es.toArray.size=true:=by rw[a0V,ln];exact a6d _ ⟨m,hm⟩
 have m5:(a1b m).length<=5:=a7v ⟨m,hm⟩;unfold setNext setsByText;refine a0D (a4W hS rfl fit ?_);refine a0D (a0D (a7D (a0G ?_)));show wpAny _ _ (if w.params.followText "set-order"=true then _ else _) _ _ _;unfold a9v at q;generalize hb:w.params.followText "set-order"=bt at q hS fit⊢;cases bt with
 |true=>
  rw[wB rfl];rw[wB rfl]at q;rw[wA (by simp)];unfold setWalk setsByText;refine a0D (a0D (a4W hS rfl fit (a0D (a0D (a7D (a0G ?_))))));show wpAny _ _ (if w.params.followText "set-order"=true then _ else _) _ _ _;rw[hb,wB rfl];refine a0D (a7D (a0G (a0G ?_)));rw[a2C]at q;cases i<;>exact q
 | false=>
  rw[wA (by decide)];rw[wA (by decide)]at q;rw[wA (by show ¬((!true&&_)=true);simp)];refine a0D ?_;show wpAny _ _ (if(!true&& !es.toArray.isEmpty)=true then _ else _) _ _ _;rw[wA (by simp)];refine a0G (a0G ?_);show Q (match es.toArray[SetTable.below (a1b m).toArray (a9w false (a1b m) i)]?,(a1b m).toArray[SetTable.below (a1b m).toArray (a9w false (a1b m) i)]? with|some (_,x),some j=>some (x,j+1)|_,_=>none) s;rw[d8o ⟨m,hm⟩ ⟨i,by lia⟩ hi]
  rcases Nat.lt_or_ge i (a1b m).length with z|z
  ·have z':i<es.length:=by lia
   rw[a0A z']at q;simp only[List.getElem?_toArray,List.getElem?_eq_getElem z',List.getElem?_eq_getElem z];have e:a9w false (a1b m) (i+1)=(a1b m)[i]+1:=by
    show(if false=true then 0 else(a1b m).getD i 0+1)=_;rw[wA (by decide),a0I,a0A z];rfl
   rw[e]at q;exact q
  ·have z':es.length<=i:=by lia
   rw[a1O z']at q;simp only[List.getElem?_toArray,List.getElem?_eq_none z'];exact q
end
section
variable{P:Pg}{w:World}{A:Ar}{E:VP}{a it:Ad}{m ep:Nat}{es:List (Int×Vl)}
theorem c3q{s:Sh}{i:Nat}{e:Int×Vl}{Q:Option Vl->Sh->Prop}(hne:a≠it)(hm:m<32)(en:Ents (a1b m) es)(hI:s.heap.get? it=some (a7h (a9w (w.params.followText "set-order") (a1b m) i) i (a1b m).length ep a))(hS:s.heap.get? a=some (a6e es ep (a9u (!w.params.followText "set-order") (a1b m))))
  (hi:i<(a1b m).length) (he:(a9v w a ep es)[i]? =some e)
  (q: ∀h',h'.get? it=some (a7h (a9w (w.params.followText "set-order") (a1b m) (i+1)) (i+1) (a1b m).length ep a)->Heap.SameBut it s.heap h'->Q (some e.2) {s with heap:=h'}):wpAny (model P w) A (pyNext (.ref it)) Q E s:=by
 have ty:s.TypeIs (.ref it) "set_iterator":=⟨_,hI,rfl⟩;have ln:=en.len;have fit:(a9u (!w.params.followText "set-order") (a1b m)).fits es.toArray.size=true:=by rw[a0V,ln];exact a6d _ ⟨m,hm⟩
 unfold pyNext;refine a0D (a5X (a2U (name:=Str.ofString "__next__") ty si_next (a2N si_next ty b3o ?_ (a9m _))));unfold a7h at hI;unfold Builtin.«set_iterator.__next__»;refine a0D (m:=slotArgs _ _ _) (a0G ?_);refine a0D (a7B hI rfl ?_);show wpAny _ _ (setEntries a >>= _) _ _ _;unfold setEntries;refine a0D (a0D (a4W hS rfl fit (a0G ?_)));have zs:((((es.toArray.size:Nat):Int) != (((a1b m).length:Nat):Int)))=false:=by rw[a0V,ln];simp
 show wpAny _ _ (if((((es.toArray.size:Nat):Int) != (((a1b m).length:Nat):Int)))=true then _ else _) _ _ _;rw[zs,wA (by decide)];show wpAny _ _ (setNext a ((a9w (w.params.followText "set-order") (a1b m) i:Nat):Int).toNat ((i:Nat):Int).toNat ((ep:Nat):Int).toNat >>= _) _ _ _;simp only[Int.toNat_natCast];refine a0D (d8p hm hS en (a1S hi) ?_);rw[he];show wpAny _ _ (setField (.ref it) 0 (rawInt _) >>= _) _ _ _;refine a0D (a3I hI (by simp) fun h1 e1 sb1=>?_);refine a0D (a3I e1 (by simp) fun h2 e2 sb2=>?_);exact a0G ⟨_,rfl,a0G (q h2 e2 (sb1.trans sb2))⟩
theorem c6v{s:Sh}{Q:Option Vl->Sh->Prop}(hh:A.handled=none)(hne:a≠it)(hm:m<32)(en:Ents (a1b m) es)(hI:s.heap.get? it=some (a7h (a9w (w.params.followText "set-order") (a1b m) (a1b m).length) (a1b m).length (a1b m).length ep a))(hS:s.heap.get? a=some (a6e es ep (a9u (!w.params.followText "set-order") (a1b m))))
  (q: ∀h',Heap.ExtBut it s.heap h'->Q none {s with heap:=h'}):wpAny (model P w) A (pyNext (.ref it)) Q E s:=by
 have ty:s.TypeIs (.ref it) "set_iterator":=⟨_,hI,rfl⟩;have ln:=en.len;have fit:(a9u (!w.params.followText "set-order") (a1b m)).fits es.toArray.size=true:=by rw[a0V,ln];exact a6d _ ⟨m,hm⟩
 have he:(a9v w a ep es)[(a1b m).length]? =none:=a1O (by rw[(a8y w a ep es).length_eq];lia);unfold pyNext;refine a0D (a5X (a2U (name:=Str.ofString "__next__") ty si_next (a2N si_next ty b3o ?_ (a9m _))));unfold a7h at hI;unfold Builtin.«set_iterator.__next__»;refine a0D (m:=slotArgs _ _ _) (a0G ?_);refine a0D (a7B hI rfl ?_);show wpAny _ _ (setEntries a >>= _) _ _ _;unfold setEntries;refine a0D (a0D (a4W hS rfl fit (a0G ?_)));have zs:((((es.toArray.size:Nat):Int) != (((a1b m).length:Nat):Int)))=false:=by rw[a0V,ln];simp
 show wpAny _ _ (if((((es.toArray.size:Nat):Int) != (((a1b m).length:Nat):Int)))=true then _ else _) _ _ _;rw[zs,wA (by decide)];show wpAny _ _ (setNext a ((a9w (w.params.followText "set-order") (a1b m) (a1b m).length:Nat):Int).toNat (((a1b m).length:Nat):Int).toNat ((ep:Nat):Int).toNat >>= _) _ _ _;simp only[Int.toNat_natCast];refine a0D (d8p hm hS en (a0K _) ?_);rw[he];show wpAny _ _ (setField (.ref it) 2 .none >>= _) _ _ _;refine a0D (a3I hI (by simp) fun h1 e1 sb1=>?_);refine a0D (m:=newExc _ _) ?_;simp only[newExc,newTuple];refine a0D (a2S ?_ (by size_fits));refine a0D (m:=firstArgMember _ _) (b0Q (a:=Value.none) (by first|rfl|(unfold firstArgMember;rfl)) (wpAny_newObj_type ?_ (by size_fits)));refine a9I (by simpa using hh) (wpAny_bind (wpAny_isInstance (T:="StopIteration") (b:=true) ⟨_,Heap.get?_push_size _ rfl,rfl⟩ isSubtype_stop (wpAny_pure ?_)));exact q _ fun b o nb e=>a0H _ (a0H _ (sb1.extBut b o nb e))
theorem d8q(hh:A.handled=none)(hne:a≠it)(hm:m<32)(en:Ents (a1b m) es):Walks P w A it [it,a] [it] (a1b m).length (fun i v=> ∃e,(a9v w a ep es)[i]? =some e/\v=e.2)
  (fun i h=>h.get? it=some (a7h (a9w (w.params.followText "set-order") (a1b m) i) i (a1b m).length ep a)/\h.get? a=some (a6e es ep (a9u (!w.params.followText "set-order") (a1b m)))) where
 sub:=fun b hb=>a1L.mpr (.inl (a0J.mp hb))
 frame:=fun i h h' st k=>⟨k it (a0T ..) _ st.1,k a (a1D _ (a0J.mpr rfl)) _ st.2⟩
 item:=fun i s Q E hi st q=>by
  have l1:(a9v w a ep es).length=(a1b m).length:=by rw[(a8y w a ep es).length_eq,en.len]
  obtain⟨e,he⟩: ∃e,(a9v w a ep es)[i]? =some e:=⟨_,a0A (by lia)⟩;refine c3q hne hm en st.1 st.2 hi he fun h' e1 sb=>q e.2 h' s.toks ⟨e,he,rfl⟩ ⟨e1,sb.extBut _ _ hne st.2⟩ fun b o nb e=>sb.extBut _ _ (fun z=>nb (a0J.mpr z)) e
 done:=fun s Q E st q=>c6v hh hne hm en st.1 st.2 fun h' x=>q h' s.toks fun b o nb e=>x b o (fun z=>nb (a0J.mpr z)) e
 self:=fun i s Q E st q=>by
  have ty:s.TypeIs (.ref it) "set_iterator":=⟨_,st.1,rfl⟩;refine a5P ty c6s (a2N c6s ty c3p ?_ (b7a _));exact show wpAny _ _ (ret (.ref it)) _ _ s from a0G ⟨_,rfl,"set_iterator",_,ty,si_next.lookup,q⟩
theorem iterS{s:Sh}{Q:VP}(hm:m<32)(en:Ents (a1b m) es)(hS:s.heap.get? a=some (a6e es ep (a9u (!w.params.followText "set-order") (a1b m))))
  (q:Q (.ref s.heap.objs.size) {s with heap:=s.heap.push (a7h 0 0 (a1b m).length ep a)}):wpAny (model P w) A (pyIter (.ref a)) Q E s:=by
 have ty:s.TypeIs (.ref a) "set":=⟨_,hS,rfl⟩;have ln:=en.len;have fit:(a9u (!w.params.followText "set-order") (a1b m)).fits es.toArray.size=true:=by rw[a0V,ln];exact a6d _ ⟨m,hm⟩
 refine a5P ty F.slot_set_iter (a2N F.slot_set_iter ty c6t ?_ (F.args_set_iter_1 _));unfold Builtin.«frozenset.__iter__»;refine a0D (m:=Builtin.Frozenset.slot0 _ _) (a0G ?_);unfold Builtin.Frozenset.sizeOf setEntries;refine a0D (a0D (a0D (a4W hS rfl fit (a0G (a0G ?_)))));unfold setDrawn setsByText;refine a0D (a0D (a4W hS rfl fit (a0D (a0D (a7D (a0G (a0G ?_)))))));have nd:(!w.params.followText "set-order"&&(!true&&decide (es.toArray.size>1)))=false:=by simp
 show wpAny _ _ (if(!w.params.followText "set-order"&&(!true&&decide (es.toArray.size>1)))=true then _ else _) _ _ _;rw[nd,wA (by decide)];refine a0D (a0G (a0D (wpAny_setEpoch_of hS rfl fit ?_)));refine a0D (m:=newFields _ _) ?_;unfold newFields;refine a2S ?_ (by size_fits);rw[<-ln]at q;exact a0G ⟨_,rfl,"set_iterator",_,⟨_,a0X _ rfl,rfl⟩,si_next.lookup,q⟩
theorem hintS{s:Sh}{Q:Bool->Sh->Prop}(ty:s.TypeIs (.ref a) "set")(q:Q false s):wpAny (model P w) A (Builtin.List.listLengthHint (.ref a)) Q E s:=by
 unfold Builtin.List.listLengthHint;refine a0D (wpAny_specialOf ty F.slot_set_len.lookup ?_);generalize g:("set.__len__":String)=name
 wp_delta
 rw[show splitId name=some ("set","__len__") by subst g;decide+kernel];subst g;refine a0D (wpAny_isInstance (T:="set") (b:=true) ty (by rw[isSubtype_type];kernel_rfl) (b0G (fun z=>wC z (by decide)) fun _=>?_));exact b0G (fun _=>a0D (a8H ty (a0G q))) fun z=>wC (by decide+kernel) z
theorem srcS(hm:m<32)(en:Ents (a1b m) es):PySem.W.KdlSrc P w "set" a a (a1b m).length (fun i v=> ∃e,(a9v w a ep es)[i]? =some e/\v=e.2) (fun h=>h.get? a=some (a6e es ep (a9u (!w.params.followText "set-order") (a1b m)))) where
 type:=fun _ e=>⟨_,e,rfl⟩
 there:=fun _ e=>⟨a0U e,a0U e⟩
 keep:=fun _ _ e k=>k a (.inl rfl) _ e
 notList:=by decide
 notTuple:=by decide
 hint:=fun _ _ _ _ e q=>hintS ⟨_,e,rfl⟩ q
 iter:=fun _ _ hh e=>⟨_,_,fun _ _ q=>iterS hm en e q,d8q hh (a1M (a0U e)) hm en,a0X _ rfl,a0H _ e⟩
end
def a2u(ns:Nsq):Nsq:=(List.range 5).filter fun i=>ns.contains i
theorem b7b(i:Nat): ∀(ns:Nsq) (m:Nat),(b1q m ns).testBit i=(m.testBit i || ns.contains i)
 | [],m=>by simp[b1q]
 |n::ns,m=>by
  show(b1q (m |||2 ^ n) ns).testBit i=_;rw[b7b i ns,Nat.testBit_or,Nat.testBit_two_pow,List.contains_cons,Bool.or_assoc]
  congr 2
  by_cases h:n=i
  ·simp[h]
  ·simp[h,Ne.symm h]
theorem b7c(ns:Nsq):a1b (b1q 0 ns)=a2u ns:=by
 unfold a1b a2u
 congr 1
 funext i
 rw[b7b];simp
theorem d5p(m:Nat):(a1b m).Pairwise (· <= ·):=by
 unfold a1b;exact List.Pairwise.filter _ (by decide)
theorem d8r: ∀{vs:Vs} {is:Zs},IntsAre vs is->Vals (is.map V.int) vs
 |_,_,.nil=> .nil
 |_,_,.cons n t h=> .cons ⟨t,rfl⟩ (d8r h)
theorem b7d: ∀{ls:List (Int×Vl)},(∀e∈ls,∃t,e.2= .int e.1 t)->IntsAre (ls.map (·.2)) (ls.map (·.1))
 | [],_=> .nil
 |e::ls,h=>by
  obtain⟨t,et⟩:=h e (a0T ..);rw[a2K,a2K,et];exact .cons _ _ (b7d fun x hx=>h x (a1D _ hx))
section
variable{P:Pg}{w:World}{A:Ar}{E:VP}{a:Ad}{m:Nat}
theorem d5q{s:Sh}{Q:VP}(hh:A.handled=none)(hS:IsSet5 s.heap a (!w.params.followText "set-order") m)
  (q: ∀(h1 h':Heap) tk out n,Vals ((a1b m).map nv) out->(∀b o,s.heap.get? b=some o->h1.get? b=some o)->(∀b o,h1.get? b=some o->h'.get? b=some o)->h'.get? h1.objs.size=some {cls:= .type "list",data:= .seq out.toArray n}->Q (.ref h1.objs.size) {s with heap:=h',toks:=tk}):
  wpAny (model P w) A (call (.builtin "sorted") [.ref a]) Q E s:=by
 obtain⟨hm,es,ep,eS,en⟩:=hS;have m5:(a1b m).length<=5:=a7v ⟨m,hm⟩;have ln:=en.len;have perm:=a8y w a ep es;refine a6Z kind_sorted plain_sorted entry_sorted (args_sorted1 _) ?_;unfold Builtin.«sorted»;refine a0D (m:=checkCount "sorted" 1 1 _) (a0G ?_);refine a0D (PySem.W.kdu_collect (A:=A.in1) (srcS hm en) (by simpa using hh) eS (by rw[sizeLine_eq];lia) fun h1 tk acc keep its=>?_);have whole:acc.toList=(a9v w a ep es).map (·.2):=by
  refine a6b (by rw[a0P,its.1,a0C,perm.length_eq];exact ln.symm) fun i x y hx hy=>?_;obtain⟨e,e1,e2⟩:=its.2 i x (by rw[<-a2C];exact hx);rw[a0F,e1]at hy;cases hy;exact e2
 have are:IntsAre acc.toList ((a9v w a ep es).map (·.1)):=by
  rw[whole];refine b7d fun e he=>?_;obtain⟨n,_,e1,t,e2⟩:=en.mem (perm.mem_iff.mp he);exact⟨t,by rw[e1,e2]⟩
 have al:acc.toList.length=(a1b m).length:=by rw[whole,a0C,perm.length_eq,ln]
 refine a0D (a8Z ?_ (by rw[al,a0Y];lia));have eD:(h1.push (seqObj "list" acc.toList.toArray 0)).get? h1.objs.size=some (seqObj "list" acc.toList.toArray 0):=a0X _ rfl;refine a0D (a2T (a2N slot_list_sort ⟨_,eD,rfl⟩ b0H (list_sort_tree eD are (by lia) fun out js o1 o2 o3=>⟨_,rfl,?_⟩) (args_list_sort _)));have js_is:js=(a1b m).map fun(n:Nat)=>(n:Int):=by
  refine List.Perm.eq_of_pairwise (le:=(· <= ·)) (fun x y _ _=>Int.le_antisymm) o3 ?_ (o2.trans ?_)
  ·exact a5Q.mpr ((d5p m).imp fun h=>by lia)
  ·rw[<-en.keys];exact perm.map _
 obtain⟨n,eN⟩:=sortedHeap_at (out:=out) eD;refine a0G ⟨_,rfl,q h1 _ tk out.toList n ?_ keep (fun b o e=>?_) (by simpa using eN)⟩
 ·have z:=d8r o1;rw[js_is,a3X]at z;exact z
 ·have lt:=a0U e;rw[sortedHeap_old (a1M lt) (a1N lt (by rw[a8G];exact a7E _))];exact a0H _ e
end
section
variable{X:Cx}
def SetO(w:World)(a:Ad)(m:Nat):HO:= .ext fun h=>IsSet5 h a (!w.params.followText "set-order") m
theorem IsSet5.ok{w:World}{h:Heap}{a:Ad}{m:Nat}{P:Pg}{w':World}{H:Hp}(x:IsSet5 h a (!w.params.followText "set-order") m):ObjOk P w' H h a (SetO w a m):=by
 obtain⟨hm,es,ep,e,en⟩:=id x;exact⟨x,⟨_,e⟩,fun h1 h2 ⟨y1,es',ep',y2,y3⟩ k=>⟨y1,es',ep',k _ y2,y3⟩⟩
theorem Inv.track{za:AO}{σ:St}{H:Hp}{s:Sh}{D:Ad}{o:HO}(I:Inv X za σ H s)(hD:H D=none)(ok:ObjOk X.prog X.w (upd H D o) s.heap D o)
  (h0:X.s₀.heap.objs.size<=D) (h1:D≠X.env.locals) (h2: ∀x c,X.env.cells.lookup x=some c->c≠D) (h3: ∀p∈X.pn++za,p.1≠D):Inv X za σ (upd H D o) s:=by
 have nd: ∀b u,H b=some u->b≠D:=fun b u q z=>by rw[z,hD]at q;cases q
 have q:=I.step (h':=s.heap) (H':=upd H D o) (g':=s.gens) (t':=s.toks) (d':=s.drawn) (ch:=[D]) (fun b hb=>by
   have z:b=D:=by simpa using hb
   subst z;exact⟨.inr h0,h1,h2,h3⟩)
  (fun b o _ _ _ e _=>e) (fun b o _ _ _ e _=>⟨o.slots,e⟩) (fun b o hb _ n=>by rw[a0f (fun z=>hb (by simp[z]))];exact n) (fun b o _ e=>⟨o,e⟩)
  (fun b xs q=>by rw[a0f (nd b _ q)];exact q) (fun b o u q=>by rw[a0f (nd b _ q)];exact q) (fun b ps q=>⟨#[],by rw[a0f (nd b _ q),q];simp⟩) (fun m hm=>hm) (fun b u q=>?_) I.bare
 ·exact q
 ·by_cases hb:b=D
  ·subst hb;rw[a0a]at q;cases q;exact ok
  ·rw[a0f hb]at q;exact(I.hok b u q).stay (fun _ _ _ z=>z) (fun c z=>by rw[a0f (nd c _ z)];exact z) fun c xs z=>by rw[a0f (nd c _ z)];exact z
theorem Inv.trackNew{za:AO}{σ:St}{H:Hp}{s s1:Sh}{o:HO}(I:Inv X za σ H s)(I1:Inv X za σ H s1)(ok:ObjOk X.prog X.w (upd H s.heap.objs.size o) s1.heap s.heap.objs.size o):Inv X za σ (upd H s.heap.objs.size o) s1:=by
 obtain⟨f0,f1,f2,f3,f4,f5⟩:=I.fpOk (b:=s.heap.objs.size) (H':=H) (a0K _) (I.hok.fresh (a0K _));exact I1.track f0 ok I.sz f1 f4 f5
def rSetN(K:W.Frag)(w:World):List V->Hp->VK->Prop:=fun xs H Q=> ∃p ns,xs=[.ref p]/\SqL K H p (ns.map nv)/\(∀n∈ns,n<5)/\ ∀a,H a=none->Q (.ref a) (upd H a (SetO w a (b1q 0 ns)))
theorem c6w(hc:X.calm=true):a7r X (.type "set") (rSetN X.K X.w):=by
 intro za s σ H xs us Q I r h;obtain⟨p,ns,rfl,hl,h5,q⟩:=h;obtain⟨u,rfl,ru⟩:=a6y r;cases ru;obtain⟨its,rv,pl,_⟩:=I.list hl;refine c6r (I.ok.hd hc) pl.isList rv h5 fun h' tk z keep=>?_;have I1:Inv X za σ H {s with heap:=h',toks:=tk}:=I.kept keep;exact⟨.ref s.heap.objs.size,_,Inv.trackNew I I1 z.ok,rfl,q _ I.fresh⟩
def d8s(w:World):List V->Hp->VK->Prop:=fun xs H Q=> ∃a m,xs=[.ref a]/\H a=some (SetO w a m)/\ ∀l,H l=none->Q (.ref l) (upd H l (.lst ((a1b m).map nv)))
theorem c3r(hc:X.calm=true):a7r X (.builtin "sorted") (d8s X.w):=by
 intro za s σ H xs us Q I r h;obtain⟨a,m,rfl,ha,q⟩:=h;obtain⟨u,rfl,ru⟩:=a6y r;cases ru;obtain⟨z,_,_⟩:=I.hok a _ ha;refine d5q (I.ok.hd hc) z fun h1 h' tk out n vo k1 k2 e=>?_;have I1:Inv X za σ H {s with heap:=h1,toks:=tk}:=I.kept k1;have I2:Inv X za σ H {s with heap:=h',toks:=tk}:=I1.kept k2;have m5:(a1b m).length<=5:=a7v ⟨m,z.1⟩;have ok:ObjOk X.prog X.w (upd H h1.objs.size (.lst ((a1b m).map nv))) h' h1.objs.size (.lst ((a1b m).map nv)):=⟨by rw[a0C,a0Y];lia,out,n,vo,e⟩;exact⟨.ref h1.objs.size,_,Inv.trackNew I1 I2 ok,rfl,q _ I1.fresh⟩
end
section
variable{X:Cx}
def rAny(K:W.Frag):List V->Hp->VK->Prop:=fun xs H Q=> ∃(p:Ad) (bs:List Bool),xs=[.ref p]/\SqL K H p (bs.map V.bl)/\Q (.bl (bs.any id)) H
theorem b7e(hc:X.calm=true):a7r X (.builtin "any") (rAny X.K):=by
 intro za s σ H xs us Q I r h;obtain⟨p,bs,rfl,hp,q⟩:=h;obtain⟨u,rfl,ru⟩:=a6y r;cases ru;obtain⟨its,rv,pl,_⟩:=I.list hp;have hl:=pl.isList;have hlt:p<s.heap.objs.size:=pl.lt;have hlen:its.length=bs.length:=by rw[<-rv.length,a0C]
 refine call_any_walk (a8A hl ⟨_,_,_,_,_,_,fun i=>bs.getD i false,rfl,Walks.list (A:=X.A.in1) (I.ok.hd hc) _ p (a1M hlt) its.toArray,⟨⟨_,a0X _ rfl,rfl,rfl⟩,hl.push _⟩,?_,fun h' tk hk=>?_⟩)
 ·intro i v s2 Q2 E2 hv hq;have hv':its[i]? =some v:=by simpa using hv
  have hi:i<bs.length:=by rw[<-hlen];exact(a0B.mp hv').1
  obtain⟨u2,e1,e2⟩:=rv.get (i:=i) (x:= .bl (bs.getD i false)) (by rw[a0F,a0A hi,a0I,a0A hi];rfl);rw[hv']at e1;cases e1;cases(show v=Value.bool _ from e2);exact a4U hq
 ·have e:(List.range its.toArray.size).any (fun i=>bs.getD i false)=bs.any id:=by
   rw[a0V,hlen];have:bs=(List.range bs.length).map fun i=>bs.getD i false:=by
    refine a9Z (by simp) fun i h1 h2=>?_;simp[List.getD_eq_getElem?_getD,h1]
   conv=>rhs;rw[this,b0I]
   rfl
  rw[e];exact⟨.bl (bs.any id),H,I.kept fun b o z=>hk b o (by simp only[List.mem_singleton];exact Nat.ne_of_lt (Heap.lt_size z)) (Heap.get?_push_of_some _ z),rfl,q⟩
end
def drop(H:Hp)(c:Ad):Hp:=fun b=>if b=c then none else H b
theorem a6f{H:Hp}{c:Ad}:drop H c c=none:=by unfold drop;rw[wB rfl]
theorem a1a{H:Hp}{b c:Ad}(h:b≠c):drop H c b=H b:=by unfold drop;rw[wA h]
theorem a5d{H:Hp}{b c:Ad}(h:H b=none):drop H c b=none:=by
 by_cases e:b=c
 ·rw[e];exact a6f
 ·rw[a1a e];exact h
def a4d(c m:Ad)(o:Obj):HO:= .ext fun h=>h.get? c=some o/\o.data= .cell (some (.ref m))
def a7i(c:Ad)(q:Str):HO:= .ext fun h=>h.CodeRec (.ref c) q
def b4n(f:Ad)(fd:Fd):HO:= .ext fun h=>h.get? f=some {cls:= .type "function",data:= .func fd}
theorem HOk.drop{P:Pg}{w:World}{H:Hp}{h:Heap}{c:Ad}{φ:Heap->Prop}(x:HOk P w H h)(hc:H c=some (.ext φ)):HOk P w (drop H c) h:=fun b o e=>by
 by_cases hb:b=c
 ·rw[hb,a6f]at e;cases e
 ·rw[a1a hb]at e;refine(x b o e).stay (fun _ _ _ z=>z) (fun d z=>?_) fun d xs z=>?_
  ·rw[a1a (fun q=>by rw[q,hc]at z;cases z)];exact z
  ·rw[a1a (fun q=>by rw[q,hc]at z;cases z)];exact z
theorem HOk.back{P:Pg}{w:World}{H:Hp}{h:Heap}{c:Ad}{o:HO}(x:HOk P w H h)(hc:H c=none)(ok:ObjOk P w (upd H c o) h c o):HOk P w (upd H c o) h:=fun b u e=>by
 by_cases hb:b=c
 ·subst hb;rw[a0a]at e;cases e;exact ok
 ·rw[a0f hb]at e;exact(x b u e).stay (fun _ _ _ z=>z) (fun d z=>by rw[a0f (a0j z hc)];exact z) fun d xs z=>by rw[a0f (a0j z hc)];exact z
theorem c6x{P:Pg}{w:World}{H:Hp}{h:Heap}{c m:Ad}{o:Obj}(x:h.get? c=some o)(d:o.data= .cell (some (.ref m))):ObjOk P w H h c (a4d c m o):=⟨⟨x,d⟩,⟨o,x⟩,fun h1 h2 e k=>⟨k _ e.1,e.2⟩⟩
theorem d3w{P:Pg}{w:World}{H:Hp}{h:Heap}{f:Ad}{fd:Fd}(x:h.get? f=some {cls:= .type "function",data:= .func fd}):ObjOk P w H h f (b4n f fd):=⟨x,⟨_,x⟩,fun h1 h2 e k=>k _ e⟩
theorem d5r{P:Pg}{w:World}{H:Hp}{h:Heap}{c:Ad}{q:Str}(x:h.CodeRec (.ref c) q):ObjOk P w H h c (a7i c q):=by
 obtain⟨c',o,vs,t,e1,e2,e3⟩:=id x;cases e1;refine⟨x,⟨o,e2⟩,fun h1 h2 ⟨c',o',vs',t',f1,f2,f3⟩ k=>?_⟩;cases f1;exact⟨c,o',vs',t',rfl,k _ f2,f3⟩
structure LamScope(ps:Ss)(y:Str)(sc:Scope):Prop where
 kind:sc.kind= .function
 co:sc.isCoroutine=false
 gen:sc.isGenerator=false
 nd:(ps++[y]).Nodup
 par: ∀x∈ps,sc.names.lookup x=some .local
 fre:sc.names.lookup y=some .free
 only: ∀z∈sc.names,z.2≠ .cell/\(z.2= .free->z.1=y)
abbrev a4m(qual:Str)(params:Arguments)(body:Expr)(scope:Scope)(y:Str)(c:Ad)(pm cd ct:Vl):Fd:=PySem.W.kla_fn "<lambda>" qual params body scope [(y,c)] pm cd ct
def cxL(P:Pg)(w:World)(K:W.Frag)(mg:SV)(base:Heap)(N:Ss)(qual:Str)(scope:Scope)(f:Ad)(cd:Vl)(cl:List (Str×Ad))(A:Ar)(outer:List Env)(s:Sh)(H:Hp):Cx where
 prog:=P
 w:=w
 K:=K
 mg:=mg
 base:=base
 A:=A.deeper (PySem.W.envX qual scope s.heap.objs.size f cd cl)
 N:=N
 s₀:=s
 H₀:=H
 env:=PySem.W.envX qual scope s.heap.objs.size f cd cl
 outer:=outer
 stack:=PySem.W.envX qual scope s.heap.objs.size f cd cl::outer
 ex:=[]
 calm:=true
 fn:=fun _=>false
 pn:=[]
 xe:=fun _ _=>False
theorem a9n{x:Str}{u:Vl}: ∀{l:List (Str×Vl)},(l.map (·.1)).Nodup->(x,u)∈l->l.lookup x=some u
 | (a,b)::l,nd,h=>by
  rw[a2K,a3F]at nd;rw[a4A]
  rcases a1L.mp h with e|e
  ·cases e;rw[a7C]
  ·have ne:(x==a)=false:=a3J.mpr fun q=>nd.1 (a0R.mpr ⟨(x,u),e,q⟩);rw[ne];exact a9n nd.2 e
theorem c3s{ps:Ss}{us:Vs}{i:Nat}{x:Str}{u:Vl}(nd:ps.Nodup)(h1:ps[i]? =some x)(h2:us[i]? =some u):(ps.zip us).reverse.lookup x=some u:=by
 refine a9n ?_ (a3O.mpr (a1F.mpr ⟨i,List.getElem?_zip_eq_some.mpr ⟨h1,h2⟩⟩));have sub: ∀(ps:Ss) (us:Vs),((ps.zip us).map (·.1)).Sublist ps:=fun ps=>by
  induction ps with
  |nil=>intro us;simp
  |cons a ps ih=>
   intro us;cases us with
   |nil=>simp
   |cons b us=>rw[List.zip_cons_cons,a2K];exact(ih us).cons₂ a
 rw[List.map_reverse];show List.Pairwise (· ≠ ·) _;rw[List.pairwise_reverse];exact(nd.sublist (sub ps us)).imp a3T
theorem d5s{P:Pg}{w:World}{K:W.Frag}{mg:SV}{base:Heap}{ps:Ss}{y qual:Str}{scope:Scope}{f c m:Ad}{cd:Vl}{A:Ar}{outer:List Env}{s:Sh}{H:Hp}{us:Vs}{vs:List V}{h1:Heap}{tk:Nat}
  (S:LamScope ps y scope) (hd:A.handled=none) (e0:Env0 P w K mg base A outer s H) (hl:vs.length=ps.length) (r:Vals vs us) (hc:H c=none) (ic:s.heap.IsCell c (some (.ref m)))
  (hns:h1.Ns s.heap.objs.size (fun x=>(ps.zip us).reverse.lookup x)) (sb:Heap.SameBut s.heap.objs.size (s.heap.push {cls:= .type "frame",data:= .dict #[]}) h1):
  Inv (cxL P w K mg base (ps++[y]) qual scope f cd [(y,c)] A outer s H) [] (vs.map some++[some (.ref m)]) H {s with heap:=h1,toks:=tk}:=by
 have hk: ∀b o,s.heap.get? b=some o->h1.get? b=some o:=fun b o e=>sb.extBut _ _ (a1M (a0U e)) (a0H _ e);have ic1:h1.IsCell c (some (.ref m)):=let⟨o,e,d⟩:=ic;⟨o,hk _ _ e,d⟩
 have one: ∀{x:Str} {d:Ad},([(y,c)]:List (Str×Ad)).lookup x=some d->x=y/\d=c:=fun {x d} h=>by
  rw[a4A]at h;cases q:x==y with
  |true=>rw[q]at h;cases h;exact⟨eq_of_beq q,rfl⟩
  |false=>rw[q]at h;cases h
 have at_y:([(y,c)]:List (Str×Ad)).lookup y=some c:=by rw[a4A,a7C]
 have noA: ∀b:Ad,b∉(cxL P w K mg base (ps++[y]) qual scope f cd [(y,c)] A outer s H).ex:=fun b z=>wC (show b∈([]:As)from z) (by simp);refine⟨⟨e0.mod,S.kind,rfl,rfl,a0K _,fun a b d h1 h2=>(one h1).1.trans (one h2).1.symm,fun a ha=>?_,fun a d h _=>wC (show false=true from h) a1H,fun _=>hd,Around.frames_deeper e0.frames,.inr ⟨rfl,rfl⟩,fun b z=>wC z (noA b),e0.bs,e0.bsz,fun b _ _=>noA b,fun b z=>wC z (noA b),e0.funs,e0.frf⟩,
  rfl,e0.bare,Un.kept hk,⟨_,hns,fun i x v q1 q2 q3=>?_⟩,fun a d h=>?_,e0.hok.fresh (a0K _),fun a d h=>?_,fun p hp=>wC (show p∈([]:AO)from hp) (by simp),e0.hok.kept hk,?_⟩
 ·have ha':scope.names.lookup a=some .cell∨scope.names.lookup a=some .free:=ha
  rcases ha' with z|z
  ·exact wC rfl (S.only _ (a3L z)).1
  ·have e:=(S.only _ (a3L z)).2 rfl;exact⟨c,by rw[show a=y from e];exact at_y⟩
 ·have q1':(ps++[y])[i]? =some x:=q1
  rcases Nat.lt_or_ge i ps.length with z|z
  ·rw[a0N z]at q1';rw[a0N (by rw[a0C];lia),a0F]at q2;cases e:vs[i]? with
   |none=>rw[e]at q2;cases q2
   |some a=>
    rw[e]at q2;cases q2;obtain⟨u,hu,rv⟩:=r.get e;have kx:=S.par x (a0E q1');refine⟨u,rv,.inl ⟨kx,?_⟩⟩;exact c3s (S.nd.sublist (List.sublist_append_left _ _)) q1' hu
  ·rw[a0M z]at q1';rw[a0M (by rw[a0C];lia),a0C]at q2;have e:i-ps.length=0:=by
    rcases Nat.eq_zero_or_pos (i-ps.length)with y0|y0
    ·exact y0
    ·rw[a1O (by simp;lia)]at q1';cases q1'
   rw[e]at q1';rw[hl,e]at q2;cases q1';cases q2;exact⟨.ref m,rfl,.inr ⟨.inr S.fre,c,at_y,ic1⟩⟩
 ·obtain⟨rfl,rfl⟩:=one (show([(y,c)]:List (Str×Ad)).lookup a=some d from h);exact⟨_,ic1⟩
 ·obtain⟨rfl,rfl⟩:=one (show([(y,c)]:List (Str×Ad)).lookup a=some d from h);exact hc
 ·show(vs.map some++[some (V.ref m)]).length=(ps++[y]).length;simp[hl]
theorem d3x{P:Pg}{w:World}{K:W.Frag}{mg:SV}{base:Heap}{k:Nat}{ps:Ss}{y qual:Str}{params:Arguments}{body:Expr}{scope:Scope}{f c m cc:Ad}{oc:Obj}{pm ct:Vl}{sp:Sp}
  (S:LamScope ps y scope) (len: ∀vs H Q E,sp vs H Q E->vs.length=ps.length) (here: ∀vs H Q E,sp vs H Q E->H f=some (b4n f (a4m qual params body scope y c pm (.ref cc) ct))/\H c=some (a4d c m oc)/\H cc=some (a7i cc qual))
  (hbody: ∀(A:Ar) (outer:List Env) (s:Sh) (H:Hp) (vs:List V) (Q:VK) (E:XK),Room k (A.deeper (PySem.W.envX qual scope s.heap.objs.size f (.ref cc) [(y,c)]))->sp vs H Q E->
   ∃t,PE (cxL P w K mg base (ps++[y]) qual scope f (.ref cc) [(y,c)] A outer s (drop H c)) body t/\t (vs.map some++[some (.ref m)]) (drop H c) fun v H'=>H' c=none->Q v (upd H' c (a4d c m oc))):
  FnOk P w K mg base CX0 (k+1) f (a4m qual params body scope y c pm (.ref cc) ct) ps sp:=by
 refine⟨len,fun A outer s H args us vs Q E hr e0 hb r hsp=>?_⟩;obtain⟨hf,hc,hcc⟩:=here _ _ _ _ hsp;have hl:=len _ _ _ _ hsp;obtain⟨ef,_,_⟩:=e0.hok f _ hf;obtain⟨ecell,_,_⟩:=e0.hok c _ hc;obtain⟨ecode,_,_⟩:=e0.hok cc _ hcc;have e1:Env0 P w K mg base A outer s (drop H c):=⟨e0.frames,e0.mod,fun b o e=>⟨(e0.bs b o e).1,a5d (e0.bs b o e).2⟩,e0.bsz,e0.funs,fun b hb=>a5d (e0.frf b hb),e0.hok.drop hc,e0.bare⟩;have lim:s.heap.NoLimit:=e0.mod.nolimit.keeps fun b o e=>(e0.bs b o e).1;refine PySem.W.kla_callFunE hr.depth ef rfl S.co S.gen rfl ecode (hb _ _ _ _ ?_);refine wpAny_newFunctionEnv (fun x hx=>(S.only x hx).1) (fun x hx=>S.par _ (a9E hx).1) (fun h1 hns sb=>?_) S.kind;have hk: ∀b o,s.heap.get? b=some o->h1.get? b=some o:=fun b o e=>sb.extBut _ _ (a1M (a0U e)) (a0H _ e);refine⟨lim.keeps hk,PySem.W.kla_codeExpr ?_⟩;obtain⟨t,ht,hq⟩:=hbody A outer s H vs Q E (hr.deeper _) hsp;have I:Inv (cxL P w K mg base (ps++[y]) qual scope f (.ref cc) [(y,c)] A outer s (drop H c)) [] (vs.map some++[some (.ref m)]) (drop H c) {s with heap:=h1,toks:=s.toks+(ps.zip us).length}:=d5s S hr.hd e1 hl r a6f ⟨oc,ecell⟩ hns sb;refine a3Q (ht [] _ _ _ _ I hq) (fun v s' ⟨x,H',J,rx,q⟩=>?_) fun e s' z=>wE z;have Hc:H' c=none:=J.freeC y c (by show([(y,c)]:List (Str×Ad)).lookup y=some c;rw[a4A,a7C]);have ec':s'.heap.get? c=some oc:=J.base.keep c oc ecell.1 a6f (fun z=>?_) (by simp[cxL])
 ·refine⟨x,upd H' c (a4d c m oc),J.os,J.bare,⟨fun b o e n hb _=>?_,fun b o e n hb _=>?_,fun b o e n _=>?_,fun b o e _=>J.base.there b o e (by simp[cxL]),fun b xs e=>?_,fun b o u e=>?_,fun b ps e=>?_⟩,J.hok.back Hc (c6x ec' ecell.2),rx,q Hc⟩
  ·exact J.base.keep b o e (a5d n) hb (by simp[cxL])
  ·exact J.base.slot b o e (a5d n) hb (by simp[cxL])
  ·have nb:b≠c:=fun z=>by rw[z,hc]at n;cases n
   rw[a0f nb];exact J.base.free b o e (a5d n) (by simp[cxL])
  ·have nb:b≠c:=fun z=>by rw[z,hc]at e;cases e
   rw[a0f nb];exact J.base.tups b xs (by show drop H c b=_;rw[a1a nb];exact e)
  ·have nb:b≠c:=fun z=>by rw[z,hc]at e;cases e
   rw[a0f nb];exact J.base.frzs b o u (by show drop H c b=_;rw[a1a nb];exact e)
  ·have nb:b≠c:=fun z=>by rw[z,hc]at e;cases e
   rw[a0f nb];exact J.base.tbls b ps (by show drop H c b=_;rw[a1a nb];exact e)
 ·have:=e0.frf c z;rw[hc]at this;cases this
section
variable{X:Cx}
def d3y(X:Cx)(i:Nat)(t:TA):TE:=fun σ H Q=>a9k i σ H fun v H0=> ∃st fd,v= .ref st/\H0 st=some (b4n st fd)/\t σ H0 fun vs H1=>H1 st=some (b4n st fd)/\ ∃k ps sp,FnOk X.prog X.w X.K X.mg X.base CX0 k st fd ps sp/\Room k X.A/\Binds X.K fd ps []/\sp vs H1 Q E0
theorem d3z{za:AO}{σ:St}{H:Hp}{s:Sh}{st:Ad}{fd:Fd}(I:Inv X za σ H s)(h:H st=some (b4n st fd)):PySem.W.FnAt st s.heap:=by
 obtain⟨e,_,_⟩:=I.hok st _ h;exact⟨_,_,_,_,e⟩
theorem d1t(i:Nat){x:Str}{e:Expr}{es:List Expr}{t:TA}{p pos:Pos}(hv:PE X (.Name x p) (a9k i))(ha:PA X (e::es) t)(he:starEach (e::es) X.env=(false,eval e X.env)::starEach es X.env:=by rfl)(hpl:(backTo pos (starEach es X.env)).any (·.1)=false:=by rfl):
  PE X (.Call (.Name x p) (e::es) [] pos) (d3y X i t):=by
 intro za s σ H Q I h;refine a4M (thn (hv za s σ H _ I h) fun u s1 ⟨v,H0,I0,rv,st,fd,ev,e0,q⟩=>?_);subst ev;cases rv;refine PySem.W.callWith_F (d3z I0 e0) (thn (ha pos za s1 σ H0 _ I0 q) fun us s2 zq=>?_) he hpl;obtain⟨vs,H1,I1,r,e1,k,ps,sp,F,hr,hb,q2⟩:=zq;refine⟨d3z I1 e1,?_⟩;have z:=c0s (dvs:=[]) (ds:=[]) F hr hb .nil c5t I1 r (by rw[a2I];exact q2);exact z
def d4a(sp:Sp)(dvs:List V)(j:Nat)(c:Ad)(t:TA):TE:=fun σ H Q=>t σ H fun vs H1=> ∃m,σ[j]? =some (some (.ref m))/\ ∀oc,H1 c=none->sp (vs++dvs) (upd H1 c (a4d c m oc)) (fun r H2=>H2 c=some (a4d c m oc)/\Q r (drop H2 c)) E0
theorem Inv.afterC{za:AO}{σ:St}{H:Hp}{s s':Sh}{c m:Ad}{oc:Obj}{Q:VK}{u:Vl}(I:Inv X za σ H s)(hc:H c=none)(ec:s.heap.get? c=some oc)
  (h:CE X.stack X.prog X.w (upd H c (a4d c m oc)) s (fun r H2=>H2 c=some (a4d c m oc)/\Q r (drop H2 c)) u s'):EP X za σ Q u s':=by
 obtain⟨v,H2,os,bare,un,hok,rv,e2,q⟩:=h;obtain⟨⟨ec',_⟩,_,_⟩:=hok c _ e2;refine I.after ⟨v,drop H2 c,os,bare,⟨fun b o e n hb he=>?_,fun b o e n hb he=>?_,fun b o e n he=>?_,un.there,fun b xs e=>?_,fun b o w e=>?_,fun b ps e=>?_⟩,hok.drop e2,rv,q⟩
 ·by_cases z:b=c
  ·subst z;rw[ec]at e;cases e;exact ec'
  ·exact un.keep b o e (by rw[a0f z];exact n) hb he
 ·by_cases z:b=c
  ·subst z;rw[ec]at e;cases e;exact⟨oc.slots,ec'⟩
  ·exact un.slot b o e (by rw[a0f z];exact n) hb he
 ·by_cases z:b=c
  ·rw[z];exact a6f
  ·exact a5d (un.free b o e (by rw[a0f z];exact n) he)
 ·have z:b≠c:=fun z=>by rw[z,hc]at e;cases e
  rw[a1a z];exact un.tups b xs (by rw[a0f z];exact e)
 ·have z:b≠c:=fun z=>by rw[z,hc]at e;cases e
  rw[a1a z];exact un.frzs b o w (by rw[a0f z];exact e)
 ·have z:b≠c:=fun z=>by rw[z,hc]at e;cases e
  rw[a1a z];exact un.tbls b ps (by rw[a0f z];exact e)
theorem d1u{x:Str}{k j:Nat}{ps:Ss}{sp:Sp}{f c:Ad}{fd:Fd}{dvs:List V}{ds:Vs}{y:Str}{e:Expr}{es:List Expr}{t:TA}{p pos:Pos}(F:FnOk X.prog X.w X.K X.mg X.base CX0 k f fd ps sp)(hr:Room k X.A)(hg:Gl X x)(hm:X.mg x=some (.ref f))
  (hk:PySem.W.keepIn X.K (.ref f)=true) (hb:Binds X.K fd ps ds) (hd:Vals dvs ds) (hN:X.N[j]? =some y) (hc:X.env.cells.lookup y=some c) (hkd:X.env.scope.names.lookup y=some .cell) (hfn:X.fn y=true) (ha:PA X (e::es) t)
  (hdb:(x==("__debug__":Str))=false:=by decide) (he:starEach (e::es) X.env=(false,eval e X.env)::starEach es X.env:=by rfl) (hpl:(backTo pos (starEach es X.env)).any (·.1)=false:=by rfl):
  PE X (.Call (.Name x p) (e::es) [] pos) (d4a sp dvs j c t):=by
 intro za s σ H Q I h;refine a4M (b4f I hg hm ?_ hdb);refine a7M (h₀:=X.base) I.ok.mod.kin hk (thn (ha pos za s σ H _ I h) fun us s1 ⟨vs,H1,I1,r,m,hj,q⟩=>⟨I1.kIn,?_⟩) he hpl;have hc0:H1 c=none:=I1.freeC y c hc;obtain⟨mm,hn,look⟩:=I1.loc;obtain⟨u,ru,lk⟩:=look j y (.ref m) hN hj (.inr (.inl hkd));cases ru;obtain⟨oc,ec,dc⟩:s1.heap.IsCell c (some (.ref m)):=by
  rcases lk with⟨z,_⟩|⟨_,c',ec',ic⟩
  ·have z':X.env.scope.names.lookup y=some .local:=z;rw[hkd]at z';cases z'
  ·rw[hc]at ec';cases ec';exact ic
 have q1:=q oc hc0;have r2:Vals (vs++dvs) (us++ds):=r.append hd;have hl:(us++ds).length=ps.length:=by rw[<-r2.length];exact F.len _ _ _ _ q1
 have e1:Env0 X.prog X.w X.K X.mg X.base X.A X.stack s1 (upd H1 c (a4d c m oc)):=by
  have e0:=I1.env0;have young:=I1.ok.cab y c hfn hc;have nb: ∀b o,X.base.get? b=some o->b≠c:=fun b o e z=>by
   subst z;exact wC (a1N (a0U e) (a1C I1.ok.bsz young)) (a4G _)
  have nf: ∀b∈frs X.stack,b≠c:=fun b hb z=>by
   subst z
   rcases a1L.mp (I1.stkSub b hb)with w|w
   ·exact I1.cne y b hc w
   ·obtain⟨_,o,ho,_⟩:=I1.ok.funs.mem w;exact wC (a1N (a0U ho) young) (a4G _)
  exact⟨e0.frames,e0.mod,fun b o e=>⟨(e0.bs b o e).1,by rw[a0f (nb b o e)];exact(e0.bs b o e).2⟩,e0.bsz,e0.funs,fun b hb=>by rw[a0f (nf b hb)];exact e0.frf b hb,e0.hok.back hc0 (c6x ec dc),e0.bare⟩
 refine b0M (a5U (F.run X.A X.stack s1 _ ⟨us,[]⟩ (us++ds) (vs++dvs) _ E0 hr e1 (hb s1 us I1.kIn hl) r2 q1) fun r s' hq=>?_);cases r with
 |error e=>exact hq.elim
 |ok fl=>
  cases fl with
  |ret u=>exact I1.afterC hc0 ec hq
  |next=>exact wE hq
  |brk=>exact wE hq
  |cont=>exact wE hq
end
section
variable{X:Cx}
def b4o(mg:SV)(h:Heap):Prop:= ∃bm o,mg "__builtins__"=some (.ref bm)/\bm≠builtinsNs/\h.get? bm=some o/\o.cls= .type "module"/\o.dict=some builtinsNs/\o.data= .plain
abbrev a4e(pos:Pos)(cc:Ad):AV:= #[rawInt pos.line,rawInt pos.col,.ref cc]
def tLam(P:Ad)(qual:Str)(params:Arguments)(body:Expr)(scope:Scope)(y:Str)(c:Ad)(pm:Vl)(pos:Pos):TE:=fun _ H Q=>
 (H P=some (.tbl #[])/\ ∀fl cc ct,H fl=none->H cc=none->fl≠cc->Q (.ref fl) (upd (upd (upd H P (.tbl (a4e pos cc))) cc (a7i cc qual)) fl (b4n fl (a4m qual params body scope y c pm (.ref cc) ct))))∨
 ∃cc,H P=some (.tbl (a4e pos cc))/\H cc=some (a7i cc qual)/\ ∀fl ct,H fl=none->Q (.ref fl) (upd H fl (b4n fl (a4m qual params body scope y c pm (.ref cc) ct)))
theorem d4b{P cd c:Ad}{qual y:Str}{params:Arguments}{body:Expr}{scope:Scope}{pos:Pos}(hcd:X.env.code= .ref cd)(C:PySem.W.CodeHd X.base cd P)(bm:b4o X.mg X.base)(hcl: ∀za σ H s,Inv X za σ H s->closureFor scope X.env=pure [(y,c)])
  (hdf:defaultsOf params X.env=([],[])) (hq:X.env.qual++"<lambda>"=qual):PE X (.Lambda params body scope pos) (tLam P qual params body scope y c ((X.mg "__name__").getD .none) pos):=by
 intro za s σ H Q I h;rw[arm_eval_Lambda,hdf,hq];have C':PySem.W.CodeHd s.heap cd P:=C.keeps I.bk;have hg:s.heap.Ns mainGlobals X.mg:=I.mod.glob.keeps I.bk;refine a0D (m:=evalAll []) (a0G (a0D (m:=holding _ (evalAllOpt [])) (a2T (a0G ?_))));have track: ∀ps,H P=some (.tbl ps)->s.heap.get? P=some (PySem.W.tabObj ps)/\mainGlobals≠P/\s.heap.BuiltinsAt X.mg P:=fun ps e=>by
  have eP:s.heap.get? P=some (PySem.W.tabObj ps):=I.hok P _ e;have ng:mainGlobals≠P:=fun z=>by
   obtain⟨o,es,ep,e1,_⟩:=I.mod.glob;have:=(I.bs _ _ e1).2
   rw[z,e]at this;cases this
  obtain⟨b,o,b1,b2,b3,b4,b5,b6⟩:=bm;refine⟨eP,ng,b,o,b1,b2,fun z=>?_,fun z=>?_,I.bk _ _ b3,b4,b5,b6⟩
  ·obtain⟨o',es,ep,e1,d1,_⟩:=I.mod.glob;rw[z,e1]at b3;cases b3;rw[d1]at b6;cases b6
  ·have:=(I.bs _ _ b3).2;rw[z,e]at this;cases this
 rcases h with⟨e,q⟩|⟨cc,e,ecc,q⟩
 ·obtain⟨eP,ng,hb⟩:=track _ e;refine PySem.W.kla_makeFunction (hcl za σ H s I) I.ok.glob hg hcd C' eP (by trivial) rfl ng hb fun cc ct h' tk hx hge hlt hrec htb=>?_;have hcc:H cc=none:=I.hok.fresh hge;have hfl:H h'.objs.size=none:=I.hok.fresh (a1C hge (a1S hlt));have nPc:P≠cc:=a0j e hcc;have nPf:P≠h'.objs.size:=a0j e hfl;have nfc:h'.objs.size≠cc:=a5A hlt;generalize eo:PySem.W.kla_obj "<lambda>" qual params body scope [(y,c)] ((X.mg "__name__").getD .none) cc ct=ob;have old: ∀b u,H b=some u->b≠cc/\b≠h'.objs.size:=fun b u z=>⟨a0j z hcc,a0j z hfl⟩;have far: ∀b o,s.heap.get? b=some o->b≠cc/\b≠h'.objs.size:=fun b o z=>⟨a1M (a1N (a0U z) hge),a1M (a1N (a0U z) (a1C hge (a1S hlt)))⟩;have kp: ∀b o,b≠P->s.heap.get? b=some o->(h'.push ob).get? b=some o:=fun b o n z=>a0H _ (hx b o n z);have at3: ∀b,b≠P->b≠cc->b≠h'.objs.size->upd (upd (upd H P (.tbl (a4e pos cc))) cc (a7i cc qual)) h'.objs.size (b4n h'.objs.size (a4m qual params body scope y c ((X.mg "__name__").getD .none) (.ref cc) ct)) b=H b:=fun b n1 n2 n3=>by rw[a0f n3,a0f n2,a0f n1]
  have atP:upd (upd (upd H P (.tbl (a4e pos cc))) cc (a7i cc qual)) h'.objs.size (b4n h'.objs.size (a4m qual params body scope y c ((X.mg "__name__").getD .none) (.ref cc) ct)) P=some (.tbl (a4e pos cc)):=by rw[a0f nPf,a0f nPc,a0a]
  have tP:(h'.push ob).get? P=some (PySem.W.tabObj (a4e pos cc)):=by
   refine a0H _ ?_;rw[htb];rfl
  refine⟨.ref h'.objs.size,_,?_,rfl,q h'.objs.size cc ct hfl hcc nfc⟩;refine I.step (ch:=[]) (fun _ z=>nomatch z) (fun b o _ _ _ z n=>kp b o (fun w=>by rw[w,e]at n;cases n) z) (fun b o _ _ _ z n=>⟨o.slots,kp b o (fun w=>by rw[w,e]at n;cases n) z⟩)
   (fun b o _ z n=>?_) (fun b o _ z=>?_) (fun b xs z=>?_) (fun b o u z=>?_) (fun b ps z=>?_) (fun m hm=>?_) (fun b u z=>?_) I.bare
  ·rw[at3 b (fun w=>by rw[w,e]at n;cases n) (far b o z).1 (far b o z).2];exact n
  ·by_cases w:b=P
   ·rw[w];exact⟨_,tP⟩
   ·exact⟨o,kp b o w z⟩
  ·rw[at3 b (fun w=>by rw[w,e]at z;cases z) (old b _ z).1 (old b _ z).2];exact z
  ·rw[at3 b (fun w=>by rw[w,e]at z;cases z) (old b _ z).1 (old b _ z).2];exact z
  ·by_cases w:b=P
   ·subst w;rw[e]at z;cases z;exact⟨a4e pos cc,by rw[atP];rfl⟩
   ·exact⟨#[],by rw[at3 b w (old b _ z).1 (old b _ z).2,z];simp⟩
  ·exact hm.at' fun o z=>kp _ o (fun w=>by have:=I.free;rw[w,e]at this;cases this) z
  ·by_cases w3:b=h'.objs.size
   ·rw[w3,a0a]at z;cases z;rw[w3];exact d3w (by rw[<-eo];exact a0X _ rfl)
   ·by_cases w2:b=cc
    ·rw[w2,a0f nfc.symm,a0a]at z;cases z;rw[w2];exact d5r (hrec.push _)
    ·by_cases w1:b=P
     ·rw[w1,atP]at z;cases z;rw[w1];exact tP
     ·rw[at3 b w1 w2 w3]at z;refine(I.hok b u z).stay (fun d o hd y=>kp d o (fun w=>?_) y) (fun d y=>?_) fun d xs y=>?_
      ·rcases hd with v|v
       ·exact w1 (v.symm.trans w)
       ·rw[w,e]at v;cases v
      ·rw[at3 d (fun w=>by rw[w,e]at y;cases y) (old d _ y).1 (old d _ y).2];exact y
      ·rw[at3 d (fun w=>by rw[w,e]at y;cases y) (old d _ y).1 (old d _ y).2];exact y
 ·obtain⟨eP,ng,hb⟩:=track _ e;have found:codeAmong pos (a4e pos cc).toList=some (.ref cc):=by
   show(if((pos.line:Int)==(pos.line:Int)&&(pos.col:Int)==(pos.col:Int))=true then _ else _)=_;rw[wB (by simp)]
  refine PySem.W.kla_makeFunctionHit (hcl za σ H s I) I.ok.glob hg hcd C' eP (by trivial) found hb fun ct h' tk keep sz=>?_;have I1:Inv X za σ H {s with heap:=h',toks:=tk}:=I.kept keep;have I2:Inv X za σ H {s with heap:=h'.push {cls:= .type "function",data:= .func (a4m qual params body scope y c ((X.mg "__name__").getD .none) (.ref cc) ct)},toks:=tk}:=I1.kept fun b o z=>a0H _ z;have ok:ObjOk X.prog X.w (upd H h'.objs.size (b4n h'.objs.size (a4m qual params body scope y c ((X.mg "__name__").getD .none) (.ref cc) ct))) (h'.push {cls:= .type "function",data:= .func (a4m qual params body scope y c ((X.mg "__name__").getD .none) (.ref cc) ct)}) h'.objs.size (b4n h'.objs.size (a4m qual params body scope y c ((X.mg "__name__").getD .none) (.ref cc) ct)):=d3w (a0X _ rfl);exact⟨.ref h'.objs.size,_,Inv.trackNew I1 I2 ok,rfl,q _ ct I1.fresh⟩
end
def hpT(K:W.Frag)(tabs:As)(a:Ad)(o:Obj)(ns:Zs):Hp:=fun b=>if b∈tabs then some (.tbl #[])else if b=a/\K.lookup a=none then some (.frz o (.lst (ns.map V.int)))else none
theorem c6y{P:Pg}{w:World}{K:W.Frag}{mg mb:SV}{k:Nat}{fa a:Ad}{fd:Fd}{x:Str}{sp:Sp}{s₁:Sh}{vs:Vs}{ns:Zs}{tabs:As}
  (KX:K.In s₁.heap) (hns:s₁.heap.Ns mainGlobals mg) (hb:s₁.heap.Ns builtinsNs mb) (hbb: ∀x:Str,x≠"__name__"->mb x=bootBuiltins x) (hlim:s₁.heap.NoLimit) (hg:s₁.gens= #[]) (hbm:b4o mg s₁.heap)
  (ha:s₁.heap.get? a=some {cls:= .type "list",data:= .seq vs.toArray}) (hi:IntsAre vs ns) (hl:ns.length<=sizeLine) (hr:Room k callerA) (hT: ∀q∈tabs,K.lookup q=none/\ ∃c,s₁.heap.TableAt c q #[])
  (F: ∀base:Heap,K.In base->base.Ns mainGlobals mg->b4o mg base->FnOk P w K mg base CX0 k fa fd [x] sp) (hbind: ∀(s:Sh) (u:Vl),BindsTo s fd ⟨[u],[]⟩ [(x,u)])
  (hsp: ∀H:Hp,(∀q∈tabs,H q=some (.tbl #[]))->SqL K H a (ns.map V.int)->sp [.ref a] H (fun v _=>v= .bl true) fun _ _ _=>False):
  codeAny (model P w) callerA (.call (.ref fa) ⟨[.ref a],[]⟩) (fun r s'=>r= .ok (.ret (.bool true))/\OldK s₁.heap s'.heap/\s'.os=s₁.os/\AllBare s'.gens) s₁:=by
 have rv:=b6s hi;have lenV:=hi.length;have tabO: ∀q∈tabs,s₁.heap.get? q=some (PySem.W.tabObj #[]):=fun q hq=>let⟨_,c,t⟩:=hT q hq;t.2
 have na:a∉tabs:=fun hq=>by
  have:=tabO a hq;rw[ha]at this;cases this
 generalize eH:hpT K tabs a {cls:= .type "list",data:= .seq vs.toArray} ns=H;have inT: ∀q∈tabs,H q=some (.tbl #[]):=fun q hq=>by rw[<-eH];exact wB hq
 have outT: ∀b,b∉tabs->H b=if b=a/\K.lookup a=none then some (.frz {cls:= .type "list",data:= .seq vs.toArray} (.lst (ns.map V.int)))else none:=fun b hb=>by rw[<-eH];exact wA hb
 have what: ∀b u,H b=some u->(b∈tabs/\u= .tbl #[])∨(b=a/\K.lookup a=none/\u= .frz {cls:= .type "list",data:= .seq vs.toArray} (.lst (ns.map V.int))):=fun b u e=>by
  by_cases hb:b∈tabs
  ·rw[inT b hb]at e;cases e;exact .inl ⟨hb,rfl⟩
  ·rw[outT b hb]at e;by_cases h:b=a/\K.lookup a=none
   ·rw[wB h]at e;cases e;exact .inr ⟨h.1,h.2,rfl⟩
   ·rw[wA h]at e;cases e
 have hok:HOk P w H s₁.heap:=fun b u e=>by
  rcases what b u e with⟨hb,rfl⟩|⟨rfl,_,rfl⟩
  ·exact tabO b hb
  ·exact⟨ha,by rw[a0C];exact hl,vs,_,rv,ha⟩
 have hS:SqL K H a (ns.map V.int):=by
  cases hk:K.lookup a with
  |some o=>
   have e:=KX a o hk;rw[ha]at e;cases e;exact .inr ⟨_,vs.toArray,_,hk,rfl,rfl,rfl,by rw[a0V,lenV];exact hl,by simpa using rv⟩
  |none=>exact .inl (.inr ⟨{cls:= .type "list",data:= .seq vs.toArray},by rw[outT a na,wB ⟨rfl,hk⟩]⟩)
 have free: ∀{b:Ad} {o:Obj},s₁.heap.get? b=some o->o.cls≠ .none->(∀its n,o.data≠ .seq its n)->H b=none:=fun {b o} e hc hd=>by
  cases q:H b with
  |none=>rfl
  | some u=>
   rcases what b u q with⟨hb,_⟩|⟨rfl,_,_⟩
   ·rw[tabO b hb]at e;cases e;exact wC rfl hc
   ·rw[ha]at e;cases e;exact wC rfl (hd _ _)
 have nsK: ∀{b:Ad} {m:SV},s₁.heap.Ns b m->(d0k s₁.heap H).Ns b m:=fun {b m} ⟨o,es,ep,e,d,r⟩=>by
  refine⟨o,es,ep,b4d e ?_,d,r⟩;cases q:H b with
  |none=>rfl
  | some u=>
   rcases what b u q with⟨hb,_⟩|⟨rfl,_,_⟩
   ·rw[tabO b hb]at e;cases e;cases d
   ·rw[ha]at e;cases e;cases d
 have hKb:K.In (d0k s₁.heap H):=fun b o e=>b4d (KX b o e) (by
  cases q:H b with
  |none=>rfl
  | some u=>
   rcases what b u q with⟨hb,_⟩|⟨rfl,hk,_⟩
   ·rw[(hT b hb).1]at e;cases e
   ·rw[hk]at e;cases e)
 have hBb:b4o mg (d0k s₁.heap H):=by
  obtain⟨bm,o,b1,b2,b3,b4,b5,b6⟩:=hbm;exact⟨bm,o,b1,b2,b4d b3 (free b3 (by rw[b4];nofun) (fun its n z=>by rw[b6]at z;cases z)),b4,b5,b6⟩
 have hM:Mod K mg (d0k s₁.heap H):=⟨hKb,nsK hns,⟨mb,nsK hb,hbb⟩,let⟨mc,h1,h2⟩:=hlim;⟨mc,nsK h1,h2⟩⟩;have e0:Env0 P w K mg (d0k s₁.heap H) callerA [] s₁ H:=⟨rfl,hM,fun b o e=>d4s e,a7H (c4y _ _),trivial,fun b hb=>wC (show b∈([]:As)from hb) (by simp),hok,.of_eq hg⟩;refine a5U ((F _ hKb (nsK hns) hBb).run callerA [] s₁ H ⟨[.ref a],[]⟩ [.ref a] [.ref a] _ _ hr e0 (hbind s₁ (.ref a)) (.cons rfl .nil) (hsp H inT hS)) fun r s' h=>?_;cases r with
 |error e=>exact h.elim
 | ok fl=>
  cases fl with
  |next=>exact wE h
  |brk=>exact wE h
  |cont=>exact wE h
  | ret u=>
   obtain⟨v,H',os,bare,un,hok',r',q⟩:=h;have q':v= .bl true:=q;subst q'
   obtain rfl:u=Value.bool true:=r';refine⟨rfl,⟨fun b o e=>?_,fun b o e=>un.there b o e (by simp)⟩,os,bare⟩;cases z:H b with
   |none=>exact .inl (un.keep b o e z (by intro y;exact wC (show b∈([]:As)from y) (by simp)) (by simp))
   | some u=>
    rcases what b u z with⟨hb,rfl⟩|⟨rfl,_,rfl⟩
    ·obtain⟨more,z2⟩:=un.tbls b _ z;have e2:s'.heap.get? b=some (PySem.W.tabObj (#[]++more)):=hok' b _ z2;rw[tabO b hb]at e;cases e;obtain⟨_,c,t⟩:=hT b hb;exact .inr (.inl ⟨t.isCodeTable,rfl,#[],more,rfl,e2⟩)
    ·obtain⟨e2,_⟩:=hok' b _ (un.frzs b _ _ z);rw[ha]at e;cases e;exact .inl e2
theorem d1v{l:PySem.W.OpenLaw}{n k:Nat}{q:Pg}{loose:Ss}{XP:SV->Heap->Prop}{YP:World->Heap->Prop}{d:DefRec}{K:Params->W.Frag}{sp:World->Sp}{x:Str}{tabs:List (Str×Ad)}
  (hn:l.most=some n) (hn2:n<=sizeLine) (hdf:d.params.defaults=[]) (hr:Room k callerA) (hY: ∀(w:World) (h:Heap),YP w h->(K w.params).In h)
  (hT: ∀w:World,∀t∈tabs,(K w.params).lookup t.2=none/\(∃c,PySem.W.tabIn (K w.params) t.1=some (c,t.2))/\ ∃e,(recsOf q).find? (fun r=>r.name==t.1)=some e)
  (F: ∀(w:World) (mg:SV) (fa:Ad) (h:Heap),(K w.params).In h->h.Ns mainGlobals mg->mg d.name=some (.ref fa)->
   ∃fd:Fd,(∀(s:Sh) (u:Vl),BindsTo s fd ⟨[u],[]⟩ [(x,u)])/\ ∀base:Heap,(K w.params).In base->base.Ns mainGlobals mg->b4o mg base->FnOk l.prog w (K w.params) mg base CX0 k fa fd [x] (sp w))
  (hsp: ∀(w:World) (H:Hp) (a:Ad) (ns:Zs),ns.length<=n->(∀t∈tabs,H t.2=some (.tbl #[]))->SqL (K w.params) H a (ns.map V.int)->sp w [.ref a] H (fun v _=>v= .bl true) fun _ _ _=>False):
  PySem.W.WalkO q loose XP YP l.row.toRowW d [] (fun f vs=>PySem.call f vs):=by
 refine Att.attach_call hn hdf fun w s₀ s₁ mg mb fa o pm cd doc a vs ns G Y ho hd hcd hmg hobj hints hlen hg=>?_;have KX:=hY w _ Y;obtain⟨fd,hb,hF⟩:=F w mg fa _ KX G.T.g hmg;refine c6y (tabs:=tabs.map (·.2)) KX G.T.g G.T.b G.T.builtins G.T.nolimit hg G.T.bmain hobj hints (a1C hlen hn2) hr (fun q hq=>?_) hF hb (fun H hH hS=>hsp w H a ns hlen (fun t ht=>hH _ (List.mem_map_of_mem ht)) hS);obtain⟨t,ht,rfl⟩:=a0R.mp hq;obtain⟨h1,⟨c,h2⟩,e,h3⟩:=hT w t ht;obtain⟨C,eP⟩:=PySem.W.tab_of G.T KX h3 h2;exact⟨h1,c,C.tab eP⟩
def sl(u v:Nsq):Prop:=u.length<v.length∨(u.length=v.length/\ltl u v=true)
theorem a0y{a b:Nat}{xs ys:Nsq}(h:a≠b):ltl (a::xs) (b::ys)=decide (a<b):=by
 unfold ltl;rw[a9t,wA h];rfl
theorem a4s{a:Nat}{xs ys:Nsq}:ltl (a::xs) (a::ys)=ltl xs ys:=by
 unfold ltl;rw[a9t,wB rfl];cases a9t xs ys with
 |none=>simp
 |some b=>rfl
theorem b7f: ∀{xs ys zs:Nsq},xs.length=ys.length->ys.length=zs.length->ltl xs ys=true->ltl ys zs=true->ltl xs zs=true
 | [],[],_,_,_,h,_=>by rw[a6c]at h;cases h
 | [],_::_,_,h,_,_,_=>by simp at h
 |_::_,[],_,h,_,_,_=>by simp at h
 |_::_,_::_,[],_,h,_,_=>by simp at h
 | a::xs,b::ys,c::zs,h1,h2,h3,h4=>by
  by_cases ab:a=b
  ·subst ab;rw[a4s]at h3;by_cases bc:a=c
   ·subst bc;rw[a4s]at h4⊢;exact b7f (by simpa using h1) (by simpa using h2) h3 h4
   ·rw[a0y bc]at h4⊢;exact h4
  ·rw[a0y ab]at h3;have h3':a<b:=a1V h3;by_cases bc:b=c
   ·subst bc;rw[a0y ab];exact h3
   ·rw[a0y bc]at h4;have h4':b<c:=a1V h4;rw[a0y (by lia)];exact a1A (by lia)
theorem b3p: ∀{xs ys us vs:Nsq},xs.length=ys.length->ltl xs ys=true->ltl (xs++us) (ys++vs)=true
 | [],[],_,_,_,h=>by rw[a6c]at h;cases h
 | [],_::_,_,_,h,_=>by simp at h
 |_::_,[],_,_,h,_=>by simp at h
 | a::xs,b::ys,us,vs,h1,h2=>by
  by_cases ab:a=b
  ·subst ab;rw[a6D,a6D,a4s];rw[a4s]at h2;exact b3p (by simpa using h1) h2
  ·rw[a6D,a6D,a0y ab];rw[a0y ab]at h2;exact h2
theorem d1w(xs:Nsq){a b:Nat}(h:a<b):ltl (xs++[a]) (xs++[b])=true:=by
 induction xs with
 |nil=>exact(a0y (by lia)).trans (a1A h)
 |cons x xs ih=>rw[a6D,a6D,a4s];exact ih
theorem b0f{u v x:Nsq}(h1:sl u v)(h2:sl v x):sl u x:=by
 rcases h1 with h1|⟨e1,l1⟩<;>rcases h2 with h2|⟨e2,l2⟩
 ·exact .inl (by lia)
 ·exact .inl (by lia)
 ·exact .inl (by lia)
 ·exact .inr ⟨by lia,b7f e1 e2 l1 l2⟩
theorem d8t{u:Nsq}(h:sl u u):False:=by
 rcases h with h|⟨_,h⟩
 ·lia
 ·rw[a6c]at h;cases h
theorem c6z{u v:Nsq}{a b:Nat}(h:sl u v):sl (u++[a]) (v++[b]):=by
 rcases h with h|⟨e,l⟩
 ·exact .inl (by simp;lia)
 ·exact .inr ⟨by simp[e],b3p e l⟩
theorem b9e(u:Nsq){a b:Nat}(h:a<b):sl (u++[a]) (u++[b]):= .inr ⟨by simp,d1w u h⟩
def sle(u v:Nsq):Prop:=u=v∨sl u v
theorem c7a{u v x:Nsq}(h1:sle u v)(h2:sle v x):sle u x:=by
 rcases h1 with rfl|h1
 ·exact h2
 ·rcases h2 with rfl|h2
  ·exact .inr h1
  ·exact .inr (b0f h1 h2)
theorem d1x{u v:Nsq}{a:Nat}(h:sle u v):sle (u++[a]) (v++[a]):=by
 rcases h with rfl|h
 ·exact .inl rfl
 ·exact .inr (c6z h)
section
variable(f:Nsq->Nat->List Nat)(L:Nat)(x0:Nsq)
abbrev TW:=List (Nsq×Nsq)
def a2l(word:Nsq):Nsq:=word.foldl f x0
def Goes(ws:TW)(p:Nsq×Nsq)(l:Nat):Prop:= ∃u,(f p.1 l,u)∈ws/\sle u (p.2++[l])
structure Told(ws:TW):Prop where
 head:ws[0]? =some (x0,[])
 keys:(ws.map (·.1)).Nodup
 run: ∀p∈ws,(∀l∈p.2,l<L)/\a2l f x0 p.2=p.1
 up:ws.Pairwise fun p q=>sl p.2 q.2
 all: ∀p∈ws,∀l,l<L->Goes f ws p l
 short: ∀p∈ws,p.2.length<ws.length
structure Bfs(d:Nat)(ws wv fo:TW)(i j:Nat):Prop where
 head:ws[0]? =some (x0,[])
 keys:(ws.map (·.1)).Nodup
 run: ∀p∈ws,(∀l∈p.2,l<L)/\a2l f x0 p.2=p.1
 up:ws.Pairwise fun p q=>sl p.2 q.2
 len: ∀p∈ws,p.2.length<=d+1
 wave: ∀p∈wv,p∈ws/\p.2.length=d
 wup:wv.Pairwise fun p q=>sl p.2 q.2
 foll: ∀p∈fo,p∈ws/\p.2.length=d+1
 fup:fo.Pairwise fun p q=>sl p.2 q.2
 front: ∀p∈ws,∀t,wv[i]? =some t->sl p.2 (t.2++[j])
 done: ∀p∈ws,p∈fo∨(∃a,i<=a/\wv[a]? =some p)∨ ∀l,l<L->Goes f ws p l
 part: ∀t,wv[i]? =some t-> ∀l,l<j->Goes f ws t l
 short: ∀p∈ws,p.2.length<ws.length
variable{f L x0}{d i j:Nat}{ws wv fo:TW}{t:Nsq×Nsq}
theorem Goes.more{p q:Nsq×Nsq}{l:Nat}(h:Goes f ws p l):Goes f (ws++[q]) p l:=by
 obtain⟨u,h1,h2⟩:=h;exact⟨u,a3G _ h1,h2⟩
theorem Bfs.start:Bfs f L x0 0 [(x0,[])] [(x0,[])] [] 0 0 where
 head:=rfl
 keys:=by simp
 run:=fun p hp=>by
  rw[a0J.mp hp];exact⟨fun _ h=>(nomatch h),rfl⟩
 up:=a3R _ _
 len:=fun p hp=>by rw[a0J.mp hp];simp
 wave:=fun p hp=>⟨hp,by rw[a0J.mp hp];rfl⟩
 wup:=a3R _ _
 foll:=fun _ h=>nomatch h
 fup:= .nil
 front:=fun p hp t _=>by
  rw[a0J.mp hp];exact .inl (by simp)
 done:=fun p hp=> .inr (.inl ⟨0,a0K _,by rw[a0J.mp hp];rfl⟩)
 part:=fun _ _ _ h=>wC h (a5R _)
 short:=fun p hp=>by rw[a0J.mp hp];simp
theorem Bfs.old(b:Bfs f L x0 d ws wv fo i j)(ht:wv[i]? =some t)(hm:f t.1 j∈ws.map (·.1)):Bfs f L x0 d ws wv fo i (j+1):=by
 obtain⟨p,hp,e⟩:=a0R.mp hm;refine {b with front:=fun q hq t' ht'=>?_,part:=fun t' ht' l hl=>?_}
 ·exact b0f (b.front q hq t' ht') (b9e _ (a3U _))
 ·rcases Nat.lt_succ_iff_lt_or_eq.mp hl with hl|rfl
  ·exact b.part t' ht' l hl
  ·rw[ht]at ht';cases ht';exact⟨p.2,by rw[<-e];exact hp,.inr (b.front p hp t ht)⟩
theorem Bfs.new(b:Bfs f L x0 d ws wv fo i j)(ht:wv[i]? =some t)(hj:j<L)(hm:f t.1 j∉ws.map (·.1)):
  Bfs f L x0 d (ws++[(f t.1 j,t.2++[j])]) wv (fo++[(f t.1 j,t.2++[j])]) i (j+1):=by
 obtain⟨tw,tl⟩:=b.wave t (a0E ht);obtain⟨r1,r2⟩:=b.run t tw;have nl:(t.2++[j]).length=d+1:=by simp[tl]
 have pos:0<ws.length:=a6H tw;refine⟨?_,?_,fun p hp=>?_,?_,fun p hp=>?_,fun p hp=>⟨a3G _ (b.wave p hp).1,(b.wave p hp).2⟩,b.wup,fun p hp=>?_,?_,fun p hp t' ht'=>?_,fun p hp=>?_,fun t' ht' l hl=>?_,fun p hp=>?_⟩
 ·rw[a0N pos];exact b.head
 ·rw[a1B,a9W];refine⟨b.keys,by simp,fun x hx y hy z=>?_⟩;simp at hy;subst hy;exact hm (z▸hx)
 ·rcases a0Q.mp hp with hp|hp
  ·exact b.run p hp
  ·rw[a0J.mp hp];refine⟨fun l hl=>?_,?_⟩
   ·rcases a0Q.mp hl with hl|hl
    ·exact r1 l hl
    ·rw[a0J.mp hl];exact hj
   ·show a2l f x0 (t.2++[j])=f t.1 j;unfold a2l at r2⊢;rw[a4D,r2];rfl
 ·rw[a1T];refine⟨b.up,a3R _ _,fun p hp q hq=>?_⟩;rw[a0J.mp hq];exact b.front p hp t ht
 ·rcases a0Q.mp hp with hp|hp
  ·exact b.len p hp
  ·rw[a0J.mp hp];exact a7H nl
 ·rcases a0Q.mp hp with hp|hp
  ·exact⟨a3G _ (b.foll p hp).1,(b.foll p hp).2⟩
  ·exact⟨a1E _ hp,by rw[a0J.mp hp];exact nl⟩
 ·rw[a1T];refine⟨b.fup,a3R _ _,fun p hp q hq=>?_⟩;rw[a0J.mp hq];exact b.front p (b.foll p hp).1 t ht
 ·rw[ht]at ht';cases ht'
  rcases a0Q.mp hp with hp|hp
  ·exact b0f (b.front p hp t ht) (b9e _ (a3U _))
  ·rw[a0J.mp hp];exact b9e _ (a3U _)
 ·rcases a0Q.mp hp with hp|hp
  ·rcases b.done p hp with h|h|h
   ·exact .inl (a3G _ h)
   ·exact .inr (.inl h)
   ·exact .inr (.inr fun l hl=>(h l hl).more)
  ·exact .inl (a1E _ hp)
 ·rw[ht]at ht';cases ht'
  rcases Nat.lt_succ_iff_lt_or_eq.mp hl with hl|rfl
  ·exact(b.part t ht l hl).more
  ·exact⟨t.2++[l],a1E _ (a0J.mpr rfl),.inl rfl⟩
 ·rw[a0L,a5B]
  rcases a0Q.mp hp with hp|hp
  ·exact a5M (b.short p hp)
  ·rw[a0J.mp hp];have z:=b.short t tw;show(t.2++[j]).length<_
   rw[a0L,a5B];lia
theorem Bfs.next(b:Bfs f L x0 d ws wv fo i L)(ht:wv[i]? =some t):Bfs f L x0 d ws wv fo (i+1) 0:=by
 refine {b with front:=fun p hp t' ht'=>?_,done:=fun p hp=>?_,part:=fun _ _ l hl=>wC hl (a5R _)}
 ·have h1:=b.front p hp t ht;have h2:sl t.2 t'.2:=by
   obtain⟨l1,e1⟩:=a0B.mp ht;obtain⟨l2,e2⟩:=a0B.mp ht';rw[<-e1,<-e2];exact a2O.mp b.wup i (i+1) l1 l2 (a3U _)
  exact b0f h1 (c6z h2)
 ·rcases b.done p hp with h|⟨a,h1,h2⟩|h
  ·exact .inl h
  ·rcases Nat.eq_or_lt_of_le h1 with e|e
   ·subst e;rw[ht]at h2;cases h2;exact .inr (.inr fun l hl=>b.part t ht l hl)
   ·exact .inr (.inl ⟨a,e,h2⟩)
  ·exact .inr (.inr h)
theorem Bfs.wave'(b:Bfs f L x0 d ws wv fo wv.length 0):Bfs f L x0 (d+1) ws fo [] 0 0:=by
 refine⟨b.head,b.keys,b.run,b.up,fun p hp=>Nat.le_succ_of_le (b.len p hp),b.foll,b.fup,fun _ h=>(nomatch h),.nil,fun p hp t ht=>?_,fun p hp=>?_,fun _ _ l hl=>wC hl (a5R _),b.short⟩
 ·have h1:=b.len p hp;have h2:=(b.foll t (a0E ht)).2;exact .inl (by simp;lia)
 ·rcases b.done p hp with h|⟨a,h1,h2⟩|h
  ·obtain⟨a,e⟩:=a1F.mp h;exact .inr (.inl ⟨a,a3K _,e⟩)
  ·rw[a1O h1]at h2;cases h2
  ·exact .inr (.inr h)
theorem Bfs.told(b:Bfs f L x0 d ws [] [] 0 0):Told f L x0 ws:=⟨b.head,b.keys,b.run,b.up,fun p hp=>by
 rcases b.done p hp with h|⟨a,_,h⟩|h
 ·nomatch h
 ·simp at h
 ·exact h,b.short⟩
theorem Told.least(T:Told f L x0 ws): ∀(n:Nat) (v:Nsq),v.length=n->(∀l∈v,l<L)-> ∃u,(a2l f x0 v,u)∈ws/\sle u v
 |0,v,hn,_=>by
  have e:v=[]:=a2V.mp hn;subst e;exact⟨[],a0E T.head,.inl rfl⟩
 | n+1,v,hn,hv=>by
  obtain⟨v',l,rfl⟩: ∃v' l,v=v'++[l]:=⟨v.dropLast,v.getLast (by intro z;rw[z]at hn;cases hn),(a9A _).symm⟩;obtain⟨u,h1,h2⟩:=T.least n v' (by simp at hn;lia) fun x hx=>hv x (List.mem_append_left _ hx);obtain⟨u',h3,h4⟩:=T.all _ h1 l (hv l (a1E _ (a0J.mpr rfl)));refine⟨u',?_,c7a h4 (d1x h2)⟩;have e:a2l f x0 (v'++[l])=f (a2l f x0 v') l:=by
   unfold a2l;rw[a4D];rfl
  rw[e];exact h3
theorem a8z{U:LN}(h0:x0∈U)(hU: ∀x∈U,∀l,l<L->f x l∈U): ∀word:Nsq,(∀l∈word,l<L)->a2l f x0 word∈U:=by
 have go: ∀(word:Nsq) (x:Nsq),x∈U->(∀l∈word,l<L)->word.foldl f x∈U:=by
  intro word
  induction word with
  |nil=>intro x hx _;exact hx
  |cons l word ih=>intro x hx h;exact ih _ (hU x hx l (h l (a0T ..))) fun y hy=>h y (a1D _ hy)
 exact fun word h=>go word x0 h0 h
theorem a7w{U:LN}{l:LN}(nd:l.Nodup)(h: ∀x∈l,x∈U):l.length<=U.length:=a3A nd h
end
section
variable{P:Pg}{w:World}{A:Ar}{E:VP}{s:Sh}{it d:Ad}{i ep:Nat}{es:Array DictEntry}
abbrev a2y(k v:Vl):Obj:={cls:= .type "tuple",data:= .seq #[k,v]}
abbrev a6g(own:Vl)(out:Bool)(d:Ad)(i n ep:Nat)(k v:Vl):Obj:={cls:= .type "dict_itemiterator",data:= .fields #[own,.bool out,.ref d,.int i 0,.int n 0,.int ep 0,k,v]}
def Lies(h:Heap)(d:Ad)(es:Array DictEntry)(ep:Nat):Prop:= ∃o,h.get? d=some o/\o.ExactDict/\o.data= .dict es ep
def Goer(h:Heap)(it d:Ad)(i n ep:Nat):Prop:= ∃own out k v,h.get? it=some (a6g own out d i n ep k v)/\(own= .none∨ ∃a:Nat,own=rawInt a/\a≠it/\ ∃o,h.get? a=some o)
theorem Goer.keep{h h':Heap}{n:Nat}(g:Goer h it d i n ep)(k: ∀o,h.get? it=some o->h'.get? it=some o)(l: ∀b o,h.get? b=some o-> ∃o',h'.get? b=some o'):Goer h' it d i n ep:=by
 obtain⟨own,out,x,v,e,c⟩:=g;refine⟨own,out,x,v,k _ e,c.imp id ?_⟩;rintro⟨a,ea,na,o,eo⟩;exact⟨a,ea,na,l a o eo⟩
theorem c7b{own:Vl}{out:Bool}{n:Nat}{k0 v0 k v:Vl}{Q:VP}(e:s.heap.get? it=some (a6g own out d i n ep k0 v0))(c:own= .none∨ ∃a:Nat,own=rawInt a/\a≠it/\ ∃o,s.heap.get? a=some o)
  (q: ∀h',Goer h' it d i n ep->h'.get? s.heap.objs.size=some (a2y k v)->(∀b o,b≠it->s.heap.get? b=some o->h'.get? b=some o)->Q (.ref s.heap.objs.size) {s with heap:=h'}):
  wpAny (model P w) A (Builtin.Dict_items.pairFromOwner (.ref it) 6 k v) Q E s:=by
 have lt:it<s.heap.objs.size:=a0U e;unfold Builtin.Dict_items.pairFromOwner;refine a0D (wpAny_newTuple ?_);have e1:=a0H (a2y k v) e;have ep1:(s.heap.push (a2y k v)).get? s.heap.objs.size=some (a2y k v):=a0X _ rfl;have kp: ∀b o,s.heap.get? b=some o->(s.heap.push (a2y k v)).get? b=some o:=fun b o z=>a0H _ z;have ne:s.heap.objs.size≠it:=a5A lt
 rcases c with rfl|⟨a,rfl,na,o,ea⟩
 ·have free: ∀{R:Bool->Sh->Prop} {s1:Sh},s1.heap.get? it=some (a6g .none out d i n ep k0 v0)->R true s1->wpAny (model P w) A (Builtin.Dict_items.ownedTupleIsFree (.ref it)) R E s1:=fun e r=>by
   unfold Builtin.Dict_items.ownedTupleIsFree;exact a0D (a6P e rfl (x:= .none) rfl (a0G r))
  refine a0D (free e1 ?_);rw[wB rfl];refine a0D (a6P e1 rfl (x:=k0) rfl (a0D (a6P e1 rfl (x:=v0) rfl ?_)));refine a0D (a3I e1 (by simp) fun h2 e2 s2=>wpAny_bind (wpAny_setField_rec e2 (by simp) fun h3 e3 s3=>?_));refine a0D (a3I e3 (by simp) fun h4 e4 s4=>wpAny_bind (wpAny_setField_rec e4 (by simp) fun h5 e5 s5=>wpAny_bind (wpAny_letGo (wpAny_pure ?_))));have sb:=((s2.trans s3).trans s4).trans s5;have ep5:=sb.extBut _ _ ne ep1;exact q h5 ⟨_,_,_,_,e5,.inr ⟨_,rfl,ne,_,ep5⟩⟩ ep5 fun b o nb z=>sb.extBut _ _ nb (kp b o z)
 ·have a1:=kp a o ea;refine a0D (m:=Builtin.Dict_items.ownedTupleIsFree _) ?_;unfold Builtin.Dict_items.ownedTupleIsFree;refine a0D (a6P e1 rfl (x:=rawInt a) rfl ?_);have alive: ∀{R:Option Obj->Sh->Prop},R (some o) {s with heap:=s.heap.push (a2y k v)}->wpAny (model P w) A (loadIfAlive ((a:Int).toNat)) R E {s with heap:=s.heap.push (a2y k v)}:=fun {R} r=>by
   rw[a1U];exact fun _ _ _=>show R ((s.heap.push (a2y k v)).get? a) _ by rw[a1];exact r
  refine show wpAny _ _ (loadIfAlive ((a:Int).toNat) >>= _) _ _ _ from a0D (alive ?_)
  refine a0D (m:=field _ _) (a6P e1 rfl (x:= .bool out) rfl ?_);cases out with
  |true=>exact a0G (a0G (q _ ⟨_,_,_,_,e1,.inr ⟨a,rfl,na,o,a1⟩⟩ ep1 fun b o _ z=>kp b o z))
  |false=>
   refine a0D (m:=setField _ _ _) (a3I e1 (by simp) fun h2 e2 s2=>wpAny_pure (wpAny_pure ?_));exact q h2 ⟨_,_,_,_,e2,.inr ⟨a,rfl,na,o,s2.extBut _ _ na a1⟩⟩ (s2.extBut _ _ ne ep1) fun b o nb z=>s2.extBut _ _ nb (kp b o z)
end
section
variable{P:Pg}{w:World}{A:Ar}{E:VP}{s:Sh}{it d:Ad}{i ep:Nat}{es:Array DictEntry}
theorem c7c{en:DictEntry}{Q:Option Vl->Sh->Prop}(G:Goer s.heap it d i es.size ep)(L:Lies s.heap d es ep)(hx:es[i]? =some en)
  (q: ∀h',Goer h' it d (i+1) es.size ep->h'.get? s.heap.objs.size=some (a2y en.key en.val)->(∀b o,b≠it->s.heap.get? b=some o->h'.get? b=some o)->Q (some (.ref s.heap.objs.size)) {s with heap:=h'}):
  wpAny (model P w) A (pyNext (.ref it)) Q E s:=by
 obtain⟨own,out,k0,v0,e,c⟩:=G;obtain⟨o,ho,_,hd⟩:=L;have ty:s.TypeIs (.ref it) "dict_itemiterator":=⟨_,e,rfl⟩;have lt:i<es.size:=(a4B.mp hx).1;unfold pyNext;refine a0D (a5X (a2U (name:=Str.ofString "__next__") ty a3V (a2N a3V ty a8J ?_ (a8D _))));refine a0D (a0G (a0D (a0D ?_)));refine a0D (a4J ty (a0G (a0D (a7B e rfl ?_))));have own2:Builtin.Dict_items.ownsTuple "dict_itemiterator"=true:=by decide
 simp only[own2,if_true];refine show wpAny _ _ (if(Value.ref d==Value.none)=true then _ else _) _ _ s from(wA (show ¬((Value.ref d==Value.none)=true)from a1H))▸a0D (a0G (a0D (a4V ho hd ?_)))
 rw[wA (by simp)];refine a0D (a0G (a0D (a6R ho hd ?_)));rw[wA (by simp)];refine a0G ?_;have at0:(if((i:Nat):Int)<0 then none else es[((i:Nat):Int).toNat]?)=some en:=by
  rw[wA (by lia),a1U];exact hx
 show wpAny _ _ (match (if((i:Nat):Int)<0 then none else es[((i:Nat):Int).toNat]?)with|some e=>_|none=>_) _ _ s;rw[at0];refine a0D (a0D (a4J ty (a0G (a0D (a7Y ty ?_)))));refine show wpAny _ _ (setField (.ref it) 3 (rawInt ((i:Int)+1)) >>= _) _ _ s from a0D (a3I e (by simp) fun h1 e1 s1=>wpAny_bind (wpAny_holding ?_))
 have e1':h1.get? it=some (a6g own out d (i+1) es.size ep k0 v0):=by
  have z:((i+1:Nat):Int)=(i:Int)+1:=by lia
  unfold a6g;rw[z];simpa[rawInt]using e1
 have ty1:Shared.TypeIs {s with heap:=h1} (.ref it) "dict_itemiterator":=⟨_,e1',rfl⟩;refine a0D (a7Y ty1 (a0D (a7Y ty1 ?_)));have sz:h1.objs.size=s.heap.objs.size:=s1.1;refine show wpAny _ _ (Builtin.Dict_items.pairFromOwner (.ref it) 6 en.key en.val) _ _ {s with heap:=h1}from c7b (s:={s with heap:=h1}) e1' (c.imp id ?_) fun h2 G2 p2 k2=>?_
 ·rintro⟨a,ea,na,oa,z⟩;exact⟨a,ea,na,oa,s1.extBut _ _ na z⟩
 ·have p2':h2.get? s.heap.objs.size=some (a2y en.key en.val):=by rw[<-sz];exact p2
  show wpAny _ _ (ret (.ref h1.objs.size)) _ _ _;rw[sz];exact a0G ⟨_,rfl,a0G (q h2 G2 p2' fun b o nb z=>k2 b o nb (s1.extBut _ _ nb z))⟩
theorem d1y{Q:Option Vl->Sh->Prop}(hh:A.handled=none)(G:Goer s.heap it d i es.size ep)(L:Lies s.heap d es ep)(hx:es[i]? =none)
  (q: ∀h',Heap.ExtBut it s.heap h'->Q none {s with heap:=h'}):wpAny (model P w) A (pyNext (.ref it)) Q E s:=by
 obtain⟨own,out,k0,v0,e,c⟩:=G;obtain⟨o,ho,_,hd⟩:=L;have ty:s.TypeIs (.ref it) "dict_itemiterator":=⟨_,e,rfl⟩;unfold pyNext;refine a0D (a5X (a2U (name:=Str.ofString "__next__") ty a3V (a2N a3V ty a8J ?_ (a8D _))));refine a0D (a0G (a0D (a0D ?_)));refine a0D (a4J ty (a0G (a0D (a7B e rfl ?_))));have own2:Builtin.Dict_items.ownsTuple "dict_itemiterator"=true:=by decide
 simp only[own2,if_true];refine show wpAny _ _ (if(Value.ref d==Value.none)=true then _ else _) _ _ s from(wA (show ¬((Value.ref d==Value.none)=true)from a1H))▸a0D (a0G (a0D (a4V ho hd ?_)))
 rw[wA (by simp)];refine a0D (a0G (a0D (a6R ho hd ?_)));rw[wA (by simp)];refine a0G ?_;have at0:(if((i:Nat):Int)<0 then none else es[((i:Nat):Int).toNat]?)=none:=by
  rw[wA (by lia),a1U];exact hx
 show wpAny _ _ (match (if((i:Nat):Int)<0 then none else es[((i:Nat):Int).toNat]?)with|some e=>_|none=>_) _ _ s;rw[at0];refine a0D (a0D (a4J ty (a0G ?_)));refine show wpAny _ _ (setField (.ref it) 2 .none >>= _) _ _ s from a0D (a3I e (by simp) fun h1 e1 sb=>?_)
 refine a0D (m:=newExc _ _) ?_;simp only[newExc,newTuple];refine a0D (a2S ?_ (by size_fits));refine a0D (m:=firstArgMember _ _) (b0Q (a:=Value.none) (by first|rfl|(unfold firstArgMember;rfl)) (wpAny_newObj_type ?_ (by size_fits)));refine a9I (by simpa using hh) (wpAny_bind (wpAny_isInstance (T:="StopIteration") (b:=true) ⟨_,Heap.get?_push_size _ rfl,rfl⟩ isSubtype_stop (wpAny_pure ?_)));exact q _ fun b o nb z=>a0H _ (a0H _ (sb.extBut b o nb z))
end
structure PMade(es:Array DictEntry)(lo:Ad)(h:Heap)(as:As):Prop where
 far: ∀a∈as,lo<a
 up:as.Pairwise (· < ·)
 is: ∀(j:Nat) (a:Ad),as[j]? =some a-> ∃en:DictEntry,es[j]? =some en/\h.get? a=some (a2y en.key en.val)
theorem PMade.nil{es:Array DictEntry}{lo:Ad}{h:Heap}:PMade es lo h []:=⟨fun _ z=>(nomatch z),.nil,fun _ _ z=>by simp at z⟩
theorem PMade.here{es:Array DictEntry}{lo:Ad}{h:Heap}{as:As}(m:PMade es lo h as): ∀a∈as,a<h.objs.size:=fun a ha=>by
 obtain⟨j,e⟩:=a1F.mp ha;obtain⟨_,_,g⟩:=m.is j a e;exact a0U g
theorem PMade.keep{es:Array DictEntry}{lo:Ad}{h h':Heap}{as:As}(m:PMade es lo h as)(k: ∀b o,lo<b->h.get? b=some o->h'.get? b=some o):PMade es lo h' as:=
 ⟨m.far,m.up,fun j a e=>by
  obtain⟨en,x,g⟩:=m.is j a e;exact⟨en,x,k a _ (m.far a (a0E e)) g⟩⟩
theorem PMade.more{es:Array DictEntry}{lo a:Ad}{h:Heap}{as:As}{en:DictEntry}(m:PMade es lo h as)(la:lo<a)(new: ∀b∈as,b<a)(x:es[as.length]? =some en)(g:h.get? a=some (a2y en.key en.val)):PMade es lo h (as++[a]):=
  ⟨fun b hb=>by
    rcases a0Q.mp hb with z|z
    · exact m.far b z
    · rw[a0J.mp z];exact la,
   a1T.mpr ⟨m.up,a3R _ _,fun b hb c hc=>by rw[a0J.mp hc];exact new b hb⟩,
   fun j b e=>by
    by_cases hj:j<as.length
    · rw[a0N hj]at e
      exact m.is j b e
    · rw[a0M (a8O hj)]at e
      obtain⟨z,e'⟩:=a0B.mp e;have j0:j-as.length=0:=by simp at z;lia
      have jj:j=as.length:=by lia
      subst jj;simp at e';subst e';exact⟨en,x,g⟩⟩
section
variable{P:Pg}{w:World}{A:Ar}{R:Result->Sh->Prop}{S I d:Ad}{ep:Nat}{es:Array DictEntry}{res:Vl}
abbrev c7d(h:Heap)(S:Ad)(vs:AV)(c:Nat):Prop:=h.get? S=some {cls:= .type "list",data:= .seq vs c}
theorem fill(hh:A.handled=none)(SI:S<I)(dS:d≠S)(dI:d≠I)(fit:es.size<=sizeLine): ∀(r i:Nat) (s:Sh) (as:As) (c:Nat),i+r=es.size->as.length=i->Goer s.heap I d i es.size ep->Lies s.heap d es ep->
      c7d s.heap S (as.map Value.ref).toArray c->PMade es I s.heap as->
      (∀h' bs c',bs.length=es.size->PMade es I h' bs->c7d h' S (bs.map Value.ref).toArray c'->(∀b o,b≠S->b≠I->s.heap.get? b=some o->h'.get? b=some o)->R (.ok (.ret res)) {s with heap:=h'})->
      codeAny (model P w) A (.builtin "list.extend.loop" ⟨[.ref S,.ref I,res],[]⟩) R s:=by
  have nSI:S≠I:=a1M SI;intro r
  induction r with
  | zero=>
    intro i s as c hi hl G L lS M q;refine a5N F.entry_extend_loop ?_;rw[a4Q a5Y _];refine show wpAny _ A.in1 (pyNext (.ref I) >>= _) _ _ s from a0D (d1y (by simpa using hh) G L (Array.getElem?_eq_none (by lia)) fun h' x=>wpAny_pure ?_)
    exact q h' as c (by lia) (M.keep fun b o lb e=>x b o (a5A lb) e) (x S _ nSI lS) fun b o _ nb e=>x b o nb e
  | succ r ih=>
    intro i s as c hi hl G L lS M q;obtain⟨en,hx⟩: ∃en,es[i]? =some en:=⟨es[i]'(by lia),a1R (by lia)⟩;have szI:I<s.heap.objs.size:=by
      obtain⟨_,_,_,_,e,_⟩:=G;exact a0U e
    have szS:S<s.heap.objs.size:=a0U lS;refine a5N F.entry_extend_loop ?_;rw[a4Q a5Y _];refine show wpAny _ A.in1 (pyNext (.ref I) >>= _) _ _ s from a0D (c7c G L hx fun h1 G1 p1 k1=>?_)
    have lS1:=k1 S _ nSI lS;refine show wpAny _ A.in1 (updateSeq S (·.push (Value.ref s.heap.objs.size)) >>= _) _ _ {s with heap:=h1}from a0D (a9J lS1 rfl (a0G ⟨a7P a5Y _,?_⟩) ?_ ?_)
    · have off: ∀b o,b≠S->h1.get? b=some o->(h1.update S (Obj.mapSeq (·.push (Value.ref s.heap.objs.size)))).get? b=some o:=fun b o nb e=>(a1Z _ _ (a3T nb)).trans e
      have lS2:=a4I (Obj.mapSeq (·.push (Value.ref s.heap.objs.size))) lS1 rfl;obtain⟨od,h0,x0,y0⟩:=L;have M1:PMade es I h1 as:=M.keep fun b o lb e=>k1 b o (a5A lb) e
      refine ih (i+1) {s with heap:=h1.update S (Obj.mapSeq (·.push (Value.ref s.heap.objs.size)))} (as++[s.heap.objs.size]) _ (by lia) (by simp[hl]) (G1.keep (fun o e=>off I o (Ne.symm nSI) e) fun b o e=>?_)
        ⟨od,off d od dS (k1 d od dI h0),x0,y0⟩ (by simpa[Obj.mapSeq,List.map_append]using lS2) ?_ fun h' bs c' l' M' lS' k'=>q h' bs c' l' M' lS' fun b o n1 n2 e=>k' b o n1 n2 (off b o n1 (k1 b o n2 e))
      · by_cases hb:b=S
        · subst hb
          exact⟨_,lS2⟩
        · exact⟨o,off b o hb e⟩
      · exact(M1.keep fun b o lb e=>off b o (a5A (a9P SI lb)) e).more szI M.here (hl▸hx) (off _ _ (a5A szS) p1)
    · simp;lia
    · simp;lia
end
section
variable{P:Pg}{w:World}{A:Ar}{E:VP}{s:Sh}{v d:Ad}{ep:Nat}{es:Array DictEntry}
abbrev a7j(d:Ad):Obj:={cls:= .type "dict_items",data:= .fields #[.ref d]}
theorem Lies.typeIs{s:Sh}(L:Lies s.heap d es ep):s.TypeIs (.ref d) "dict":=let⟨o,h,x,_⟩:=L;⟨o,h,x.1⟩
theorem c7e{Q:VP}(nd:(d==sysModules)=false)(L:Lies s.heap d es ep)(q:Q (.ref s.heap.objs.size) {s with heap:=s.heap.push (a7j d)}):wpAny (model P w) A (call (.builtin "dict.items") [.ref d]) Q E s:=by
 refine call_meetsIn (S:=fun _ R s=>Lies s.heap d es ep/\R (.ok (.ret (.ref s.heap.objs.size))) {s with heap:=s.heap.push (a7j d)}) F.slot_dict_items L.typeIs F.entry_dict_items (F.args_dict_items_1 _) (.of_wp fun A R s ⟨L,r⟩=>?_) ⟨L,q⟩;unfold Builtin.«dict.items» Builtin.Dict.noArgs;refine a0D (a0D (wpAny_notOrdered_dict L.typeIs ?_));refine show wpAny _ _ (pure d) _ _ s from a0G (show wpAny _ _ (Builtin.Dict.showsAll d >>= _) _ _ s from ?_)
 have all:Builtin.Dict.showsAll d=pure ():=by
  unfold Builtin.Dict.showsAll;rw[nd];rfl
 rw[all];exact a0D (a0G (a0D (a2S (a0G ⟨_,rfl,r⟩))))
theorem c7f{Q:VP}(ev:s.heap.get? v=some (a7j d))(L:Lies s.heap d es ep)(q:Q (.ref s.heap.objs.size) {s with heap:=s.heap.push (a6g .none false d 0 es.size ep .none .none)}):wpAny (model P w) A (pyIter (.ref v)) Q E s:=by
 have ty:s.TypeIs (.ref v) "dict_items":=⟨_,ev,rfl⟩;obtain⟨o,ho,_,hd⟩:=L;refine a5P ty F.slot_dict_items_iter (a2N F.slot_dict_items_iter ty F.entry_dict_items_iter ?_ (F.args_dict_items_iter_1 _));unfold Builtin.«dict_items.__iter__» Builtin.Dict_items.dictOf Builtin.Dict_items.newIterator;refine a0D (a0G (a0D (a0D (a6P ev rfl (x:= .ref d) rfl (a0G (a0D (a0D (a4V ho hd (a0D (a6R ho hd ?_))))))))));refine show wpAny _ _ (newFields "dict_itemiterator" [.none,.bool false,.ref d,rawInt 0,rawInt (es.size:Nat),rawInt (ep:Nat),.none,.none]) _ _ s from a2S (a0G ⟨_,rfl,"dict_itemiterator",_,⟨_,a0X _ rfl,rfl⟩,a3V.lookup,q⟩) (by size_fits)
theorem c7g{Q:Bool->Sh->Prop}(ty:s.TypeIs (.ref v) "dict_items")(q:Q false s):wpAny (model P w) A (Builtin.List.listLengthHint (.ref v)) Q E s:=PySem.W.kdx_hint ty q
theorem b7g{Q:VP}(hh:A.handled=none)(ev:s.heap.get? v=some (a7j d))(L:Lies s.heap d es ep)(fit:es.size<=sizeLine)
  (q: ∀h' as c tk,as.length=es.size->PMade es s.heap.objs.size h' as->c7d h' s.heap.objs.size (as.map Value.ref).toArray c->(∀b o,s.heap.get? b=some o->h'.get? b=some o)->Q (.ref s.heap.objs.size) {s with heap:=h',toks:=tk}):
  wpAny (model P w) A (call (.type "list") [.ref v]) Q E s:=by
 let S:=s.heap.objs.size
 obtain⟨o,ho,x,hd⟩:=id L;have ld:d<S:=a0U ho;have lv:v<S:=a0U ev;refine callType_codes (Q₁:=fun obj s₁=>obj= .ref S/\s₁={s with heap:=s.heap.push {cls:= .type "list",data:= .seq #[]}}) F.called_list (F.typeCall_list_1 _) F.entry_list_init (code_list_new _ ⟨rfl,rfl⟩) fun obj s1 z=>?_;obtain⟨rfl,rfl⟩:=z;have lS:c7d (s.heap.push {cls:= .type "list",data:= .seq #[]}) S #[] 0:=a0X _ rfl;refine⟨⟨_,lS,rfl⟩,F.args_list_init_2 _ _,?_⟩;unfold Builtin.«list.__init__» Builtin.List.listItems;refine a0D (a0D (wpAny_seqItems lS rfl (a0G ?_)));refine a0D (m:=updateSeq S _) (a9J lS rfl (a0D (wpAny_letGo ?_)));have lS1:=a4I (Obj.mapSeq (fun _=>(#[]:AV))) lS rfl
 let h1:=(s.heap.push {cls:= .type "list",data:= .seq #[]}).update S (Obj.mapSeq (fun _=>(#[]:AV)))
 have k1: ∀b o,s.heap.get? b=some o->h1.get? b=some o:=fun b o e=>(a1Z _ _ (a5A (a0U e))).trans (a0H _ e);have sz1:h1.objs.size=S+1:=by
  show(Heap.update _ _ _).objs.size=_;simp[Heap.update,Heap.push,S]
 have go: ∀(h2:Heap) (c tk:Nat),c7d h2 S #[] c->(∀b o,b≠S->(h1.push (a6g .none false d 0 es.size ep .none .none)).get? b=some o->h2.get? b=some o)->
   codeAny (model P w) A.in1 (.builtin "list.extend.loop" ⟨[.ref S,.ref h1.objs.size,.none],[]⟩) (wants (fun r s₂=>r=Value.none/\Q (Value.ref S) s₂) E) {s with heap:=h2,toks:=tk}:=fun h2 c tk l2 k2=>by
  have SI:S<h1.objs.size:=by rw[sz1];exact a3U _
  have k12: ∀b o,s.heap.get? b=some o->h2.get? b=some o:=fun b o e=>k2 b o (a1M (a0U e)) (a0H _ (k1 b o e));refine fill (by simpa using hh) SI (Nat.ne_of_lt ld) (Nat.ne_of_lt (Nat.lt_trans ld SI)) fit es.size 0 {s with heap:=h2,toks:=tk} [] c (by lia) rfl ⟨_,_,_,_,k2 _ _ (Nat.ne_of_gt SI) (Heap.get?_push_size _ rfl),.inl rfl⟩ ⟨o,k12 d o ho,x,hd⟩ l2 .nil fun h' as c' l' M' lS' k'=>?_;refine⟨rfl,q h' as c' tk l' ⟨fun a ha=>a9P SI (M'.far a ha),M'.up,M'.is⟩ lS' fun b o e=>?_⟩;have lb:b<S:=a0U e;exact k' b o (a1M lb) (a1M (a9P lb SI)) (k12 b o e)
 refine show wpAny _ _ (Builtin.List.listExtendWith (.ref S) (.ref v) .none) _ _ _ from ?_
 unfold Builtin.List.listExtendWith;have ev1:=k1 v _ ev;refine a0D (a8H (T:="dict_items") ⟨_,ev1,rfl⟩ ?_);have no:(Builtin.List.listSameRef (.ref S) (.ref v) || Value.type "dict_items"==Value.type "list" || Value.type "dict_items"==Value.type "tuple")=false:=by
  have z:Builtin.List.listSameRef (.ref S) (.ref v)=false:=by simp[Builtin.List.listSameRef,Nat.ne_of_gt lv]
  rw[z];decide
 rw[no,wA (by decide)];refine a0D (c7f ev1 ⟨o,k1 d o ho,x,hd⟩ (a0D (a2T (c7g ⟨_,a0H _ ev1,rfl⟩ ?_))));have lS2:=a0H (a6g .none false d 0 es.size ep .none .none) lS1;refine b0G (fun _=>?_) fun _=>a0G ⟨a7P a5Y _,go _ _ _ lS2 fun _ _ _ e=>e⟩;unfold Builtin.List.listTouch Builtin.List.listUpdate;refine a0D (a6F (a0D (a0D (m:=updateSeq S _) (a9J lS2 rfl ?_))));have lS3:=a4I (Obj.mapSeq (·.push Value.none)) lS2 rfl;refine show wpAny _ _ (updateSeq S (·.pop)) _ _ _ from a9J (hz:=by seq_fits) lS3 rfl (a0G ⟨a7P a5Y _,go _ _ _ (a4I (Obj.mapSeq (·.pop)) lS3 rfl) fun b o nb e=>?_⟩)
 rw[a1Z _ _ (a3T nb),a1Z _ _ (a3T nb)];exact e
end
def lay(H:Hp):List (Ad×HO)->Hp
 | []=>H
 |p::l=>lay (upd H p.1 p.2) l
theorem b9f: ∀{l:List (Ad×HO)} {H:Hp} {b:Ad},(∀p∈l,b≠p.1)->lay H l b=H b
 | [],_,_,_=>rfl
 |p::l,H,b,n=>by
  show lay (upd H p.1 p.2) l b=_;rw[b9f fun q hq=>n q (a1D _ hq),a0f (n p (a0T ..))]
theorem c7h: ∀{l:List (Ad×HO)} {H:Hp} {p:Ad×HO},(l.map (·.1)).Nodup->p∈l->lay H l p.1=some p.2
 | q::l,H,p,nd,hp=>by
  obtain⟨h1,h2⟩:=a3F.mp nd
  rcases a1L.mp hp with rfl|hp
  ·show lay (upd H p.1 p.2) l p.1=_;rw[b9f fun r hr z=>h1 (a0R.mpr ⟨r,hr,z.symm⟩),a0a]
  ·exact c7h (l:=l) h2 hp
theorem a7x{α β:Type}{F:α->β->Prop}{l:List α}{m:List β}{j:Nat}{a:α}(r:Paired F l m)(e:l[j]? =some a): ∃b,m[j]? =some b/\F a b:=by
 induction r generalizing j with
 |nil=>simp at e
 | cons h _ ih=>
  cases j with
  |zero=>
   have z:=a1X e;subst z;exact⟨_,rfl,h⟩
  |succ j=>exact ih (by simpa using e)
section
variable{X:Cx}
theorem Inv.tracks{za:AO}{σ:St}{H0:Hp}{s s1:Sh}(I:Inv X za σ H0 s): ∀(l:List (Ad×HO)) (H:Hp),Inv X za σ H s1->(∀p∈l,s.heap.objs.size<=p.1/\H p.1=none/\ ∀H2,ObjOk X.prog X.w H2 s1.heap p.1 p.2)->(l.map (·.1)).Nodup->
  Inv X za σ (lay H l) s1
 | [],_,I1,_,_=>I1
 |p::l,H,I1,ok,nd=>by
  obtain⟨h1,h2⟩:=a3F.mp nd;obtain⟨le,n,o⟩:=ok p (a0T ..);obtain⟨f0,f1,f2,f3,f4,f5⟩:=I.fpOk (b:=p.1) (H':=H) le n;refine Inv.tracks I l _ (I1.track n (o _) (a1C I.sz le) f1 f4 f5) (fun q hq=>?_) h2;obtain⟨x,y,z⟩:=ok q (a1D _ hq);exact⟨x,by rw[a0f fun e=>h1 (a0R.mpr ⟨q,hq,e⟩)];exact y,z⟩
structure Listed(H H':Hp)(kvs:List (List Key×V))(l:Ad)(as:As):Prop where
 new:H l=none
 news: ∀a∈as,H a=none
 out:l∉as
 nd:as.Nodup
 len:as.length=kvs.length
 lst:H' l=some (.lst (as.map .ref))
 is: ∀(j:Nat) (a:Ad),as[j]? =some a-> ∃k v b,kvs[j]? =some (k,v)/\H b=some (.tup (k.map kV))/\H' a=some (.tup [.ref b,v])
 rest: ∀b,b≠l->b∉as->H' b=H b
def c7i(v d:Ad):HO:= .ext fun h=>h.get? v=some (a7j d)
def d8u:V->List V->Hp->VK->Prop:=fun x xs H Q=>xs=[]/\ ∃a kvs,x= .ref a/\H a=some (.dT kvs)/\ ∀v,H v=none->Q (.ref v) (upd H v (c7i v a))
theorem d1z:MtR X "dict.items" d8u:=by
 intro za s σ H x xs u us Q I r1 r2 h;obtain⟨rfl,a,kvs,rfl,ha,q⟩:=h;cases r1;cases r2;obtain⟨z,na,ys,rel,o,es,ep,e1,e2,e3,_⟩:=I.hok a _ ha;refine c7e na ⟨o,e1,e2,e3⟩ ⟨.ref s.heap.objs.size,_,I.laid (a:=s.heap.objs.size) (o:=c7i s.heap.objs.size a) (t':=s.toks) (fun _ _ q=>a0H _ q) (a0K _) ?_,rfl,q _ I.fresh⟩;have e:(s.heap.push (a7j a)).get? s.heap.objs.size=some (a7j a):=a0X _ rfl;exact⟨e,⟨_,e⟩,fun h1 h2 y k=>k _ y⟩
def c3t:List V->Hp->VK->Prop:=fun xs H Q=> ∃v a kvs,xs=[.ref v]/\H v=some (c7i v a)/\H a=some (.dT kvs)/\ ∀l as H',Listed H H' kvs l as->Q (.ref l) H'
theorem b1r(hc:X.calm=true):a7r X (.type "list") c3t:=by
 intro za s σ H xs us Q I r h;obtain⟨v,a,kvs,rfl,hv,ha,q⟩:=h;obtain⟨u,rfl,ru⟩:=a6y r;cases ru;obtain⟨ev,_,_⟩:=I.hok v _ hv;obtain⟨z,na,ys,rel,o,es,ep,e1,e2,e3,e4,_⟩:=I.hok a _ ha;have el:es.size=kvs.length:=by rw[a9H e4,<-a4Z rel]
 refine b7g (I.ok.hd hc) ev ⟨o,e1,e2,e3⟩ (by lia) fun h' as c tk ln M lS k=>?_;have I1:Inv X za σ H {s with heap:=h',toks:=tk}:=I.kept k;have big: ∀b,s.heap.objs.size<=b->H b=none:=fun b hb=>I.hok.fresh hb;have nd:as.Nodup:=M.up.imp fun z=>a1M z;have out:s.heap.objs.size∉as:=fun m=>a4G _ (M.far _ m);have each: ∀(j:Nat) (b:Ad),as[j]? =some b-> ∃k x y,kvs[j]? =some (k,x)/\H y=some (.tup (k.map kV))/\ ∃u,RelV x u/\h'.get? b=some (a2y (.ref y) u):=fun j b ej=>by
  obtain⟨en,ee,g⟩:=M.is j b ej;obtain⟨jl,_⟩:=a0B.mp ej;obtain⟨⟨k,x⟩,ek⟩: ∃p,kvs[j]? =some p:=⟨_,a0A (by lia)⟩;obtain⟨⟨k',y,u⟩,ey,p1,p2,p3⟩:=a7x rel ek;rw[entry_at e4,ey]at ee;cases ee;exact⟨k,x,y,ek,p2,u,p3,g⟩
 have some1: ∀b,∃o:HO,∀j:Nat,as[j]? =some b-> ∃k x y,kvs[j]? =some (k,x)/\H y=some (.tup (k.map kV))/\o= .tup [.ref y,x]/\ ∃u,RelV x u/\h'.get? b=some (a2y (.ref y) u):=fun b=>by
  by_cases hb:b∈as
  ·obtain⟨j,ej⟩:=a1F.mp hb;obtain⟨k,x,y,h1,h2,u,h3,h4⟩:=each j b ej;refine⟨.tup [.ref y,x],fun i ei=>?_⟩;have ij:j=i:=a2M (a0B.mp ej).1 nd |>.mp (ej.trans ei.symm)
   subst ij;exact⟨k,x,y,h1,h2,rfl,u,h3,h4⟩
  ·exact⟨.tup [],fun j ej=>wC (a0E ej) hb⟩
 let pr:Ad->HO:=fun b=>Classical.choose (some1 b)
 have prIs: ∀(j:Nat) (b:Ad),as[j]? =some b-> ∃k x y,kvs[j]? =some (k,x)/\H y=some (.tup (k.map kV))/\pr b= .tup [.ref y,x]/\ ∃u,RelV x u/\h'.get? b=some (a2y (.ref y) u):=fun j b ej=>a3W (some1 b) j ej;have dom:(as.map fun b=>(b,pr b)).map (·.1)=as:=by simp[List.map_map,Function.comp_def]
 have okT: ∀b∈as,∀H2,ObjOk X.prog X.w H2 h' b (pr b):=fun b hb H2=>by
  obtain⟨j,ej⟩:=a1F.mp hb;obtain⟨k,x,y,h1,h2,h3,u,h4,h5⟩:=prIs j b ej;rw[h3];exact⟨by show 2<=sizeLine;decide,[.ref y,u],.cons rfl (.cons h4 .nil),_,h5,rfl,0,rfl,rfl⟩
 have vs: ∀l:As,Vals (l.map V.ref) (l.map Value.ref):=fun l=>by
  induction l with
  |nil=>exact .nil
  |cons x l ih=>exact .cons rfl ih
 have I2:=Inv.tracks (s1:={s with heap:=h',toks:=tk}) I ((s.heap.objs.size,.lst (as.map .ref))::as.map fun b=>(b,pr b)) H I1 (fun p hp=>by
   rcases a1L.mp hp with rfl|hp
   ·exact⟨a0K _,big _ (a0K _),fun H2=>⟨by rw[a0C];lia,_,c,vs as,lS⟩⟩
   ·obtain⟨b,hb,rfl⟩:=a0R.mp hp;exact⟨a1S (M.far b hb),big _ (a1S (M.far b hb)),okT b hb⟩) (by
   rw[a2K,dom];exact a3F.mpr ⟨out,nd⟩)
 refine⟨.ref s.heap.objs.size,_,I2,rfl,q _ as _ ⟨big _ (a0K _),fun b hb=>big _ (a1S (M.far b hb)),out,nd,by lia,?_,fun j b ej=>?_,fun b h1 h2=>?_⟩⟩
 ·exact c7h (p:=(s.heap.objs.size,.lst (as.map .ref))) (by rw[a2K,dom];exact a3F.mpr ⟨out,nd⟩) (a0T ..)
 ·obtain⟨k,x,y,g1,g2,g3,_⟩:=prIs j b ej;refine⟨k,x,y,g1,g2,?_⟩;rw[<-g3];exact c7h (p:=(b,pr b)) (by rw[a2K,dom];exact a3F.mpr ⟨out,nd⟩) (a1D _ (a0R.mpr ⟨b,a0E ej,rfl⟩))
 ·refine b9f fun p hp=>?_
  rcases a1L.mp hp with rfl|hp
  ·exact h1
  ·obtain⟨y,hy,rfl⟩:=a0R.mp hp;exact fun e=>h2 (e▸hy)
end
def a3r(ws:TW)(as:As):List (List Key×V):=List.zipWith (fun p a=>(nk p.1,V.ref a)) ws as
theorem b4p{ws:TW}{as:As}{p:Nsq×Nsq}{a:Ad}(h:as.length=ws.length):a3r (ws++[p]) (as++[a])=a3r ws as++[(nk p.1,.ref a)]:=by
 unfold a3r;rw[List.zipWith_append h.symm];rfl
theorem c7j{ws:TW}{as:As}(h:as.length=ws.length):(a3r ws as).length=ws.length:=by
 unfold a3r;rw[List.length_zipWith];lia
theorem d8v{ws:TW}{as:As}{j:Nat}{p:Nsq×Nsq}{a:Ad}(hp:ws[j]? =some p)(ha:as[j]? =some a):(a3r ws as)[j]? =some (nk p.1,.ref a):=by
 unfold a3r;rw[List.getElem?_zipWith,hp,ha]
theorem b1s: ∀{ws:TW} {as:As} {x:Nsq},x∉ws.map (·.1)->b2w (a3r ws as) (nk x)=none
 | [],_,_,_=>rfl
 |_::_,[],_,_=>rfl
 |p::ws,a::as,x,h=>by
  have h1: ¬(nk p.1:List Key)=nk x:=fun z=>h (a0R.mpr ⟨p,a0T ..,c1d z⟩);exact(a7t (p:=(nk p.1,V.ref a)) (r:=a3r ws as) h1).trans (b1s fun z=>h (a1D _ z))
theorem c1f: ∀{ws:TW} {as:As} {j:Nat} {p:Nsq×Nsq} {a:Ad},(ws.map (·.1)).Nodup->ws[j]? =some p->as[j]? =some a->b2w (a3r ws as) (nk p.1)=some (.ref a)
 |q::ws,b::as,0,p,a,_,hp,ha=>by
  cases hp;cases ha;exact b0b (p:=(nk q.1,V.ref b)) (r:=a3r ws as) rfl
 |q::ws,b::as,j+1,p,a,nd,hp,ha=>by
  obtain⟨h1,h2⟩:=a3F.mp nd;have hp':ws[j]? =some p:=by simpa using hp
  have n: ¬(nk q.1:List Key)=nk p.1:=fun z=>h1 (a0R.mpr ⟨p,a0E hp',(c1d z).symm⟩);exact(a7t (p:=(nk q.1,V.ref b)) (r:=a3r ws as) n).trans (c1f h2 hp' (by simpa using ha))
 | [],_,_,_,_,_,hp,_=>by simp at hp
 |_::_,[],_,_,_,_,_,ha=>by simp at ha
structure WordsAt(H:Hp)(D:Ad)(ws:TW)(as:As):Prop where
 len:as.length=ws.length
 dict:H D=some (.dT (a3r ws as))
 list: ∀(j:Nat) (a:Ad) (p:Nsq×Nsq),as[j]? =some a->ws[j]? =some p->H a=some (.lst (p.2.map nv))
theorem WordsAt.same{H H':Hp}{D:Ad}{ws:TW}{as:As}(W:WordsAt H D ws as)(g:Same H H'):WordsAt H' D ws as:=⟨W.len,g _ _ W.dict,fun j a p h1 h2=>g _ _ (W.list j a p h1 h2)⟩
theorem WordsAt.word{H:Hp}{D:Ad}{ws:TW}{as:As}{p:Nsq×Nsq}(W:WordsAt H D ws as)(nd:(ws.map (·.1)).Nodup)(hp:p∈ws): ∃a,b2w (a3r ws as) (nk p.1)=some (.ref a)/\H a=some (.lst (p.2.map nv)):=by
 obtain⟨j,e⟩:=a1F.mp hp;obtain⟨hj,_⟩:=a0B.mp e;obtain⟨a,ea⟩: ∃a,as[j]? =some a:=⟨_,a0A (by rw[W.len];exact hj)⟩;exact⟨a,c1f nd e ea,W.list j a p ea e⟩
theorem WordsAt.put{H:Hp}{D l:Ad}{ws:TW}{as:As}{p:Nsq×Nsq}(W:WordsAt H D ws as)(hl:H l=some (.lst (p.2.map nv))):WordsAt (upd H D (.dT (a3r ws as++[(nk p.1,.ref l)]))) D (ws++[p]) (as++[l]):=by
 have nD: ∀{a:Ad} {xs:List V},H a=some (.lst xs)->a≠D:=fun h=>nE h W.dict;refine⟨by simp[W.len],by rw[a0a,b4p W.len],fun j a q h1 h2=>?_⟩;by_cases hj:j<ws.length
 ·rw[a0N (by rw[W.len];exact hj)]at h1;rw[a0N hj]at h2;have z:=W.list j a q h1 h2;rw[a0f (nD z)];exact z
 ·rw[a0M (by rw[W.len];lia)]at h1;rw[a0M (by lia)]at h2;have z:j-ws.length=0:=by
   have:=(a0B.mp h2).1;simp at this;lia
  rw[W.len,z]at h1;rw[z]at h2;cases h1;cases h2;rw[a0f (nD hl)];exact hl
def noT(H:Hp):Hp:=fun a=>match H a with
 |some (.tbl _)=>none
 |o=>o
theorem b1t{H:Hp}{a:Ad}{o:HO}(h:H a=some o)(n: ∀ps,o≠ .tbl ps):noT H a=some o:=by
 unfold noT;rw[h];cases o<;>first|rfl|exact wC rfl (n _)
def isT:HO->Bool
 | .tbl _=>true
 |_=>false
theorem nU{H:Hp}{a:Ad}{o:HO}(h:H a=some o)(d:isT o=false:=by rfl):noT H a=some o:=b1t h fun φ e=>by subst e;cases d
theorem b7h{H:Hp}{a:Ad}{o:HO}(h:noT H a=some o):H a=some o/\ ∀ps,o≠ .tbl ps:=by
 unfold noT at h;split at h
 ·cases h
 ·rename_i n
  exact⟨h,fun ps z=>n ps (by rw[h,z])⟩
theorem c1g{H:Hp}{a:Ad}(h:H a=none):noT H a=none:=by
 unfold noT;rw[h]
def Keeps(H H':Hp):Prop:=Same (noT H) H'
theorem Same.keeps{H H':Hp}(g:Same H H'):Keeps H H':=fun a o h=>g a o (b7h h).1
theorem Keeps.refl(H:Hp):Keeps H H:=(Same.refl H).keeps
theorem Keeps.trans{H H1 H2:Hp}(a:Keeps H H1)(b:Keeps H1 H2):Keeps H H2:=fun c o h=>b c o (b1t (a c o h) (b7h h).2)
def TabOk(qual:Str)(pos:Pos)(H:Hp)(T:Ad):Prop:=H T=some (.tbl #[])∨ ∃cc,H T=some (.tbl (a4e pos cc))/\H cc=some (a7i cc qual)
theorem TabOk.same{qual:Str}{pos:Pos}{H H':Hp}{T:Ad}(t:TabOk qual pos H T)(g:Same H H'):TabOk qual pos H' T:=by
 rcases t with t|⟨cc,t1,t2⟩
 ·exact .inl (g _ _ t)
 ·exact .inr ⟨cc,g _ _ t1,g _ _ t2⟩
def DefAt(K:W.Frag)(x:Str)(st:Stmt)(f:Ad)(fd:Fd)(dv cv:Vl):Prop:=
 PySem.W.codeIn K cv x=true/\(∃kV doc pm an ct,fd=PySem.W.fnOf x x (a3j st) (a2i st) (a0e st) dv kV doc pm an cv ct)/\ ∃c d sl,K.lookup f=some ⟨c,d,.func fd,sl⟩
section
variable{P:Pg}{w:World}{K:W.Frag}{mg:SV}{base:Heap}{x:Str}{st:Stmt}{f:Ad}{fd:Fd}{dv cv:Vl}{N ps:Ss}{k:Nat}{sp:Sp}
def d8w(P:Pg)(w:World)(K:W.Frag)(mg:SV)(base:Heap)(x:Str)(st:Stmt)(f:Ad)(cv:Vl)(N:Ss)(k:Nat)(sp:Sp):Prop:=
 ∀A outer s H vs Q E,sp vs H Q E->Room k (A.deeper (envOfC x (a0e st) s.heap.objs.size f cv))-> ∃t:TS,t ⟨fun _ H'=>Q .non H',Q,fun _ _=>False,fun _ _=>False⟩ (start N vs) H/\PSs (d5d CX0 P w K mg base N x (a0e st) f cv A outer s H E).nox (a2i st) t
theorem DefAt.fnOk(d:DefAt K x st f fd dv cv)(sc:FnScope N ps (a0e st))(len: ∀vs H Q E,sp vs H Q E->vs.length=ps.length)(b:d8w P w K mg base x st f cv N k sp):FnOk P w K mg base CX0 (k+1) f fd ps sp:=by
 obtain⟨hcode,⟨kV,doc,pm,an,ct,rfl⟩,_,_,_,lk⟩:=d;refine d7w lk hcode sc len fun A outer s H vs Q E hr hsp=>?_;obtain⟨t,q,h⟩:=b A outer s H vs Q E hsp hr;exact⟨t,h.nox,q⟩
def b4q(P:Pg)(w:World)(K:W.Frag)(mg:SV)(base:Heap)(x:Str)(k:Nat)(ps:Ss)(sp:Sp)(dvs:List V):Prop:=
 ∃f fd ds,FnOk P w K mg base CX0 k f fd ps sp/\mg x=some (.ref f)/\PySem.W.keepIn K (.ref f)=true/\Binds K fd ps ds/\Vals dvs ds
theorem b7i{X:Cx}{x y:Str}{k j:Nat}{ps:Ss}{sp:Sp}{c:Ad}{dvs:List V}{e:Expr}{es:List Expr}{t:TA}{p pos:Pos}(cl:b4q X.prog X.w X.K X.mg X.base x k ps sp dvs)(hr:Room k X.A)(hg:Gl X x)(hN:X.N[j]? =some y)(hc:X.env.cells.lookup y=some c)
  (hkd:X.env.scope.names.lookup y=some .cell) (hfn:X.fn y=true) (ha:PA X (e::es) t) (hdb:(x==("__debug__":Str))=false:=by decide) (he:starEach (e::es) X.env=(false,eval e X.env)::starEach es X.env:=by rfl)
  (hpl:(backTo pos (starEach es X.env)).any (·.1)=false:=by rfl):PE X (.Call (.Name x p) (e::es) [] pos) (d4a sp dvs j c t):=by
 obtain⟨f,fd,ds,F,hm,hk,hb,hd⟩:=cl;exact d1u F hr hg hm hk hb hd hN hc hkd hfn ha hdb he hpl
end
section
variable{X:Cx}
def d4c(tk tv:TE):TE:=fun σ H Q=> ∀p,H p=none->tk σ (upd H p (.dT [])) fun x H1=>tv σ H1 fun y H2=>H2 p=some (.dT [])/\ ∃b k,x= .ref b/\H2 b=some (.tup (k.map kV))/\Q (.ref p) (upd H2 p (.dT [(k,y)]))
theorem d2a{k v:Expr}{tk tv:TE}{pos:Pos}(hu:X.A.units+1<cLine)(hk:PE X k tk)(hv:PE X v tv):PE X (.Dict [some k] [v] pos) (d4c tk tv):=by
 intro za s σ H Q I q;have hn:=I.hok.fresh (a0K s.heap.objs.size);have I1:=I.laid (a:=s.heap.objs.size) (o:= .dT []) (h':=s.heap.push {cls:= .type "dict",data:= .dict #[]}) (t':=s.toks) (fun _ _ q=>a0H _ q) (a0K _) (c0w s.heap I.big);have pairs:=d0y (X:=X) (pos:=pos) hk hv d5k;have q1:=q s.heap.objs.size hn;rw[arm_eval_Dict];refine a0D (a9X ?_);have shape:(evalEachOpt [some k] X.env).zip ((evalEach [v] X.env).map fun v=>do let x <-v;standAt pos;pure x)=(pairTrees [some k] [v] X.env pos).map fun p=>(some p.1,p.2):=rfl;rw[shape,dictDisplay_pairs _ (by intro z;cases z) (by show 1<17;decide)];refine a0D ?_;unfold subDict;refine a0D (wpAny_alloc (a0D (a2T ?_)));rw[wB (by show 1<=15;decide)]
 let G:List (V×V)->Hp->Prop:=fun ps H2=>match ps with| [(x,y)]=>H2 s.heap.objs.size=some (.dT [])/\ ∃b k,x= .ref b/\H2 b=some (.tup (k.map kV))/\Q (.ref s.heap.objs.size) (upd H2 s.heap.objs.size (.dT [(k,y)]))|_=>False
 refine a0D (thn (pairs za _ σ _ G I1 q1) fun ws s2 ⟨ps,H2,I2,rel,g⟩=>?_);obtain⟨x,y,rfl⟩: ∃x y,ps=[(x,y)]:=by
  cases ps with
  |nil=>exact wE g
  |cons p ps=>
   cases ps with
   |nil=>exact⟨p.1,p.2,rfl⟩
   |cons _ _=>exact wE g
 obtain⟨e,b,key,rfl,eb,q2⟩:=g;obtain⟨u,r,rfl,ru,rr⟩: ∃u r,ws=[(u,r)]/\RelV (.ref b) u/\RelV y r:=by
  cases rel with
  | @cons _ q _ qs h t=>
   cases t;exact⟨q.1,q.2,rfl,h.1,h.2⟩
 cases ru;obtain⟨z,hd,xs,kt,dd⟩:=d5h I2.hok e;cases kt;refine a2T ?_;simp only[List.forIn_cons,List.forIn_nil];refine a0D (a0D (a0D (wpAny_dictSet_heap (show X.A.units<cLine by lia) (b3l I2.hok eb) dd (fun h' dd' hs=>?_) (by show 0<=_;exact a3K _))));refine a0G (a0G (a0G (a0G ?_)));obtain⟨o,es,ep,hq,h2,h3,h4,_,h5⟩:=dd';have key':upd H2 s.heap.objs.size (.dT [(key,y)]) b=some (.tup (key.map kV)):=by
  rw[a0f (nE eb e)];exact eb
 have ok:ObjOk X.prog X.w (upd H2 s.heap.objs.size (.dT [(key,y)])) h' s.heap.objs.size (.dT [(key,y)]):=⟨by show 1<=sizeLine;decide,hd,_,.cons ⟨rfl,key',rr⟩ .nil,o,es,ep,hq,h2,h3,h4,h5⟩;exact a0G ⟨.ref s.heap.objs.size,_,b8v I2 (by rw[e];exact True.intro) hs ⟨o,hq⟩ ok,rfl,q2⟩
end
def b0g:Sp:=fun vs H Q _=> ∃d:Ad,vs=[.ref d,.non]/\Q .non H
def a9o(G:Hp->Prop)(U:LN)(L:Nat)(g:Nsq->Nat->List Nat):Sp:=fun vs H Q _=> ∃(t:Ad) (x:Nsq) (l:Nat),vs=[.ref t,nv l]/\G H/\H t=some (.tup (x.map nv))/\x∈U/\l<L/\d8h H ((g x l).map nv) Q
def ThAt(H:Hp)(l:Ad)(ps:TW):Prop:= ∃ts:As,H l=some (.lst (ts.map .ref))/\ts.length=ps.length/\ ∀(j:Nat) (t:Ad) (p:Nsq×Nsq),ts[j]? =some t->ps[j]? =some p->H t=some (.tup (p.1.map nv))
theorem ThAt.same{H H':Hp}{l:Ad}{ps:TW}(h:ThAt H l ps)(g:Same H H'):ThAt H' l ps:=by
 obtain⟨ts,h1,h2,h3⟩:=h;exact⟨ts,g _ _ h1,h2,fun j t p e1 e2=>g _ _ (h3 j t p e1 e2)⟩
theorem ThAt.more{H:Hp}{l t:Ad}{ps:TW}{ts:As}{p:Nsq×Nsq}(h1:H l=some (.lst (ts.map .ref)))(h2:ts.length=ps.length)(h3: ∀(j:Nat) (t:Ad) (p:Nsq×Nsq),ts[j]? =some t->ps[j]? =some p->H t=some (.tup (p.1.map nv)))(ht:H t=some (.tup (p.1.map nv))):
  ThAt (upd H l (.lst (ts.map .ref++[.ref t]))) l (ps++[p]):=by
 have nl: ∀{a:Ad} {xs:List V},H a=some (.tup xs)->a≠l:=fun h=>nE h h1;refine⟨ts++[t],by rw[a0a,a1B];rfl,by simp[h2],fun j a q e1 e2=>?_⟩;by_cases hj:j<ps.length
 ·rw[a0N (by lia)]at e1;rw[a0N hj]at e2;have z:=h3 j a q e1 e2;rw[a0f (nl z)];exact z
 ·rw[a0M (by lia)]at e1;rw[a0M (by lia)]at e2;have z:j-ps.length=0:=by
   have:=(a0B.mp e2).1;simp at this;lia
  rw[h2,z]at e1;rw[z]at e2;cases e1;cases e2;rw[a0f (nl ht)];exact ht
structure Srch(H0 H:Hp)(D wa fa:Ad)(ts:As)(ws wv fo:TW)(as:As):Prop where
 g:Same H0 H
 nD:H0 D=none
 nF:H0 fa=none
 W:WordsAt H D ws as
 wl:H wa=some (.lst (ts.map .ref))
 wt: ∀(j:Nat) (t:Ad) (p:Nsq×Nsq),ts[j]? =some t->wv[j]? =some p->H t=some (.tup (p.1.map nv))
 foll:ThAt H fa fo
 wf:wa≠fa
 fas:fa∉as
 new: ∀b∈as,H0 b=none
theorem Srch.same{H0 H H':Hp}{D wa fa:Ad}{ts:As}{ws wv fo:TW}{as:As}(S:Srch H0 H D wa fa ts ws wv fo as)(k:Same H H'):Srch H0 H' D wa fa ts ws wv fo as:=
 ⟨S.g.trans k,S.nD,S.nF,S.W.same k,k _ _ S.wl,fun j t p h1 h2=>k _ _ (S.wt j t p h1 h2),S.foll.same k,S.wf,S.fas,S.new⟩
theorem Srch.more{H0 H:Hp}{D wa fa l t:Ad}{tw:As}{ws wv fo:TW}{as ts:As}{p:Nsq×Nsq}(S:Srch H0 H D wa fa tw ws wv fo as)(hl:H l=some (.lst (p.2.map nv)))(lf:l≠fa)(l0:H0 l=none)(ht:H t=some (.tup (p.1.map nv)))
  (e1:H fa=some (.lst (ts.map .ref))) (e2:ts.length=fo.length) (e3: ∀(j:Nat) (t:Ad) (p:Nsq×Nsq),ts[j]? =some t->fo[j]? =some p->H t=some (.tup (p.1.map nv))):
  Srch H0 (upd (upd H D (.dT (a3r ws as++[(nk p.1,.ref l)]))) fa (.lst (ts.map .ref++[.ref t]))) D wa fa tw (ws++[p]) wv (fo++[p]) (as++[l]):=by
 have fD:fa≠D:=nE e1 S.W.dict;have tD: ∀{a:Ad} {xs:List V},H a=some (.tup xs)->a≠D:=fun h=>nE h S.W.dict;have wD:wa≠D:=nE S.wl S.W.dict;have tF: ∀{a:Ad} {xs:List V},H a=some (.tup xs)->a≠fa:=fun h=>nE h e1;have W1:=S.W.put (l:=l) (p:=p) hl;have f1:(upd H D (.dT (a3r ws as++[(nk p.1,.ref l)]))) fa=some (.lst (ts.map .ref)):=by rw[a0f fD];exact e1
 refine⟨a1e (a1e S.g S.nD) S.nF,S.nD,S.nF,⟨W1.len,?_,fun j a q h1 h2=>?_⟩,?_,fun j a q h1 h2=>?_,?_,S.wf,?_,fun b hb=>(a0Q.mp hb).elim (S.new b) fun m=>by rw[a0J.mp m];exact l0⟩
 ·rw[a0f (a3T fD)];exact W1.dict
 ·have na:a≠fa:=fun z=>by
   subst z
   rcases a0Q.mp (a0E h1)with m|m
   ·exact S.fas m
   ·exact lf (a0J.mp m).symm
  rw[a0f na];exact W1.list j a q h1 h2
 ·rw[a0f S.wf,a0f wD];exact S.wl
 ·have z:=S.wt j a q h1 h2;rw[a0f (tF z),a0f (tD z)];exact z
 ·refine ThAt.more f1 e2 (fun j a q h1 h2=>?_) ?_
  ·have z:=e3 j a q h1 h2;rw[a0f (tD z)];exact z
  ·rw[a0f (tD ht)];exact ht
 ·intro m
  rcases a0Q.mp m with m|m
  ·exact S.fas m
  ·exact lf (a0J.mp m).symm
section
variable{X:Cx}{H0:Hp}{a st D wa fa:Ad}{sd:Fd}{ps:Ss}{x0:Nsq}{L:Nat}{U:LN}{g:Nsq->Nat->List Nat}
abbrev d8x(X:Cx):TS:=d0i (d0n (d3y X 2 (a8v (a9k 7) (a8v (a9k 8) c0r))) (a5z 9)) (tIfS (tB (c6b (a9k 9) (a9k 4)))
 (d0i (d8e (a9k 4) (a9k 9) (tOp (d8j X.K) (d8d (a9k 4) (a9k 7)) (d7u (a8v (a9k 8) c0r)))) (d0i (d0l (d0s b0g [] E0 (a8v (a9k 4) (a8v (a9k 3) c0r)))) (d0l (tBM X.K "list" c5q (a9k 6) (a8v (a9k 9) c0r))))) d7m)
theorem c7k{d i j:Nat}{ws wv fo:TW}{as ts:As}{th:Ad}{t:Nsq×Nsq}{H:Hp}{En:Ends}{o9:Option V}(hr:Room 5 X.A)(hst:H0 st=some (b4n st sd))(h0:x0∈U)(hU: ∀x∈U,∀l,l<L->g x l∈U)(few:U.length<=4000)
  (hF:FnOk X.prog X.w X.K X.mg X.base CX0 5 st sd ps (a9o (Same H0) U L g)) (hB:Binds X.K sd ps []) (B:Bfs g L x0 d ws wv fo i j) (ht:wv[i]? =some t) (hj:j<L) (hd:d+1<=ws.length) (S:Srch H0 H D wa fa ts ws wv fo as) (hth:H th=some (.tup (t.1.map nv)))
  (next: ∀ws' fo' as' H' v,Bfs g L x0 d ws' wv fo' i (j+1)->Srch H0 H' D wa fa ts ws' wv fo' as'->ws'.length+fo.length=ws.length+fo'.length->H' th=some (.tup (t.1.map nv))->En.nx [some (.ref a),some (nv L),some (.ref st),some .non,some (.ref D),some (.ref wa),some (.ref fa),some (.ref th),some (nv j),some v] H'):
  d8x X En [some (.ref a),some (nv L),some (.ref st),some .non,some (.ref D),some (.ref wa),some (.ref fa),some (.ref th),some (nv j),o9] H:=by
 have tw:=(B.wave t (a0E ht)).1;have tU:t.1∈U:=by
  obtain⟨r1,r2⟩:=B.run t tw;rw[<-r2];exact a8z h0 hU t.2 r1
 have fewW:ws.length<=4000:=by
  have z:(ws.map (·.1)).length<=U.length:=a7w B.keys fun x hx=>by
   obtain⟨p,hp,rfl⟩:=a0R.mp hx;obtain⟨r1,r2⟩:=B.run p hp;rw[<-r2];exact a8z h0 hU p.2 r1
  rw[a0C]at z;lia
 refine⟨_,rfl,st,sd,rfl,S.g _ _ hst,_,rfl,_,rfl,S.g _ _ hst,5,ps,_,hF,hr,hB,th,t.1,j,rfl,S.g,hth,tU,hj,fun fn H1 g1 e1=>?_⟩;have S1:=S.same g1;have hth1:=g1 _ _ hth;refine⟨_,rfl,_,rfl,D,_,rfl,DGet.t S1.W.dict (by rw[a7a];exact e1),_,rfl,?_⟩;by_cases hm:g t.1 j∈ws.map (·.1)
 ·obtain⟨p,hp,e⟩:=a0R.mp hm;obtain⟨c,v1,_⟩:=S1.W.word B.keys hp;rw[<-e,v1];rw[wA (by simp)];exact next ws fo as H1 _ (B.old ht hm) S1 rfl hth1
 ·rw[b1s hm];refine b1c ?_;obtain⟨tw,tl⟩:=B.wave t (a0E ht);obtain⟨c,v1,v2⟩:=S1.W.word B.keys tw;have dg:DGet H1 D (.ref th) (some (.ref c)):=v1▸DGet.t S1.W.dict (by rw[a7a];exact hth1);refine⟨_,rfl,_,rfl,D,_,rfl,dg,_,rfl,by show 1<=sizeLine;decide,fun p hp=>?_⟩;have k2:=a0c hp (.lst [nv j]);refine⟨c,p,_,_,rfl,rfl,SqL.of (k2 _ _ v2),SqL.of a0a,by rw[a0C,tl,a0Y];show d+1<=_;lia,fun l hl=>?_⟩;have k3:=k2.trans (a0c hl (.lst (t.2.map nv++[nv j])));have S3:=S1.same k3;have e3:=k3 _ _ e1;have hl3:upd (upd H1 p (.lst [nv j])) l (.lst (t.2.map nv++[nv j])) l=some (.lst ((t.2++[j]).map nv)):=by rw[a0a,a1B];rfl
  have hth3:=k3 _ _ hth1;obtain⟨tf,f1,f2,f3⟩:=S3.foll;have lf:l≠fa:=fun z=>by
   obtain⟨_,q1,_⟩:=S1.foll;have q2:=k2 _ _ q1;rw[<-z,hl]at q2;cases q2
  generalize upd (upd H1 p (.lst [nv j])) l (.lst (t.2.map nv++[nv j]))=H3 at S3 e3 hl3 hth3 f1 f3⊢;refine⟨_,rfl,_,rfl,D,_,rfl,DPut.t S3.W.dict (by rw[a7a];exact e3) (by rw[c7j S3.W.len,a0Y];lia),?_⟩;rw[b4j _ (b1s hm)];have fD:fa≠D:=nE f1 S3.W.dict;have thD:th≠D:=nE hth3 S3.W.dict;have thF:th≠fa:=nE hth3 f1;have ffD:(upd H3 D (.dT (a3r ws as++[(nk (g t.1 j),.ref l)]))) fa=some (.lst (tf.map .ref)):=by rw[a0f fD];exact f1
  have fl:tf.length<=4000:=by
   have z:(fo.map (·.1)).length<=ws.length:=by
    rw[<-a0C (f:=(·.1)) (as:=ws)];refine a7w ?_ fun x hx=>?_
    ·refine(a5Q.mpr (B.fup.imp_of_mem fun {p q} hp hq h z=>?_));have r1:=(B.run p (B.foll p hp).1).2;have r2:=(B.run q (B.foll q hq).1).2;obtain⟨i1,e1⟩:=a1F.mp (B.foll p hp).1;obtain⟨i2,e2⟩:=a1F.mp (B.foll q hq).1;have ii:i1=i2:=(a2M (by rw[a0C];exact(a0B.mp e1).1) B.keys).mp (by rw[a0F,a0F,e1,e2];exact a1W some z);subst ii;rw[e1]at e2;cases e2;exact d8t h
    ·obtain⟨p,hp,rfl⟩:=a0R.mp hx;exact a0R.mpr ⟨p,(B.foll p hp).1,rfl⟩
   rw[a0C]at z;lia
  refine⟨_,rfl,_,rfl,D,rfl,_,rfl,.inl ⟨rfl,_,SqL.of ffD⟩,_,rfl,fa,_,_,rfl,rfl,ffD,by rw[a0C,a0Y];lia,?_⟩;exact next (ws++[(g t.1 j,t.2++[j])]) (fo++[(g t.1 j,t.2++[j])]) (as++[l]) _ _ (B.new ht hj hm) (S3.more (p:=(g t.1 j,t.2++[j])) hl3 lf ((S1.g.trans k2).free hl) e3 f1 f2 f3) (by simp;lia) (by rw[a0f thF,a0f thD];exact hth3)
abbrev d8y(X:Cx):TS:=tFor (d7o X.K (a9k 5)) (a5z 7) (tFor (d7p (a8v (a9k 1) c0r)) (a5z 8) (d8x X))
theorem c7l{d:Nat}{ws0 wv:TW}{as0 ts:As}{H:Hp}{En:Ends}{o7 o8 o9:Option V}(hr:Room 5 X.A)(hst:H0 st=some (b4n st sd))(h0:x0∈U)(hU: ∀x∈U,∀l,l<L->g x l∈U)(few:U.length<=4000)(fewL:L<=4000)
  (hF:FnOk X.prog X.w X.K X.mg X.base CX0 5 st sd ps (a9o (Same H0) U L g)) (hB:Binds X.K sd ps []) (B:Bfs g L x0 d ws0 wv [] 0 0) (hd:d+1<=ws0.length) (S:Srch H0 H D wa fa ts ws0 wv [] as0) (lt:ts.length=wv.length)
  (next: ∀ws fo as H' o7 o8 o9,Bfs g L x0 d ws wv fo wv.length 0->Srch H0 H' D wa fa ts ws wv fo as->ws.length=ws0.length+fo.length->En.nx [some (.ref a),some (nv L),some (.ref st),some .non,some (.ref D),some (.ref wa),some (.ref fa),o7,o8,o9] H'):
  d8y X En [some (.ref a),some (nv L),some (.ref st),some .non,some (.ref D),some (.ref wa),some (.ref fa),o7,o8,o9] H:=by
 let Pv:Nat->L2.St->Hp->Prop:=fun i σ H'=> ∃ws fo as o7 o8 o9,Bfs g L x0 d ws wv fo i 0/\Srch H0 H' D wa fa ts ws wv fo as/\ws.length=ws0.length+fo.length/\
  σ=[some (.ref a),some (nv L),some (.ref st),some .non,some (.ref D),some (.ref wa),some (.ref fa),o7,o8,o9]
 refine⟨_,rfl,wa,rfl,⟨_,SqL.of S.wl⟩,a4n (xs:=ts.map .ref) Pv ⟨ws0,[],as0,o7,o8,o9,B,S,by simp,rfl⟩ (fun i σ H' _ p=>?_) (fun i x σ H' hx p=>?_) (fun σ H' p=>?_)⟩
 ·obtain⟨_,_,_,_,_,_,_,S1,_⟩:=p;exact SqL.of S1.wl
 ·obtain⟨ws,fo,as,p7,p8,p9,B1,S1,l1,rfl⟩:=p;rw[a0F]at hx;obtain⟨th,eth,rfl⟩:=a0O.mp hx;obtain⟨hi,_⟩:=a0B.mp eth;obtain⟨t,ht⟩: ∃t,wv[i]? =some t:=⟨_,a0A (by lia)⟩
  let Pj:Nat->L2.St->Hp->Prop:=fun j σ H2=> ∃ws fo as o8 o9,Bfs g L x0 d ws wv fo i j/\Srch H0 H2 D wa fa ts ws wv fo as/\ws.length=ws0.length+fo.length/\
   σ=[some (.ref a),some (nv L),some (.ref st),some .non,some (.ref D),some (.ref wa),some (.ref fa),some (.ref th),o8,o9]
  refine⟨_,rfl,(L:Int),rfl,by lia,by lia,a7q Pj ⟨ws,fo,as,p8,p9,B1,S1,l1,rfl⟩ (fun j σ H2 hj p=>?_) (fun σ H2 p=>?_)⟩
  ·obtain⟨ws',fo',as',q8,q9,B2,S2,l2,rfl⟩:=p;have z:(0:Int)+((j:Nat):Int)=((j:Nat):Int):=by lia
   rw[z];refine c7k (t:=t) hr hst h0 hU few hF hB B2 ht (by simpa using hj) (by lia) S2 (S2.wt i th t eth ht) fun w3 f3 a3 H3 v B3 S3 l3 _=>⟨w3,f3,a3,_,_,B3,S3,by lia,rfl⟩
  ·obtain⟨ws',fo',as',q8,q9,B2,S2,l2,rfl⟩:=p;exact⟨ws',fo',as',_,_,_,Bfs.next (by simpa using B2) ht,S2,l2,rfl⟩
 ·obtain⟨ws,fo,as,p7,p8,p9,B1,S1,l1,rfl⟩:=p;rw[a0C,lt]at B1;exact next ws fo as H' p7 p8 p9 B1 S1 l1
abbrev d8z(X:Cx):TS:=d0i (d0n (d4c (a9k 0) (d7u c0r)) (a5z 4)) (d0i (d0l (d0s b0g [] E0 (a8v (a9k 4) (a8v (a9k 3) c0r)))) (d0i (d0n (d7u (a8v (a9k 0) c0r)) (a5z 5))
 (d0i (d3m (fun σ H_1 Q=>a9k 5 σ H_1 fun x H'=> ∃k,TruV X.K x H' k/\Q k H') (d0i (d0n (d7u c0r) (a5z 6)) (d0i (d8y X) (d0n (a9k 6) (a5z 5))))) (tRet (a9k 4)))))
theorem d9a{d i j:Nat}{ws wv fo:TW}(h0:x0∈U)(hU: ∀x∈U,∀l,l<L->g x l∈U)(B:Bfs g L x0 d ws wv fo i j):ws.length<=U.length:=by
 rw[<-a0C (f:=(·.1)) (as:=ws)];exact a7w B.keys fun x hx=>by
  obtain⟨p,hp,rfl⟩:=a0R.mp hx;obtain⟨r1,r2⟩:=B.run p hp;rw[<-r2];exact a8z h0 hU p.2 r1
theorem c3u{En:Ends}(hr:Room 5 X.A)(ha:H0 a=some (.tup (x0.map nv)))(hst:H0 st=some (b4n st sd))(h0:x0∈U)(hU: ∀x∈U,∀l,l<L->g x l∈U)(few:U.length<=4000)(fewL:L<=4000)
  (hF:FnOk X.prog X.w X.K X.mg X.base CX0 5 st sd ps (a9o (Same H0) U L g)) (hB:Binds X.K sd ps []) (q: ∀D ws as H',Same H0 H'->WordsAt H' D ws as->(∀b∈D::as,H0 b=none)->Told g L x0 ws->En.rt (.ref D) H'):
  d8z X En [some (.ref a),some (nv L),some (.ref st),some .non,none,none,none,none,none,none] H0:=by
 intro D hD;have kD:=a0c hD (.dT []);refine⟨_,rfl,by show 0<=sizeLine;decide,fun l hl=>?_⟩;have kl:=a0c hl (.lst []);refine⟨kl _ _ a0a,a,nk x0,rfl,by rw[a7a];exact(kD.trans kl) _ _ ha,?_⟩;have lD:l≠D:=fun z=>by
  subst z;rw[a0a]at hl;cases hl
 have W0:WordsAt (upd (upd (upd H0 D (.dT [])) l (.lst [])) D (.dT [(nk x0,.ref l)])) D [(x0,[])] [l]:=⟨rfl,a0a,fun j b p h1 h2=>by
  cases j with
  |zero=>
   cases h1;cases h2;rw[a0f lD,a0a];rfl
  |succ j=>simp at h1⟩
 have g0:Same H0 (upd (upd (upd H0 D (.dT [])) l (.lst [])) D (.dT [(nk x0,.ref l)])):=a1e (kD.trans kl) hD;generalize upd (upd (upd H0 D (.dT [])) l (.lst [])) D (.dT [(nk x0,.ref l)])=H1 at W0 g0⊢;refine⟨_,rfl,_,rfl,D,rfl,_,rfl,by show 1<=sizeLine;decide,fun wa hw=>?_⟩;have kw:=a0c hw (.lst [.ref a])
 let Wv:Nat->L2.St->Hp->Prop:=fun m σ H=> ∃(d:Nat) (ws wv:TW) (as:As) (wa:Ad) (ts:As) (o6 o7 o8 o9:Option V),Bfs g L x0 d ws wv [] 0 0/\WordsAt H D ws as/\H wa=some (.lst (ts.map .ref))/\(∀(j:Nat) (t:Ad) (p:Nsq×Nsq),ts[j]? =some t->wv[j]? =some p->H t=some (.tup (p.1.map nv)))/\ts.length=wv.length/\Same H0 H/\(∀b∈as,H0 b=none)/\
   (wv≠[]->d+1<=ws.length)/\m=2 * (U.length-ws.length)+(if wv=[]then 0 else 1)/\σ=[some (.ref a),some (nv L),some (.ref st),some .non,some (.ref D),some (.ref wa),o6,o7,o8,o9]
 refine⟨Wv,⟨_,0,[(x0,[])],[(x0,[])],[l],wa,[a],none,none,none,none,Bfs.start,W0.same kw,a0a,?_,rfl,g0.trans kw,fun b hb=>(by rw[a0J.mp hb];exact kD.free hl),fun _=>a0K _,rfl,rfl⟩,fun m σ H P=>?_⟩
 ·intro j t p h1 h2;cases j with
  |zero=>
   cases h1;cases h2;exact(g0.trans kw) _ _ ha
  |succ j=>simp at h1
 ·obtain⟨d,ws,wv,as,wa,ts,o6,o7,o8,o9,B,W,wl,wt,lt,gg,nw,deep,hm,rfl⟩:=P;refine⟨_,rfl,!(ts.map V.ref).isEmpty,.inl ⟨_,SqL.of wl,rfl⟩,?_⟩;by_cases hwv:wv=[]
  ·subst hwv;have e:ts=[]:=a2V.mp lt;subst e;rw[wA (by simp)];exact⟨_,rfl,q D ws as H gg W (fun b hb=>(a1L.mp hb).elim (fun e=>e▸hD) (nw b)) B.told⟩
  ·have ne:ts≠[]:=fun z=>hwv (a2V.mp (by rw[<-lt,z];rfl));have c1:(!(ts.map V.ref).isEmpty)=true:=by
    cases ts with
    |nil=>exact wC rfl ne
    |cons=>rfl
   rw[c1];refine b1c ?_;refine⟨fun σ' H'=> ∃m',m'<m/\Wv m' σ' H',fun σ' H' h=>h,by show 0<=sizeLine;decide,fun fa hfa=>?_⟩;have kf:=a0c hfa (.lst []);have fas:fa∉as:=fun m=>by
    obtain⟨j,e⟩:=a1F.mp m;obtain⟨hj,_⟩:=a0B.mp e;have z:=W.list j fa _ e (a0A (by rw[<-W.len];exact hj));rw[hfa]at z;cases z
   have S:Srch H0 (upd H fa (.lst [])) D wa fa ts ws wv [] as:=⟨gg.trans kf,hD,gg.free hfa,W.same kf,kf _ _ wl,fun j t p h1 h2=>kf _ _ (wt j t p h1 h2),⟨[],a0a,rfl,fun j t p h1 _=>by simp at h1⟩,a0j wl hfa,fas,nw⟩;refine c7l (En:={En with nx:=_,ct:=_,bk:=_}) hr hst h0 hU few fewL hF hB B (deep hwv) S lt fun ws' fo as' H' p7 p8 p9 B' S' l'=>?_;obtain⟨tf,f1,f2,f3⟩:=S'.foll;have z1:=d9a h0 hU B';have z2:=deep hwv;refine⟨_,rfl,2 * (U.length-ws'.length)+(if fo=[]then 0 else 1),?_,d+1,ws',fo,as',fa,tf,_,_,_,_,B'.wave',S'.W,f1,f3,f2,S'.g,S'.new,fun nf=>?_,rfl,rfl⟩
   ·rw[hm,wA hwv];by_cases hf:fo=[]
    ·subst hf;rw[wB rfl];simp at l';lia
    ·have:=List.length_pos_iff.mpr hf;rw[wA hf];lia
   ·have:=List.length_pos_iff.mpr nf;lia
end
theorem d5t{ws:TW}{as:As}{k:List Key}{a:Ad}(h:b2w (a3r ws as) k=some (.ref a)):a∈as:=by
 unfold b2w at h;obtain⟨kv,h1,h2⟩:=a0O.mp h;obtain⟨i,hi⟩:=a1F.mp (List.mem_of_find?_eq_some h1);unfold a3r at hi;rw[List.getElem?_zipWith]at hi;cases e1:ws[i]? with
 |none=>rw[e1]at hi;cases hi
 | some p=>
  cases e2:as[i]? with
  |none=>rw[e1,e2]at hi;cases hi
  |some b=>
   rw[e1,e2]at hi;cases hi;cases h2;exact a0E e2
section
variable{X:Cx}
def rInD(K:W.Frag)(neg:Bool):R2:=fun x y H Q=> ∃(l:Ad) (n:Nat) (d:Dt) (ds:List Dt) (xs:List V),y= .ref l/\SqL K H l xs/\xs.length=ds.length/\Rep K H n d x/\(∀(i:Nat) d' v,ds[i]? =some d'->xs[i]? =some v->Rep K H n d' v)/\n<=30/\ ∀b,(b=true↔d∈ds)->Q (.bl (if neg then !b else b)) H
theorem c1h{K:W.Frag}{H:Hp}{n:Nat}{d d':Dt}{y z:V}{u:Vl}(hy:Rep K H n d y)(hz:Rep K H n d' z)(r1:RelV y u)(r2:RelV z u):y=z:=by
 have ry: ∀{y:V} {d:Dt},Rep K H n d y->RelV y u->(y= .non/\u= .none)∨(∃i t,y= .int i/\u= .int i t)∨(∃x t,y= .str x/\u= .str x t)∨ ∃a,y= .ref a/\u= .ref a:=fun h r=>by
  cases h with
  |non=>exact .inl ⟨rfl,r⟩
  |int _ i=>
   obtain⟨t,e⟩:=r;exact .inr (.inl ⟨i,t,rfl,e⟩)
  |str _ x=>
   obtain⟨t,e⟩:=r;exact .inr (.inr (.inl ⟨x,t,rfl,e⟩))
  |lst=>exact .inr (.inr (.inr ⟨_,rfl,r⟩))
  |tup=>exact .inr (.inr (.inr ⟨_,rfl,r⟩))
 rcases ry hy r1 with⟨rfl,e⟩|⟨i,t,rfl,e⟩|⟨x,t,rfl,e⟩|⟨a,rfl,e⟩<;>rcases ry hz r2 with⟨rfl,e'⟩|⟨i',t',rfl,e'⟩|⟨x',t',rfl,e'⟩|⟨a',rfl,e'⟩<;>rw[e]at e'<;>cases e'<;>rfl
theorem d9b{za:AO}{σ:St}{H:Hp}{s:Sh}{x:V}{v:Vl}{n:Nat}{d:Dt}{ds:List Dt}{xs:List V}{its:Vs}(hu:X.A.units+64<cLine)(I:Inv X za σ H s)(rx:RelV x v)(r:Vals xs its)(hl:xs.length=ds.length)(hd:Rep X.K H n d x)
  (hi: ∀(i:Nat) d' v,ds[i]? =some d'->xs[i]? =some v->Rep X.K H n d' v) (hn:n<=30): ∃e:Vl->Bool,(∀u∈its,SeqAt.EqAt X.A.in1 s u v (e u))/\(its.any e=true↔d∈ds):=by
 have one: ∀(i:Nat) u,its[i]? =some u-> ∃b d',ds[i]? =some d'/\SeqAt.EqAt X.A.in1 s u v b/\(b=true↔d'=d):=fun i u hu'=>by
  obtain⟨h1,_⟩:=a0B.mp hu';have h2:=r.length;obtain⟨y,ey⟩: ∃y,xs[i]? =some y:=⟨_,a0A (by lia)⟩;obtain⟨d',ed⟩: ∃d',ds[i]? =some d':=⟨_,a0A (by lia)⟩;obtain⟨u',eu,ru⟩:=Vals.get r ey;rw[hu']at eu;cases eu;obtain⟨b,h3,h4⟩:=b6w I n (A:=X.A.in1) (by show X.A.units+1+n<cLine;lia) (hi i d' y ed ey) hd ru rx;exact⟨b,d',ed,h3,h4⟩
 have each: ∀u,∃b,(∃i:Nat,its[i]? =some u)->SeqAt.EqAt X.A.in1 s u v b/\ ∃(i:Nat) (d':Dt),its[i]? =some u/\ds[i]? =some d'/\(b=true↔d'=d):=fun u=>by
  by_cases h: ∃i:Nat,its[i]? =some u
  ·obtain⟨i,hi'⟩:=h;obtain⟨b,d',h1,h2,h3⟩:=one i u hi';exact⟨b,fun _=>⟨h2,i,d',hi',h1,h3⟩⟩
  ·exact⟨true,fun z=>wC z h⟩
 refine⟨fun u=>Classical.choose (each u),fun u hu'=>(a3W (each u) (a1F.mp hu')).1,?_⟩;rw[a8P];constructor
 ·rintro⟨u,hu',hb⟩;obtain⟨_,i,d',h1,h2,h3⟩:=a3W (each u) (a1F.mp hu');rw[<-h3.mp hb];exact a0E h2
 ·intro hm;obtain⟨i,ed⟩:=a1F.mp hm;obtain⟨h1,_⟩:=a0B.mp ed;have h2:=r.length;obtain⟨u,eu⟩: ∃u,its[i]? =some u:=⟨_,a0A (by lia)⟩;refine⟨u,a0E eu,?_⟩;obtain⟨_,j,d',g1,g2,g3⟩:=a3W (each u) ⟨i,eu⟩;refine g3.mpr ?_;obtain⟨y,ey⟩: ∃y,xs[i]? =some y:=⟨_,a0A (by lia)⟩;obtain⟨h4,_⟩:=a0B.mp g2;obtain⟨z,ez⟩: ∃z,xs[j]? =some z:=⟨_,a0A (by lia)⟩;obtain⟨u1,e1,r1⟩:=Vals.get r ey;obtain⟨u2,e2,r2⟩:=Vals.get r ez;rw[eu]at e1;rw[g1]at e2;cases e1;cases e2;have yz:y=z:=c1h (hi i d y ed ey) (hi j d' z g2 ez) r1 r2;subst yz;exact b9b I n (hi j d' y g2 ez) (hi i d y ed ey)
theorem c7m(hu:X.A.units+64<cLine):OpR X (compareOp .NotIn) (rInD X.K true):=by
 intro za s σ H x y v u Q I rx ry h;obtain⟨l,n,d,ds,xs,rfl,hq,hl,hd,hi,hn,q⟩:=h;cases ry;obtain⟨its,r,pl,hz⟩:=I.list hq;obtain⟨e,h1,h2⟩:=d9b hu I rx r hl hd hi hn;refine SeqAt.notIn_listAt e pl.isList (fun w hw=>h1 w (by simpa using hw)) ⟨.bl _,H,I,rfl,?_⟩;rw[show its.toArray.any e=its.any e by simp];exact q _ h2
theorem d5u{x y:Str}{p q tp:Pos}{k:Nat}{sc:Scope}(S:CompScope X [x,y] sc)(hc:X.calm=true)(hx:sc.names.lookup x=some .local)(hy:sc.names.lookup y=some .local):
  ∀C s H fp,PG (cxC X [x,y] sc C s H fp) (.Tuple [.Name x p,.Name y q] k tp) (gTup X.K 2 (d4u (a5z 0) (d4u (a5z 1) gNil))):=fun C s H fp=>
 b3h hc (a2m (a1c S.nd rfl (.inl (a4P hx)) (.inr (a4P hx))) (a2m (a1c S.nd rfl (.inl (a4P hy)) (.inr (a4P hy))) a8u))
end
section
variable{X:Cx}
def c7n(K:W.Frag):V->List V->Hp->VK->Prop:=fun x vs H Q=> ∃(l:Ad) (y:V) (n:Nat) (d:Dt) (ds:List Dt) (xs:List V) (j:Nat),x= .ref l/\vs=[y]/\SqL K H l xs/\xs.length=ds.length/\Rep K H n d y/\(∀(i:Nat) d' v,ds[i]? =some d'->xs[i]? =some v->Rep K H n d' v)/\n<=30/\ds[j]? =some d/\(∀i:Nat,i<j->ds[i]? ≠some d)/\Q (.int (j:Nat)) H
theorem d9c{za:AO}{σ:St}{H:Hp}{s:Sh}{x:V}{v:Vl}{n:Nat}{d:Dt}{ds:List Dt}{xs:List V}{its:Vs}(hu:X.A.units+64<cLine)(I:Inv X za σ H s)(rx:RelV x v)(r:Vals xs its)(hl:xs.length=ds.length)(hd:Rep X.K H n d x)
  (hi: ∀(i:Nat) d' v,ds[i]? =some d'->xs[i]? =some v->Rep X.K H n d' v) (hn:n<=30): ∃e:Vl->Bool,(∀u∈its,SeqAt.EqAt X.A.in1 s u v (e u))/\ ∀(i:Nat) u d',its[i]? =some u->ds[i]? =some d'->(e u=true↔d'=d):=by
 have h2:=r.length;have one: ∀(i:Nat) u,its[i]? =some u-> ∃b d',ds[i]? =some d'/\SeqAt.EqAt X.A.in1 s u v b/\(b=true↔d'=d):=fun i u hu'=>by
  obtain⟨h1,_⟩:=a0B.mp hu';obtain⟨y,ey⟩: ∃y,xs[i]? =some y:=⟨_,a0A (by lia)⟩;obtain⟨d',ed⟩: ∃d',ds[i]? =some d':=⟨_,a0A (by lia)⟩;obtain⟨u',eu,ru⟩:=Vals.get r ey;rw[hu']at eu;cases eu;obtain⟨b,h3,h4⟩:=b6w I n (A:=X.A.in1) (by show X.A.units+1+n<cLine;lia) (hi i d' y ed ey) hd ru rx;exact⟨b,d',ed,h3,h4⟩
 have each: ∀u,∃b,(∃i:Nat,its[i]? =some u)->SeqAt.EqAt X.A.in1 s u v b/\ ∃(i:Nat) (d':Dt),its[i]? =some u/\ds[i]? =some d'/\(b=true↔d'=d):=fun u=>by
  by_cases h: ∃i:Nat,its[i]? =some u
  ·obtain⟨i,hi'⟩:=h;obtain⟨b,d',h1,h2,h3⟩:=one i u hi';exact⟨b,fun _=>⟨h2,i,d',hi',h1,h3⟩⟩
  ·exact⟨true,fun z=>wC z h⟩
 refine⟨fun u=>Classical.choose (each u),fun u hu'=>(a3W (each u) (a1F.mp hu')).1,fun i u d0 eu ed=>?_⟩;obtain⟨_,j,d',g1,g2,g3⟩:=a3W (each u) ⟨i,eu⟩;rw[g3];obtain⟨h1,_⟩:=a0B.mp ed;obtain⟨y,ey⟩: ∃y,xs[i]? =some y:=⟨_,a0A (by lia)⟩;obtain⟨h4,_⟩:=a0B.mp g2;obtain⟨z,ez⟩: ∃z,xs[j]? =some z:=⟨_,a0A (by lia)⟩;obtain⟨u1,e1,r1⟩:=Vals.get r ey;obtain⟨u2,e2,r2⟩:=Vals.get r ez;rw[eu]at e1;rw[g1]at e2;cases e1;cases e2;have yz:y=z:=c1h (hi i d0 y ed ey) (hi j d' z g2 ez) r1 r2;subst yz;have dd:d'=d0:=b9b I n (hi j d' y g2 ez) (hi i d0 y ed ey);rw[dd]
theorem b1u(hu:X.A.units+64<cLine):MtR X "list.index" (c7n X.K):=by
 intro za s σ H x vs v us Q I rx rv h;obtain⟨l,y,m,d,ds,xs,j,rfl,rfl,hl,ll,hd,hi,hn,ej,no,q⟩:=h;cases rx;obtain⟨u,rfl,ru⟩:=rv.one;obtain⟨its,r,⟨⟨c1,d1,k1,s1⟩,n,e,ec,ed,ek⟩,hz⟩:=I.list hl;simp only at ec ed ek;subst ec ed ek;obtain⟨eq,h1,h2⟩:=d9c hu I ru r ll hd hi hn;have lr:=r.length;have lj:=(a0B.mp ej).1;rw[a0Y]at hz;refine a7I F.slot_list_index ⟨_,e,rfl⟩ F.entry_list_index (F.args_list_index_2 _ _) (SeqAt.list_indexAt l its.toArray n none s1 u eq j (by simp only[List.size_toArray];lia) (by lia) ?_ ?_)
  ⟨e,fun y hy=>h1 y (by simpa using hy),⟨.int (j:Nat),H,I.tok _,⟨_,rfl⟩,q⟩⟩
 ·show eq its[j]=true;exact(h2 j _ d (a0A (by lia)) ej).mpr rfl
 ·intro k hk1 hk2;show eq its[k]=false;have hk:k<ds.length:=by lia
  cases z:eq its[k]with
  |false=>rfl
  |true=>
   have z2:=(h2 k _ _ (a0A (by lia)) (a0A hk)).mp z;exact wC (by rw[a0A hk,z2]) (no k hk2)
theorem d5v{X:Cx}{K:W.Frag}{e:Expr}{T:String}{to:TE}{t:TA}(r:W.Frag->V->List V->Hp->VK->Prop)(hK:X.K=K)(h:PE X e (tBM X.K T (r X.K) to t)):PE X e (tBM K T (r K) to t):=hK▸h
end
section
variable{P:Pg}{w:World}{A:Ar}{E:VP}{s:Sh}{it d:Ad}{i ep:Nat}{es:Array DictEntry}
abbrev a6h(d:Ad)(i n ep:Nat):Obj:={cls:= .type "dict_keyiterator",data:= .fields #[.ref d,.int i 0,.int n 0,.int ep 0]}
theorem b7j{en:DictEntry}{Q:Option Vl->Sh->Prop}(G:s.heap.get? it=some (a6h d i es.size ep))(L:Lies s.heap d es ep)(hx:es[i]? =some en)
  (q: ∀h',h'.get? it=some (a6h d (i+1) es.size ep)->Heap.SameBut it s.heap h'->Q (some en.key) {s with heap:=h'}):wpAny (model P w) A (pyNext (.ref it)) Q E s:=by
 obtain⟨o,ho,_,hd⟩:=L;have ty:s.TypeIs (.ref it) "dict_keyiterator":=⟨_,G,rfl⟩;unfold pyNext;refine a0D (a5X (a2U (name:=Str.ofString "__next__") ty a2X (a2N a2X ty a8Q ?_ (a8K _))));refine a0D (a0G (a0D (a0D ?_)));refine a0D (a4O ty (a0G (a0D (a7B G rfl ?_))));have own2:Builtin.Dict_items.ownsTuple "dict_keyiterator"=false:=by decide
 simp only[own2,Bool.false_eq_true,if_false];refine show wpAny _ _ (if(Value.ref d==Value.none)=true then _ else _) _ _ s from(wA (show ¬((Value.ref d==Value.none)=true)from a1H))▸a0D (a0G (a0D (a4V ho hd ?_)))
 rw[wA (by simp)];refine a0D (a0G (a0D (a6R ho hd ?_)));rw[wA (by simp)];refine a0G ?_;have at0:(if((i:Nat):Int)<0 then none else es[((i:Nat):Int).toNat]?)=some en:=by
  rw[wA (by lia),a1U];exact hx
 show wpAny _ _ (match (if((i:Nat):Int)<0 then none else es[((i:Nat):Int).toNat]?)with|some e=>_|none=>_) _ _ s;rw[at0];refine a0D (a0D (a4O ty (a0G (a0D (wpAny_isOneOf_keyiter ty ?_)))));refine show wpAny _ _ (setField (.ref it) 1 (rawInt ((i:Int)+1)) >>= _) _ _ s from a0D (a3I G (by simp) fun h1 e1 s1=>wpAny_bind (wpAny_holding ?_))
 have e1':h1.get? it=some (a6h d (i+1) es.size ep):=by
  have z:((i+1:Nat):Int)=(i:Int)+1:=by lia
  unfold a6h;rw[z];simpa[rawInt]using e1
 have ty1:Shared.TypeIs {s with heap:=h1} (.ref it) "dict_keyiterator":=⟨_,e1',rfl⟩;refine a0D (wpAny_isOneOf_keyiter ty1 ?_);exact show wpAny _ _ (pure en.key) _ _ {s with heap:=h1}from a0G (a0G ⟨_,rfl,a0G (q h1 e1' s1)⟩)
theorem c1i{Q:Option Vl->Sh->Prop}(hh:A.handled=none)(G:s.heap.get? it=some (a6h d i es.size ep))(L:Lies s.heap d es ep)(hx:es[i]? =none)
  (q: ∀h',Heap.ExtBut it s.heap h'->Q none {s with heap:=h'}):wpAny (model P w) A (pyNext (.ref it)) Q E s:=by
 obtain⟨o,ho,_,hd⟩:=L;have ty:s.TypeIs (.ref it) "dict_keyiterator":=⟨_,G,rfl⟩;unfold pyNext;refine a0D (a5X (a2U (name:=Str.ofString "__next__") ty a2X (a2N a2X ty a8Q ?_ (a8K _))));refine a0D (a0G (a0D (a0D ?_)));refine a0D (a4O ty (a0G (a0D (a7B G rfl ?_))));have own2:Builtin.Dict_items.ownsTuple "dict_keyiterator"=false:=by decide
 simp only[own2,Bool.false_eq_true,if_false];refine show wpAny _ _ (if(Value.ref d==Value.none)=true then _ else _) _ _ s from(wA (show ¬((Value.ref d==Value.none)=true)from a1H))▸a0D (a0G (a0D (a4V ho hd ?_)))
 rw[wA (by simp)];refine a0D (a0G (a0D (a6R ho hd ?_)));rw[wA (by simp)];refine a0G ?_;have at0:(if((i:Nat):Int)<0 then none else es[((i:Nat):Int).toNat]?)=none:=by
  rw[wA (by lia),a1U];exact hx
 show wpAny _ _ (match (if((i:Nat):Int)<0 then none else es[((i:Nat):Int).toNat]?)with|some e=>_|none=>_) _ _ s;rw[at0];refine a0D (a0D (a4O ty (a0G ?_)));refine show wpAny _ _ (setField (.ref it) 0 .none >>= _) _ _ s from a0D (a3I G (by simp) fun h1 e1 sb=>?_)
 refine a0D (m:=newExc _ _) ?_;simp only[newExc,newTuple];refine a0D (a2S ?_ (by size_fits));refine a0D (m:=firstArgMember _ _) (b0Q (a:=Value.none) (by first|rfl|(unfold firstArgMember;rfl)) (wpAny_newObj_type ?_ (by size_fits)));refine a9I (by simpa using hh) (wpAny_bind (wpAny_isInstance (T:="StopIteration") (b:=true) ⟨_,Heap.get?_push_size _ rfl,rfl⟩ isSubtype_stop (wpAny_pure ?_)));exact q _ fun b o nb z=>a0H _ (a0H _ (sb.extBut b o nb z))
theorem b7k{Q:VP}(nd:(d==sysModules)=false)(L:Lies s.heap d es ep)(q:Q (.ref s.heap.objs.size) {s with heap:=s.heap.push (a6h d 0 es.size ep)}):wpAny (model P w) A (pyIter (.ref d)) Q E s:=by
 obtain⟨o,ho,x,hd⟩:=L;have ty:s.TypeIs (.ref d) "dict":=⟨o,ho,x.1⟩;refine a5P ty F.slot_dict_iter (a2N F.slot_dict_iter ty F.entry_dict_iter ?_ (F.args_dict_iter_1 _));unfold Builtin.«dict.__iter__» Builtin.Dict.dictSlotNone;refine a0D (a0D (wpAny_notOrdered_dict ty ?_));refine show wpAny _ _ (pure (Value.ref d)) _ _ s from a0G (show wpAny _ _ (Builtin.Dict.showsAll d >>= _) _ _ s from ?_)
 have all:Builtin.Dict.showsAll d=pure ():=by
  unfold Builtin.Dict.showsAll;rw[nd];rfl
 rw[all];refine a0D (a0G (a0D (a4V ho hd (a0D (a6R ho hd ?_)))));exact a0D (a2S (a0G ⟨_,rfl,"dict_keyiterator",_,⟨_,a0X _ rfl,rfl⟩,a2X.lookup,q⟩))
theorem d9d(hh:A.handled=none)(hne:d≠it):Walks P w A it [it,d] [it] es.size (fun i v=> ∃en,es[i]? =some en/\v=en.key) (fun i h=>h.get? it=some (a6h d i es.size ep)/\Lies h d es ep) where
 sub:=fun b hb=>a1L.mpr (.inl (a0J.mp hb))
 frame:=fun i h h' st k=>⟨k it (a0T ..) _ st.1,let⟨o,e,x⟩:=st.2;⟨o,k d (a1D _ (a0J.mpr rfl)) _ e,x⟩⟩
 item:=fun i s Q E hi st q=>by
  obtain⟨en,he⟩: ∃en,es[i]? =some en:=⟨_,a1R hi⟩;refine b7j st.1 st.2 he fun h' e1 sb=>q en.key h' s.toks ⟨en,he,rfl⟩ ⟨e1,let⟨o,e,x⟩:=st.2;⟨o,sb.extBut _ _ hne e,x⟩⟩ fun b o nb e=>sb.extBut _ _ (fun z=>nb (a0J.mpr z)) e
 done:=fun s Q E st q=>c1i hh st.1 st.2 (a7Z (a0K _)) fun h' x=>q h' s.toks fun b o nb e=>x b o (fun z=>nb (a0J.mpr z)) e
 self:=fun i s Q E st q=>by
  have ty:s.TypeIs (.ref it) "dict_keyiterator":=⟨_,st.1,rfl⟩;refine a5P ty a4T (a2N a4T ty a8R ?_ (a8L _));exact show wpAny _ _ (ret (.ref it)) _ _ s from a0G ⟨_,rfl,"dict_keyiterator",_,ty,a2X.lookup,q⟩
theorem srcK(nd:(d==sysModules)=false):PySem.W.KdlSrc P w "dict" d d es.size (fun i v=> ∃en,es[i]? =some en/\v=en.key) (fun h=>Lies h d es ep) where
 type:=fun _ e=>e.typeIs
 there:=fun _ ⟨_,e,_⟩=>⟨a0U e,a0U e⟩
 keep:=fun _ _ ⟨o,e,x⟩ k=>⟨o,k d (.inl rfl) _ e,x⟩
 notList:=by decide
 notTuple:=by decide
 hint:=fun _ _ _ _ e q=>PySem.W.kdl_hint_dict e.typeIs q
 iter:=fun _ _ hh e=>⟨_,_,fun _ _ q=>b7k nd e q,d9d hh (a1M (let⟨_,z,_⟩:=e;a0U z)),a0X _ rfl,let⟨o,z,x⟩:=e;⟨o,a0H _ z,x⟩⟩
end
open PySem PySem.W PyProof.Rows
section
variable(n:Nat)(k:Nat->Int)
def KOk{α:Type}:KasT α->(α->Prop)->Prop
 | .ret a,R=>R a
 | .ask i j f,R=>i<n/\j<n/\KOk (f (decide (k i<k j))) R
def Arr(p:Array Nat):Prop:=p.Perm (List.range n).toArray
def SUp(p:Array Nat)(m:Nat):Prop:= ∀a b,a<b->b<m->k (p.getD a 0)<k (p.getD b 0)
def SDn(p:Array Nat)(m:Nat):Prop:= ∀a b,a<b->b<m->k (p.getD b 0)<k (p.getD a 0)
variable{n k}
theorem KOk.bind{α β:Type}{f:α->KasT β}{R:α->Prop}{R':β->Prop}(h: ∀a,R a->KOk n k (f a) R'): ∀t:KasT α,KOk n k t R->KOk n k (t.bind f) R'
 | .ret a,q=>h a q
 | .ask i j g,q=>⟨q.1,q.2.1,KOk.bind h (g _) q.2.2⟩
theorem Arr.size{p:Array Nat}(h:Arr n p):p.size=n:=by
 have z:=(a2H.mp h).length_eq;simpa using z
theorem Arr.at{p:Array Nat}(h:Arr n p){i:Nat}(hi:i<n):p.getD i 0<n/\p[i]? =some (p.getD i 0):=by
 have hs:=h.size;have e:p[i]? =some (p.getD i 0):=by
  rw[a2Q,a1R (by lia)];rfl
 refine⟨?_,e⟩;have m:p.getD i 0∈p:=a8M e;have m2:=(a9Q h).mp m;simpa using m2
theorem Arr.inj{p:Array Nat}(h:Arr n p){i j:Nat}(hi:i<n)(hj:j<n)(e:p.getD i 0=p.getD j 0):i=j:=by
 have nd:p.toList.Nodup:=(a2H.mp h).nodup_iff.mpr (by simpa using List.nodup_range);have e1:=(h.at hi).2;have e2:=(h.at hj).2;rw[<-e]at e2;rw[<-a2C]at e1 e2;exact(a2M (by rw[a0P,h.size];exact hi) nd).mp (e1.trans e2.symm)
variable(inj: ∀i j,i<n->j<n->k i=k j->i=j)
include inj
end
end L2
namespace L2
open PySem PySem.Spec PySem.W PyProof.Rows
section
variable{P:Pg}{w:World}{A:Ar}{E:VP}{s:Sh}{a:Ad}{vs ks:Vs}{k:Nat->Int}
def d5w(P:Pg)(w:World)(A:Ar)(ks:Vs)(lt:Nat->Nat->Bool)(s:Sh):Prop:=
 wpAny (model P w) A (keyKind' ks.toArray) (fun κ s'=>s'=s/\ ∀i j (C:Bool->Sh->Prop),i<ks.length->j<ks.length->C (lt i j) s->kas_ask P w A κ ks i j C s) (fun _ _=>False) s
abbrev a2p(vs:Vs)(p:Array Nat):Vs:=p.toList.map fun i=>vs.getD i Value.none
theorem a9p(vs:Vs):a2p vs (List.range vs.length).toArray=vs:=by
 unfold a2p;refine a3S fun i=>?_;rw[a7F,a0F];by_cases h:i<vs.length
 ·rw[a3C h,a0A h];show some (vs.getD i Value.none)=_;rw[a0I,a0A h];rfl
 ·rw[a1O (by simp;lia),List.getElem?_eq_none (by lia)];rfl
theorem c7o(hl:ks.length=vs.length):(ks.toArray.zip vs.toArray).map (·.2)=vs.toArray:=by
 apply Array.toList_inj.mp;rw[a8S,ksk_zip];exact List.map_snd_zip (by simp[hl])
theorem c1j{hs:Heap}{b:Ad}{x:Obj}(e:hs.get? b=some x)(o1 o2:Obj):((hs.push o1).push o2).get? b=some x:=a0H _ (a0H _ e)
end
theorem a9a{α:Type}{p q:α->Bool}: ∀{xs:List α},(∀z∈xs,p z=true->q z=true)->(∃z∈xs,p z=false/\q z=true)->xs.countP p<xs.countP q
 | [],_,h=>by obtain⟨z,hz,_⟩:=h;cases hz
 | x::xs,mono,h=>by
  have le:xs.countP p<=xs.countP q:=List.countP_mono_left fun z hz=>mono z (a1D _ hz);rw[a8T,a8T];obtain⟨z,hz,h1,h2⟩:=h
  rcases a1L.mp hz with e|hz
  ·subst e;rw[h1,h2];simp;lia
  ·have ih:=a9a (xs:=xs) (fun y hy=>mono y (a1D _ hy)) ⟨z,hz,h1,h2⟩;have m:=mono x (a0T ..);cases e1:p x with
   |false=>cases q x<;>simp<;>lia
   |true=>rw[m e1];simp;lia
structure Total{α:Type}(lt:α->α->Bool)(xs:List α):Prop where
 irr: ∀x,lt x x=false
 trans: ∀x y z,lt x y=true->lt y z=true->lt x z=true
 tot: ∀x∈xs,∀y∈xs,x≠y->lt x y=true∨lt y x=true
def a4f{α:Type}(lt:α->α->Bool)(xs:List α)(x:α):Int:=((xs.countP fun y=>lt y x):Nat)
section
variable{α:Type}{lt:α->α->Bool}{xs:List α}(T:Total lt xs)
include T
theorem Total.up{x y:α}(hx:x∈xs)(h:lt x y=true):a4f lt xs x<a4f lt xs y:=by
 unfold a4f;have z:=a9a (xs:=xs) (p:=fun z=>lt z x) (q:=fun z=>lt z y) (fun z _ hz=>T.trans _ _ _ hz h) ⟨x,hx,T.irr x,h⟩;lia
theorem Total.asks{x y:α}(hx:x∈xs)(hy:y∈xs):decide (a4f lt xs x<a4f lt xs y)=lt x y:=by
 by_cases e:x=y
 ·subst e;rw[T.irr];exact a1J (Int.lt_irrefl _)
 ·rcases T.tot x hx y hy e with h|h
  ·rw[h];exact a1A (T.up hx h)
  ·have:=T.up hy h;rw[a1J (by lia)];cases z:lt x y with
   |false=>rfl
   |true=>
    have:=T.up hx z;lia
theorem Total.same{x y:α}(hx:x∈xs)(hy:y∈xs)(h:a4f lt xs x=a4f lt xs y):x=y:=by
 refine a5H fun e=>?_
 rcases T.tot x hx y hy e with z|z
 ·have:=T.up hx z;lia
 ·have:=T.up hy z;lia
end
theorem b1v: ∀(xs ys:Nsq),xs≠ys->ltl xs ys=true∨ltl ys xs=true
 | [],[],h=>wC rfl h
 | [],y::ys,_=> .inl (by unfold ltl;rw[show a9t [] (y::ys)=none from rfl];simp)
 |x::xs,[],_=> .inr (by unfold ltl;rw[show a9t [] (x::xs)=none from rfl];simp)
 | x::xs,y::ys,h=>by
  by_cases e:x=y
  ·subst e
   rcases b1v xs ys (fun z=>h (by rw[z]))with q|q
   ·exact .inl (by rw[a4s];exact q)
   ·exact .inr (by rw[a4s];exact q)
  ·rw[a0y e,a0y (a3T e)]
   rcases Nat.lt_or_gt_of_ne e with q|q
   ·exact .inl (a1A q)
   ·exact .inr (a1A q)
theorem c7p: ∀(xs ys zs:Nsq),ltl xs ys=true->ltl ys zs=true->ltl xs zs=true
 | xs,ys,[],_,h2=>by
  have:ltl ys []=false:=by
   unfold ltl;rw[show a9t ys []=none by cases ys<;>rfl];simp
  rw[this]at h2;cases h2
 | [],ys,z::zs,_,_=>by unfold ltl;rw[show a9t [] (z::zs)=none from rfl];simp
 | x::xs,[],z::zs,h1,_=>by
  have:ltl (x::xs) []=false:=by
   unfold ltl;rw[show a9t (x::xs) []=none from rfl];simp
  rw[this]at h1;cases h1
 | x::xs,y::ys,z::zs,h1,h2=>by
  by_cases e1:x=y
  ·subst e1;by_cases e2:x=z
   ·subst e2;rw[a4s]at h1 h2⊢;exact c7p xs ys zs h1 h2
   ·rw[a0y e2]at h2⊢;exact h2
  ·rw[a0y e1]at h1;have l1:=a1V h1;by_cases e2:y=z
   ·subst e2;rw[a0y e1];exact h1
   ·rw[a0y e2]at h2;have l2:=a1V h2;rw[a0y (by lia)];exact a1A (by lia)
theorem c7q(xs:LN):Total ltl xs:=⟨a6c,c7p,fun x _ y _ e=>b1v x y e⟩
section
variable{P:Pg}{w:World}{A:Ar}{E:VP}{s:Sh}
theorem d4d{i j:Int}{t u:Tok}(f:Bool){Q:Bool->Sh->Prop}(h:Q (decide (i<j)) s):wpAny (model P w) A (oneLt' f (.int i t) (.int j u)) Q E s:=by
 cases f with
 |true=>exact oneLt_int h
 |false=>exact kat_one _ _ (PyProof.Rows.lt_int h)
theorem c1k{fin:Bool}{Q:Bool->Sh->Prop}: ∀{ns ms:Nsq} {xs ys:Vs} (i:Nat),Vals (ns.map nv) xs->Vals (ms.map nv) ys->Q ((a9t ns ms).getD fin) s->KatLex P w A true fin Q (xs.zip ys) i s
 | [],ms,_,_,i,.nil,_,q=>by
  rw[show a9t [] ms=none by cases ms<;>rfl]at q;rw[List.zip_nil_left];exact kat_nil q
 |n::ns,[],_,_,i,.cons _ _,.nil,q=>by
  rw[List.zip_nil_right];exact kat_nil q
 | n::ns,m::ms,_,_,i,.cons ⟨t,e1⟩ r1,.cons ⟨u,e2⟩ r2,q=>by
  subst e1 e2;refine kat_cons ?_;have z:=eqAt_int (A:=A) (s:=s) (i:=(n:Int)) (j:=(m:Int)) (t:=t) (u:=u);by_cases e:n=m
  ·rw[a1A (by lia)]at z;rw[a9t,wB e]at q;exact z P w _ _ (kat_yes (c1k (i+1) r1 r2 q))
  ·rw[a1J (by lia)]at z;rw[a9t,wA e]at q;refine z P w _ _ (kat_no (d4d _ ?_));have e3:decide ((n:Int)<(m:Int))=decide (n<m):=by simp
   rw[e3];exact q
def TupN(h:Heap)(v:Vl)(ns:Nsq):Prop:= ∃a o its c,v= .ref a/\h.get? a=some o/\o.cls= .type "tuple"/\o.data= .seq its c/\Vals (ns.map nv) its.toList
theorem b3q{h:Heap}: ∀{vs:Vs} {ts:LN},vs.length=ts.length->(∀(i:Nat) v t,vs[i]? =some v->ts[i]? =some t->TupN h v t/\t≠[])-> ∃fs:Vs,KatTups h vs fs/\fs.length=vs.length/\ ∀f∈fs,∃i t,f= .int i t
 | [],[],_,_=>⟨[],.nil,rfl,fun _ z=>nomatch z⟩
 | [],_::_,l,_=>by simp at l
 |_::_,[],l,_=>by simp at l
 | v::vs,t::ts,l,hv=>by
  obtain⟨fs,k1,k2,k3⟩:=b3q (h:=h) (vs:=vs) (ts:=ts) (by simpa using l) fun i v t e1 e2=>hv (i+1) v t (by simpa using e1) (by simpa using e2);obtain⟨⟨a,o,its,c,rfl,h1,h2,h3,h4⟩,ne⟩:=hv 0 v t rfl rfl;obtain⟨n,ns,rfl⟩: ∃n ns,t=n::ns:=by
   cases t with
   |nil=>exact wC rfl ne
   |cons n ns=>exact⟨n,ns,rfl⟩
  obtain⟨its'⟩:=its;cases h4 with
  | cons r _=>
   obtain⟨t0,rfl⟩:=r;exact⟨_::fs,.cons h1 h2 h3 rfl k1,by simp[k2],fun f hf=>by
    rcases a1L.mp hf with e|hf
    ·exact⟨_,_,e⟩
    ·exact k3 f hf⟩
theorem d2b{vs:Vs}{ts:LN}(l:vs.length=ts.length)(n1:1<=vs.length)(hv: ∀(i:Nat) v t,vs[i]? =some v->ts[i]? =some t->TupN s.heap v t/\t≠[]):d5w P w A vs (fun i j=>ltl (ts.getD i []) (ts.getD j [])) s:=by
 obtain⟨fs,k1,k2,k3⟩:=b3q l hv;refine kat_kind (T:= .type "int") k1 (by lia) (fun f hf=>?_) (by decide) ⟨rfl,fun i j C li lj hC=>?_⟩
 ·obtain⟨i,t,rfl⟩:=k3 f hf;exact .now
 ·have at0: ∀{i:Nat},i<vs.length->TupN s.heap (vs.getD i Value.none) (ts.getD i []):=fun {i} li=>by
   have e1:vs[i]? =some (vs.getD i Value.none):=by rw[a0I,a0A li];rfl
   have e2:ts[i]? =some (ts.getD i []):=by rw[a0I,a0A (by lia)];rfl
   exact(hv i _ _ e1 e2).1
  obtain⟨x,ox,xs,nx,ex,x1,x2,x3,x4⟩:=at0 li;obtain⟨y,oy,ys,ny,ey,y1,y2,y3,y4⟩:=at0 lj;show wpAny (model P w) A (keyLt' _ (vs.getD i Value.none) (vs.getD j Value.none)) C _ s;rw[ex,ey];refine kat_lt x1 x3 y1 y3 (c1k 0 x4 y4 ?_);have l1:(ts.getD i []).length=xs.size:=by have:=x4.length;simpa using this
  have l2:(ts.getD j []).length=ys.size:=by have:=y4.length;simpa using this
  rw[<-l1,<-l2];exact hC
end
theorem c1l{α:Type}{xs:List α}{p:Array Nat}{d:α}(ar:Arr xs.length p):(p.toList.map fun i=>xs.getD i d).Perm xs:=by
 have z:=(a2H.mp ar).map fun i=>xs.getD i d;refine z.trans (.of_eq ?_);refine a3S fun i=>?_;rw[a7F,a0F];by_cases h:i<xs.length
 ·rw[a3C h,a0A h];show some (xs.getD i d)=_;rw[a0I,a0A h];rfl
 ·rw[a1O (by simp;lia),List.getElem?_eq_none (by lia)];rfl
theorem d4e{p:Array Nat}{n i:Nat}(ar:Arr n p)(hi:i<n):p.toList[i]? =some (p.getD i 0):=by
 rw[a2C];exact(ar.at hi).2
theorem a9q{α:Type}{lt:α->α->Bool}{ts:List α}{d:α}{p:Array Nat}(T:Total lt ts)(ar:Arr ts.length p)(up:SUp (fun i=>a4f lt ts (ts.getD i d)) p ts.length):(p.toList.map fun i=>ts.getD i d).Pairwise fun x y=>lt x y=true:=by
 rw[a2O];intro i j hi hj ij;have li:i<ts.length:=by rw[a0C,a0P,ar.size]at hi;exact hi
 have lj:j<ts.length:=by rw[a0C,a0P,ar.size]at hj;exact hj
 have e1:(p.toList.map fun i=>ts.getD i d)[i]? =some (ts.getD (p.getD i 0) d):=by rw[a0F,d4e ar li];rfl
 have e2:(p.toList.map fun i=>ts.getD i d)[j]? =some (ts.getD (p.getD j 0) d):=by rw[a0F,d4e ar lj];rfl
 rw[a0A hi]at e1;rw[a0A hj]at e2;rw[a1X e1,a1X e2];have u:=up i j ij lj;have m: ∀{i:Nat},i<ts.length->ts.getD (p.getD i 0) d∈ts:=fun {i} h=>by
  have:=(ar.at h).1;rw[a0I,a0A this];exact a2Y _
 rw[<-T.asks (m li) (m lj)];exact a1A u
structure TupsAt(H:Hp)(bs:As)(us:LN):Prop where
 len:bs.length=us.length
 is: ∀(i:Nat) (b:Ad) (u:Nsq),bs[i]? =some b->us[i]? =some u->H b=some (.tup (u.map nv))
theorem TupsAt.same{H H':Hp}{bs:As}{us:LN}(h:TupsAt H bs us)(g:Same H H'):TupsAt H' bs us:=⟨h.len,fun i b u e1 e2=>g _ _ (h.is i b u e1 e2)⟩
theorem TupsAt.pick{H:Hp}{bs:As}{us:LN}(h:TupsAt H bs us){p:Array Nat}(ar:Arr us.length p):TupsAt H (p.toList.map fun i=>bs.getD i 0) (p.toList.map fun i=>us.getD i []):=by
 refine⟨by simp,fun i b u e1 e2=>?_⟩;rw[a0F]at e1 e2;obtain⟨j,ej,rfl⟩:=a0O.mp e1;rw[ej]at e2;cases e2;have lj:j<us.length:=by
  have m:=(a2H.mp ar).mem_iff.mp (a0E ej);simpa using m
 have lb:=h.len;refine h.is j _ _ ?_ ?_
 ·rw[a0I,a0A (by lia)];rfl
 ·show us[j]? =some (us.getD j []);rw[a0I,a0A lj];rfl
section
variable{X:Cx}
theorem tup_n{P:Pg}{w:World}{H:Hp}{h:Heap}{a:Ad}{t:Nsq}(ok:HOk P w H h)(e:H a=some (.tup (t.map nv))):TupN h (.ref a) t:=by
 obtain⟨_,its,r,o,h1,h2,c,h3,_⟩:=(show ObjOk P w H h a (.tup (t.map nv))from ok a _ e);exact⟨a,o,its.toArray,c,rfl,h1,h2,h3,by simpa using r⟩
theorem a5k{α:Type}{xs:List α}{d:α}{i:Nat}(h:i<xs.length):xs[i]? =some (xs.getD i d)/\xs.getD i d∈xs:=by
 have e:xs[i]? =some (xs.getD i d):=by
  rw[a0I,a0A h];rfl
 exact⟨e,a0E e⟩
theorem c1m{α:Type}{lt:α->α->Bool}{ts:List α}{d:α}(T:Total lt ts)(nd:ts.Nodup): ∀i j,i<ts.length->j<ts.length->a4f lt ts (ts.getD i d)=a4f lt ts (ts.getD j d)->i=j:=fun i j hi hj e=>by
 have z:=T.same (a5k hi).2 (a5k hj).2 e;refine(a2M hi nd).mp ?_;rw[(a5k (d:=d) hi).1,(a5k (d:=d) hj).1,z]
end
abbrev d0:Keyed:=(Value.none,Value.none)
structure Asks(M:Model)(A:Ar)(s:Sh)(κ:SortKind)(r:Keyed->Int)(a₀:Array Keyed):Prop where
 lt: ∀(x y:Keyed) (C:Bool->Sh->Prop),x∈a₀->y∈a₀->C (decide (r x<r y)) s->wpAny M A (keyLt' κ x.1 y.1) C (fun _ _=>False) s
 ne: ∀i j,i<a₀.size->j<a₀.size->i≠j->r (a₀.getD i d0)≠r (a₀.getD j d0)
structure StOk(κ:SortKind)(a₀:Array Keyed)(st:SortSt):Prop where
 kind:kindOf st=κ
 perm:(arrOf st).Perm a₀
 ok:failedOf st=none
section
variable{M:Model}{A:Ar}{E:VP}{s:Sh}{κ:SortKind}{r:Keyed->Int}{a₀ xs ys:Array Keyed}
abbrev kx(r:Keyed->Int)(xs:Array Keyed)(i:Nat):Int:=r (xs.getD i d0)
theorem a6i{i:Nat}(h:i<xs.size):xs[i]? =some (xs.getD i d0):=by
 rw[a2Q,a1R h];rfl
theorem getD_of{i:Nat}{x:Keyed}(h:xs[i]? =some x):xs.getD i d0=x:=by
 rw[a2Q,h];rfl
theorem a3g{i j:Nat}(h:xs[i]? =ys[j]?):xs.getD i d0=ys.getD j d0:=by
 rw[a2Q,a2Q,h]
theorem a3q(p:xs.Perm a₀):xs.size=a₀.size:=by
 have z:=(a2H.mp p).length_eq;simpa using z
theorem b0h(p:xs.Perm a₀){i:Nat}(h:i<a₀.size):xs.getD i d0∈a₀:=(a9Q p).mp (a8M (a6i (by rw[a3q p];exact h)))
theorem Asks.pairs(K:Asks M A s κ r a₀):(a₀.toList.map r).Nodup:=by
 refine a2O.mpr fun i j hi hj ij=>?_;rw[a6E,a6E];rw[a0C,a0P]at hi hj;have z:=K.ne i j hi hj (by lia);rw[a2Q,a2Q,a1R hi,a1R hj]at z;exact z
theorem Asks.apart(K:Asks M A s κ r a₀)(p:xs.Perm a₀){i j:Nat}(hi:i<a₀.size)(hj:j<a₀.size)(ij:i≠j):kx r xs i≠kx r xs j:=by
 have nd:(xs.toList.map r).Nodup:=((a2H.mp p).map r).nodup_iff.mpr K.pairs;have sz:=a3q p;intro z;have e: ∀k,k<a₀.size->(xs.toList.map r)[k]? =some (kx r xs k):=fun k hk=>by
  rw[a0F,a2C,a6i (by lia)];rfl
 exact ij ((a2M (by rw[a0C,a0P];lia) nd).mp (by rw[e i hi,e j hj,z]))
theorem b7l{st:SortSt}{x y:Keyed}{Q:Option Bool->SortSt->Prop}(K:Asks M A s κ r a₀)(hk:kindOf st=κ)(hx:x∈a₀)(hy:y∈a₀)(h:Q (some (decide (r x<r y))) st):wpS M A E s (lt' x y) Q st:=by
 rw[lt'_eq];refine a0Z (a9K ?_);rw[hk];refine a0Z (b0P (a5X (a3Q (K.lt x y (fun b s'=>s'=s/\b=decide (r x<r y)) hx hy ⟨rfl,rfl⟩) (fun b s' hb=>?_) fun _ _ z=>z.elim)));obtain⟨rfl,rfl⟩:=hb;exact⟨rfl,a1I h⟩
theorem a0z{σ0:SortSt}{i:Nat}{Q:Keyed->SortSt->Prop}(hi:i<xs.size)(h:Q (xs.getD i d0) σ0):wpS M A E s (elem' xs i) Q σ0:=by
 rw[elem'_eq,a6i hi];exact a1I h
theorem b1w{st:SortSt}{i j:Nat}{Q:Option Bool->SortSt->Prop}(K:Asks M A s κ r a₀)(B:StOk κ a₀ st)(hi:i<a₀.size)(hj:j<a₀.size)(h:Q (some (decide (kx r (arrOf st) i<kx r (arrOf st) j))) st):wpS M A E s (ltAt' i j) Q st:=by
 have sz:=a3q B.perm;rw[ltAt'_eq];refine a0Z (a9K ?_);exact a0Z (a0z (by lia) (a0Z (a0z (by lia) (b7l K B.kind (b0h B.perm hi) (b0h B.perm hj) h))))
def Ris(r:Keyed->Int)(xs:Array Keyed)(lo hi:Nat):Prop:= ∀a b,lo<=a->a<b->b<hi->kx r xs a<kx r xs b
def Fal(r:Keyed->Int)(xs:Array Keyed)(lo hi:Nat):Prop:= ∀a b,lo<=a->a<b->b<hi->kx r xs b<kx r xs a
def Out(xs ys:Array Keyed)(lo hi:Nat):Prop:= ∀k,k<lo∨hi<=k->ys[k]? =xs[k]?
theorem Out.refl(xs:Array Keyed)(lo hi:Nat):Out xs xs lo hi:=fun _ _=>rfl
theorem Out.trans{zs:Array Keyed}{lo hi:Nat}(h:Out xs ys lo hi)(h':Out ys zs lo hi):Out xs zs lo hi:=fun k z=>(h' k z).trans (h k z)
theorem Out.wide{lo hi lo' hi':Nat}(h:Out xs ys lo hi)(h1:lo'<=lo)(h2:hi<=hi'):Out xs ys lo' hi':=fun k z=>h k (by lia)
theorem Out.ris{lo hi a b:Nat}(h:Out xs ys lo hi)(h':Ris r xs a b)(d:b<=lo∨hi<=a):Ris r ys a b:=fun i j h1 h2 h3=>by
 show r (ys.getD i d0)<r (ys.getD j d0);rw[a3g (h i (by lia)),a3g (h j (by lia))];exact h' i j h1 h2 h3
theorem Ris.one{lo:Nat}:Ris r xs lo (lo+1):=fun a b h1 h2 h3=>by lia
theorem Ris.snoc{lo hi:Nat}(h:Ris r xs lo hi)(hl:lo<hi)(l:kx r xs (hi-1)<kx r xs hi):Ris r xs lo (hi+1):=fun a b h1 h2 h3=>by
 by_cases e:b=hi
 ·subst e;by_cases e2:a=b-1
  ·subst e2;exact l
  ·have:=h a (b-1) h1 (by lia) (by lia);lia
 ·exact h a b h1 h2 (by lia)
theorem Fal.snoc{lo hi:Nat}(h:Fal r xs lo hi)(hl:lo<hi)(l:kx r xs hi<kx r xs (hi-1)):Fal r xs lo (hi+1):=fun a b h1 h2 h3=>by
 by_cases e:b=hi
 ·subst e;by_cases e2:a=b-1
  ·subst e2;exact l
  ·have:=h a (b-1) h1 (by lia) (by lia);lia
 ·exact h a b h1 h2 (by lia)
theorem StOk.set{st:SortSt}(B:StOk κ a₀ st)(p:ys.Perm (arrOf st)):StOk κ a₀ (setArr st ys):=⟨B.kind,p.trans B.perm,B.ok⟩
theorem b7m{i j:Nat}(hj:j<=xs.size)(k:Nat):kx r (mirror xs i j ((j-i) /2)) k=if i<=k/\k<j then kx r xs (i+j-1-k)else kx r xs k:=by
 have e:=getElem?_mirror_all (i:=i) hj k;by_cases h1:i<=k/\k<j
 ·rw[wB h1]at e⊢;exact a1W r (a3g e)
 ·rw[wA h1]at e⊢;exact a1W r (a3g e)
theorem c7r{st:SortSt}{lo nrem:Nat}{Q:Option Nat->SortSt->Prop}(K:Asks M A s κ r a₀)(B:StOk κ a₀ st)(hn:lo+nrem<=a₀.size)(h1:1<=nrem)
  (h: ∀n st',StOk κ a₀ st'->pendingOf st'=pendingOf st->gallopOf st'=gallopOf st->Out (arrOf st) (arrOf st') lo (lo+nrem)->1<=n->n<=nrem->Ris r (arrOf st') lo (lo+n)->Q (some n) st'):wpS M A E s (countRun' lo nrem) Q st:=by
 rw[countRun'_eq];have asc: ∀(m:Nat) (st':SortSt) (Q':Option (Option Nat)×Nat->SortSt->Prop),StOk κ a₀ st'->1<=m->m<=nrem->Ris r (arrOf st') lo (lo+m)->(∀n,m<=n->n<=nrem->Ris r (arrOf st') lo (lo+n)->(n<nrem->kx r (arrOf st') (lo+n)<kx r (arrOf st') (lo+n-1))->Q' (none,n) st')->
   wpS M A E s (forIn [m:nrem] ((none,m):Option (Option Nat)×Nat) fun _ __s=>do
    let __x <-ltAt' (lo+__s.snd) (lo+__s.snd-1)
    match __x with
    |some smaller=>if smaller=true then pure (ForInStep.done (none,__s.snd))else pure (ForInStep.yield (none,__s.snd+1))
    |_=>pure (ForInStep.done (some none,__s.snd))) Q' st':=fun m st' Q' B' m1 mn up q=>by
  refine a3H (I:=fun i c st''=>st''=st'/\c=(none,i)/\Ris r (arrOf st') lo (lo+i)) (fun i c st'' hi1 hi2 hI=>?_) (fun c st'' hI=>?_) ⟨rfl,rfl,up⟩
  ·obtain⟨rfl,rfl,up'⟩:=hI;refine a0Z (b1w K B' (by show lo+i<_;lia) (by show lo+i-1<_;lia) ?_);by_cases c:kx r (arrOf st'') (lo+i)<kx r (arrOf st'') (lo+i-1)
   ·rw[a1A c];exact a1I (q i hi1 (by lia) up' fun _=>c)
   ·rw[a1J c];have ne:=K.apart B'.perm (i:=lo+i) (j:=lo+i-1) (by lia) (by lia) (by lia);exact a1I ⟨rfl,rfl,up'.snoc (by lia) (by lia)⟩
  ·obtain⟨rfl,rfl,up'⟩:=hI;rw[show max m nrem=nrem by lia]at up'⊢;exact q nrem mn (a0K _) up' fun z=>wC z (a4G _)
 refine a0Z (asc 1 st _ B (a0K _) h1 Ris.one fun n n1 n2 up stop=>?_);dsimp only;by_cases e:n=nrem
 ·rw[wB (by simpa using e)];exact a1I (h n st B rfl rfl (Out.refl _ _ _) n1 n2 up)
 rw[wA (by simpa using e)];have st1:=stop (by lia);by_cases e2:n>1
 ·rw[wB e2];refine a0Z (b1w K B (by lia) (by lia) ?_);rw[a1A (up lo (lo+n-1) (a0K _) (by lia) (by lia))];exact a1I (h n st B rfl rfl (Out.refl _ _ _) n1 n2 up)
 rw[wA e2];have en:n=1:=by lia
 subst en;refine a0Z (b0P (a6F ⟨rfl,?_⟩));have fal0:Fal r (arrOf st) lo (lo+2):=fun a b h1 h2 h3=>by
  have ea:a=lo:=by lia
  have eb:b=lo+1:=by lia
  subst ea eb;exact st1
 refine a0Z (a5Z (a3H (I:=fun i c st''=>st''=st/\c=(none,i,0)/\Fal r (arrOf st) lo (lo+i)) (Q:=fun c st''=>st''=st/\ ∃m,c=(none,m,0)/\2<=m/\m<=nrem/\Fal r (arrOf st) lo (lo+m)) (fun i c st'' hi1 hi2 hI=>?_) (fun c st'' hI=>?_) ⟨rfl,rfl,fal0⟩) ?_)
 ·obtain⟨rfl,rfl,fa⟩:=hI;refine a0Z (b1w K B (by show lo+i<_;lia) (by show lo+i-1<_;lia) ?_);by_cases c:kx r (arrOf st'') (lo+i)<kx r (arrOf st'') (lo+i-1)
  ·rw[a1A c];exact a1I ⟨rfl,rfl,fa.snoc (by lia) c⟩
  ·rw[a1J c];have ne:=K.apart B.perm (i:=lo+i) (j:=lo+i-1) (by lia) (by lia) (by lia);refine a0Z (b1w K B (by show lo+i-1<_;lia) (by show lo+i<_;lia) ?_);rw[a1A (by show kx r (arrOf st'') (lo+i-1)<kx r (arrOf st'') (lo+i);lia)];exact a1I ⟨rfl,i,rfl,by lia,by lia,fa⟩
 ·obtain⟨rfl,rfl,fa⟩:=hI;refine⟨rfl,_,rfl,by lia,by lia,fa⟩
 ·rintro c st'' ⟨rfl,m,rfl,m2,mn,fa⟩;dsimp only;obtain⟨m,rfl⟩: ∃k,m=k+1:=a2F fun z=>by rw[z]at m2;exact wC m2 (by decide)
  rw[wA (a4G 0)];rw[reverseSlice'_eq];have sz:=a3q B.perm;have hle:lo+(m+1)<=(arrOf st'').size:=by lia
  have B2:StOk κ a₀ (setArr st'' (mirror (arrOf st'') lo (lo+(m+1)) ((lo+(m+1)-lo) /2))):=B.set (mirror_perm _ _ _ _);have up2:Ris r (mirror (arrOf st'') lo (lo+(m+1)) ((lo+(m+1)-lo) /2)) lo (lo+(m+1)):=fun a b h1 h2 h3=>by
   rw[b7m hle,b7m hle,wB (by lia),wB (by lia)];exact fa _ _ (show lo<=lo+(lo+m)-b from a8W (by lia)) (show lo+(lo+m)-b<lo+(lo+m)-a from Nat.sub_lt_sub_left (by lia) h2) (show lo+(lo+m)-a<lo+(m+1)from a4H (by lia) (by lia))
  have out2:Out (arrOf st'') (mirror (arrOf st'') lo (lo+(m+1)) ((lo+(m+1)-lo) /2)) lo (lo+nrem):=fun k hk=>by
   rw[getElem?_mirror_all hle,wA (by lia)]
  refine a0Z (a6U (a0Z (asc (m+1) _ _ B2 (by lia) mn up2 fun n n1 n2 up stop=>?_)));exact a1I (h n _ B2 rfl rfl out2 (by lia) n2 up)
end
section
variable{M:Model}{A:Ar}{E:VP}{s:Sh}{κ:SortKind}{r:Keyed->Int}{a₀ xs ys:Array Keyed}
theorem b7n{src d:Nat}(hs:src<xs.size)(hd:d<=src)(k:Nat):kx r (bubble xs src d) k=if k=src-d then kx r xs src else if src-d<k/\k<=src then kx r xs (k-1)else kx r xs k:=by
 have e:=getElem?_bubble hs d hd k;by_cases h1:k=src-d
 ·rw[wB h1]at e⊢;exact a1W r (a3g e)
 ·rw[wA h1]at e⊢;by_cases h2:src-d<k/\k<=src
  ·rw[wB h2]at e⊢;exact a1W r (a3g e)
  ·rw[wA h2]at e⊢;exact a1W r (a3g e)
theorem c3v{st:SortSt}{lo n ok:Nat}{Q:Bool->SortSt->Prop}(K:Asks M A s κ r a₀)(B:StOk κ a₀ st)(hn:lo+n<=a₀.size)(hok:ok<=n)(hs:Ris r (arrOf st) lo (lo+ok))
  (h: ∀st',StOk κ a₀ st'->pendingOf st'=pendingOf st->gallopOf st'=gallopOf st->Out (arrOf st) (arrOf st') lo (lo+n)->Ris r (arrOf st') lo (lo+n)->Q true st'):wpS M A E s (binarySort' lo n ok) Q st:=by
 rw[binarySort'_eq];refine a0Z (a5Z (a3H (I:=fun k c st'=>c=(none,())/\StOk κ a₀ st'/\pendingOf st'=pendingOf st/\gallopOf st'=gallopOf st/\Out (arrOf st) (arrOf st') lo (lo+n)/\Ris r (arrOf st') lo (lo+min k n))
  (Q:=fun c st'=>c=(none,())/\StOk κ a₀ st'/\pendingOf st'=pendingOf st/\gallopOf st'=gallopOf st/\Out (arrOf st) (arrOf st') lo (lo+n)/\Ris r (arrOf st') lo (lo+n)) ?step ?fin ?init) ?post)
 case post=>
  rintro c st' ⟨rfl,B',pe,ga,o,u⟩;exact a1I (h st' B' pe ga o u)
 case init=>
  refine⟨rfl,B,rfl,rfl,Out.refl _ _ _,fun i j h1 h2 h3=>?_⟩;exact hs i j h1 h2 (by lia)
 case fin=>
  rintro c st' ⟨hc,B',pe,ga,o,u⟩;refine⟨hc,B',pe,ga,o,?_⟩;rwa[show min (max (max ok 1) n) n=n by lia]at u
 case step=>
  rintro k c st' hak hkn ⟨rfl,B',pe,ga,o,hs'⟩;rw[show min k n=k by lia]at hs';have sz:=a3q B'.perm;refine a0Z (a5Z (a3H (I:=fun x c st''=>st''=st'/\ ∃l q,c=(none,l,q)/\l<=q/\q<=k/\q+x<=k+l/\
    (∀i,i<l->kx r (arrOf st') (lo+i)<kx r (arrOf st') (lo+k))/\(∀i,q<=i->i<k->kx r (arrOf st') (lo+k)<kx r (arrOf st') (lo+i)))
   (Q:=fun c st''=>st''=st'/\ ∃l q,c=(none,l,q)/\l<=k/\
    (∀i,i<l->kx r (arrOf st') (lo+i)<kx r (arrOf st') (lo+k))/\(∀i,l<=i->i<k->kx r (arrOf st') (lo+k)<kx r (arrOf st') (lo+i))) ?istep ?ifin ?iinit) ?ipost)
  case iinit=>exact⟨rfl,0,k,rfl,by lia,by lia,by lia,fun i hi=>by lia,fun i h1 h2=>by lia⟩
  case ifin=>
   rintro c st'' ⟨rfl,l,q,rfl,hlr,hrk,hm,hlo,hhi⟩;have:l=q:=by lia
   subst this;exact⟨rfl,l,l,rfl,hrk,hlo,hhi⟩
  case istep=>
   rintro x c st'' _ hxk ⟨rfl,l,q,rfl,hlr,hrk,hm,hlo,hhi⟩;dsimp only;by_cases hge:l≥q
   ·rw[wB hge];have:l=q:=by lia
    subst this;exact a1I ⟨rfl,l,l,rfl,hrk,hlo,hhi⟩
   ·rw[wA hge];have d1:l<=(l+q) /2:=by lia
    have d2:(l+q) /2<q:=by lia
    clear hge;generalize(l+q) /2=d at d1 d2⊢;have dk:d<k:=a1N d2 hrk;refine a0Z (b1w K B' (by lia) (by lia) ?_);by_cases hless:kx r (arrOf st'') (lo+k)<kx r (arrOf st'') (lo+d)
    ·simp only[hless,decide_true,if_true];refine a1I ⟨rfl,l,d,rfl,d1,a1S dk,by lia,hlo,fun i h1 h2=>?_⟩;by_cases z:i=d
     ·subst z;exact hless
     ·exact a9R hless (hs' (lo+d) (lo+i) (a3P ..) (a7G (a6K h1 (a3T z)) _) (a7G h2 _))
    ·simp only[hless,decide_false,Bool.false_eq_true,if_false];have ne:=K.apart B'.perm (i:=lo+k) (j:=lo+d) (by lia) (by lia) (by lia);refine a1I ⟨rfl,d+1,q,rfl,d2,hrk,by lia,fun i h1=>?_,hhi⟩;by_cases z:i=d
     ·subst z;exact Int.lt_iff_le_and_ne.mpr ⟨Int.not_lt.mp hless,ne.symm⟩
     ·exact Int.lt_of_lt_of_le (hs' (lo+i) (lo+d) (a3P ..) (a7G (a6K (a8E h1) z) _) (a7G dk _)) (Int.not_lt.mp hless)
  case ipost=>
   rintro c st'' ⟨rfl,l,q,rfl,hlk,hlo,hhi⟩;show wpS _ _ _ _ (do moveDown' (lo+k) (lo+l);pure (ForInStep.yield (none,()))) _ _
   rw[moveDown'_eq];have hks:lo+k<(arrOf st'').size:=by lia
   refine a0Z (a6U (a1I ⟨rfl,B'.set (bubble_perm _ _ _),pe,ga,o.trans fun j hj=>?_,?_⟩))
   ·show(bubble (arrOf st'') (lo+k) (lo+k-(lo+l)))[j]? =_;rw[getElem?_bubble hks _ (by lia),Nat.sub_sub_self (a5W hlk lo),wA (by lia),wA (by lia)]
   ·rw[show min (k+1) n=k+1 by lia];intro i j h1 h2 h3;show kx r (bubble (arrOf st'') (lo+k) (lo+k-(lo+l))) i<kx r (bubble (arrOf st'') (lo+k) (lo+k-(lo+l))) j
    rw[b7n hks (by lia),b7n hks (by lia),Nat.sub_sub_self (a5W hlk lo)];have lo': ∀i,lo<=i->i<lo+l->kx r (arrOf st'') i<kx r (arrOf st'') (lo+k):=fun i h1 h2=>by
     have:=hlo (i-lo) (by lia);rwa[show lo+(i-lo)=i by lia]at this
    have hi': ∀i,lo+l<=i->i<lo+k->kx r (arrOf st'') (lo+k)<kx r (arrOf st'') i:=fun i h1 h2=>by
     have:=hhi (i-lo) (by lia) (by lia);rwa[show lo+(i-lo)=i by lia]at this
    repeat' split
    all_goals first
     |(exfalso;lia)
     |exact lo' _ (by lia) (by lia)
     |exact hi' _ (by lia) (by lia)
     |exact hs' _ _ (by lia) (by lia) (by lia)
def a6j:Bool->Keyed->Array Keyed->Nat->Nat->Nat->StateT SortSt Sem (Option Nat):=sortPriv%PySem.Builtin.gallop
theorem c3w(left:Bool)(key:Keyed)(arr:Array Keyed)(base n hint:Nat):a6j left key arr base n hint=(do
 let beyond (i:Nat):StateT SortSt Sem (Option Bool):=do
  let x <-elem' arr (base+i)
  if left then lt' x key else return (<-lt' key x).map (!·)
 let mut lastofs:=0
 let mut ofs:=1
 let mut lo:=0
 let mut hi:=0
 let some right <-beyond hint|return none
 if right then
  let maxofs:=n-hint
  for _ in[0:n] do
   if ofs≥maxofs then break
   let some more <-beyond (hint+ofs)|return none
   if !more then break
   lastofs:=ofs
   ofs:=2 * ofs+1
  lo:=hint+lastofs+1
  hi:=hint+min ofs maxofs
 else
  let maxofs:=hint+1
  for _ in[0:n] do
   if ofs≥maxofs then break
   let some found <-beyond (hint-ofs)|return none
   if found then break
   lastofs:=ofs
   ofs:=2 * ofs+1
  lo:=hint+1-min ofs maxofs
  hi:=hint-lastofs
 for _ in[0:n] do
  if lo≥hi then break
  let m:=lo+(hi-lo) /2
  let some more <-beyond m|return none
  if more then lo:=m+1 else hi:=m
 return some hi):=rfl
end
section
variable{M:Model}{A:Ar}{E:VP}{s:Sh}{κ:SortKind}{r:Keyed->Int}{a₀ xs ys:Array Keyed}
theorem a4b{st:SortSt}{left:Bool}{key:Keyed}{arr:Array Keyed}{base n hint:Nat}{Q:Option Nat->SortSt->Prop}(K:Asks M A s κ r a₀)(hk:kindOf st=κ)(hz:base+n<=arr.size)(mem: ∀i,i<n->arr.getD (base+i) d0∈a₀)(mk:key∈a₀)(ne: ∀i,i<n->kx r arr (base+i)≠r key)
  (up:Ris r arr base (base+n)) (hh:hint<n) (q: ∀k,k<=n->(∀i,i<k->kx r arr (base+i)<r key)->(∀i,k<=i->i<n->r key<kx r arr (base+i))->Q (some k) st):wpS M A E s (a6j left key arr base n hint) Q st:=by
 rw[c3w];have bey: ∀(i:Nat) (Q:Option Bool->SortSt->Prop),i<n->Q (some (decide (kx r arr (base+i)<r key))) st->wpS M A E s (do
   let x <-elem' arr (base+i)
   if left then lt' x key else return (<-lt' key x).map (!·)) Q st:=fun i Q hi hQ=>by
  refine a0Z (a0z (by lia) ?_);cases left with
  |true=>exact b7l K hk (mem i hi) mk hQ
  | false=>
   refine a0Z (b7l K hk mk (mem i hi) (a1I ?_));have e:(!decide (r key<r (arr.getD (base+i) d0)))=decide (kx r arr (base+i)<r key):=by
    have:=ne i hi;by_cases z:kx r arr (base+i)<r key
    ·rw[a1A z,a1J (show ¬r key<r (arr.getD (base+i) d0)from fun y=>by have:r key<kx r arr (base+i):=y;lia)];rfl
    ·rw[a1J z,a1A (show r key<r (arr.getD (base+i) d0)from by show r key<kx r arr (base+i);lia)];rfl
   show Q (some (!decide (r key<r (arr.getD (base+i) d0)))) st;rw[e];exact hQ
 have dn: ∀i j,i<=j->j<n->kx r arr (base+j)<r key->kx r arr (base+i)<r key:=fun i j ij jn l=>by
  by_cases z:i=j
  ·subst z;exact l
  ·have:=up (base+i) (base+j) (by lia) (by lia) (by lia);lia
 have upw: ∀i j,i<=j->j<n-> ¬kx r arr (base+i)<r key->r key<kx r arr (base+j):=fun i j ij jn l=>by
  have n1:=ne i (by lia);by_cases z:i=j
  ·subst z;lia
  ·have:=up (base+i) (base+j) (by lia) (by lia) (by lia);lia
 have fin: ∀(lo hi:Nat) (st':SortSt) (f:Nat->Option (Option Nat)×Nat×Nat->StateT SortSt Sem (ForInStep (Option (Option Nat)×Nat×Nat))) (g:Option (Option Nat)×Nat×Nat->StateT SortSt Sem (Option Nat)),st'=st->lo<=hi->hi<=n->(∀i,i<lo->kx r arr (base+i)<r key)->(∀i,hi<=i->i<n->r key<kx r arr (base+i))->
   (∀x l h (R:ForInStep (Option (Option Nat)×Nat×Nat)->SortSt->Prop),l≥h->R (.done (none,l,h)) st->wpS M A E s (f x (none,l,h)) R st)->
   (∀x l h (R:ForInStep (Option (Option Nat)×Nat×Nat)->SortSt->Prop),l<h->h<=n->R (.yield (if kx r arr (base+(l+(h-l) /2))<r key then(none,l+(h-l) /2+1,h)else(none,l,l+(h-l) /2))) st->wpS M A E s (f x (none,l,h)) R st)->
   (∀h,Q (some h) st->wpS M A E s (g (none,h,h)) Q st)->wpS M A E s (forIn [0:n] (none,lo,hi) f >>= g) Q st':=fun lo hi st' f g e lh hn dl du f1 f2 f3=>by
  subst e;refine a0Z (a5Z (a3H (I:=fun x c st''=>st''=st'/\ ∃l h,c=(none,l,h)/\l<=h/\h<=n/\h+x<=n+l/\(∀i,i<l->kx r arr (base+i)<r key)/\ ∀i,h<=i->i<n->r key<kx r arr (base+i))
   (Q:=fun c st''=>st''=st'/\ ∃h,c=(none,h,h)/\h<=n/\(∀i,i<h->kx r arr (base+i)<r key)/\ ∀i,h<=i->i<n->r key<kx r arr (base+i)) ?step ?stop ⟨rfl,lo,hi,rfl,lh,hn,by lia,dl,du⟩) ?post)
  case step=>
   rintro x c st'' _ hx ⟨rfl,l,h,rfl,l1,l2,l3,d1,d2⟩;by_cases z:l≥h
   ·have:l=h:=by lia
    subst this;exact f1 x l l _ z ⟨rfl,l,rfl,l2,d1,d2⟩
   ·refine f2 x l h _ (by lia) l2 ?_;by_cases c:kx r arr (base+(l+(h-l) /2))<r key
    ·rw[wB c];exact⟨rfl,_,_,rfl,by lia,by lia,by lia,fun i hi=>dn i _ (by lia) (by lia) c,d2⟩
    ·rw[wA c];exact⟨rfl,_,_,rfl,by lia,by lia,by lia,d1,fun i h1 h2=>upw _ i h1 h2 c⟩
  case stop=>
   rintro c st'' ⟨rfl,l,h,rfl,l1,l2,l3,d1,d2⟩;have:l=h:=by lia
   subst this;exact⟨rfl,l,rfl,l2,d1,d2⟩
  case post=>
   rintro c st'' ⟨rfl,h,rfl,h2,d1,d2⟩;exact f3 h (q h h2 d1 d2)
 refine a0Z (bey hint _ hh ?_);by_cases c0:kx r arr (base+hint)<r key
 ·rw[a1A c0];dsimp only;rw[wB rfl];refine a0Z (a5Z (a3H (I:=fun x c st'=>st'=st/\ ∃l o,c=(none,l,o)/\l<o/\x+1<=o/\l<n-hint/\kx r arr (base+(hint+l))<r key)
   (Q:=fun c st'=>st'=st/\ ∃l o,c=(none,l,o)/\l<o/\l<n-hint/\kx r arr (base+(hint+l))<r key/\(o<n-hint-> ¬kx r arr (base+(hint+o))<r key)) ?step ?stop ⟨rfl,0,1,rfl,by lia,by lia,by lia,c0⟩) ?post)
  case step=>
   rintro x c st' _ hx ⟨rfl,l,o,rfl,l1,l2,l3,l4⟩;dsimp only;by_cases z:o≥n-hint
   ·rw[wB z];exact a1I ⟨rfl,l,o,rfl,l1,l3,l4,fun y=>by lia⟩
   ·rw[wA z];refine a0Z (bey _ _ (by lia) ?_);by_cases c:kx r arr (base+(hint+o))<r key
    ·rw[a1A c];exact a1I ⟨rfl,o,_,rfl,by lia,by lia,by lia,c⟩
    ·rw[a1J c];exact a1I ⟨rfl,l,o,rfl,l1,l3,l4,fun _=>c⟩
  case stop=>
   rintro c st' ⟨rfl,l,o,rfl,l1,l2,l3,l4⟩;exact⟨rfl,l,o,rfl,l1,l3,l4,fun y=>by lia⟩
  case post=>
   rintro c st' ⟨rfl,l,o,rfl,l1,l3,l4,l5⟩;dsimp only;refine fin (hint+l+1) (hint+min o (n-hint)) _ _ _ rfl (a5W (Nat.le_min.mpr ⟨l1,l3⟩) hint) (a1C (a5W (Nat.min_le_right ..) hint) (a7H (a3M (a1S hh)))) (fun i hi=>dn i (hint+l) (a8E hi) (Nat.add_lt_of_lt_sub' l3) l4) (fun i h1 h2=>by
    by_cases z:o<n-hint
    ·exact upw (hint+o) i (by rw[a4K (a1S z)]at h1;exact h1) h2 (l5 z)
    ·rw[Nat.min_eq_right (a8O z),a3M (a1S hh)]at h1;exact wC h2 (Nat.not_lt.mpr h1)) (fun x l h R z hR=>?_) (fun x l h R z hn hR=>?_) (fun h hq=>a1I hq)
   ·dsimp only;rw[wB z];exact a1I hR
   ·dsimp only;rw[wA (by lia)];refine a0Z (bey _ _ (by lia) ?_);by_cases c:kx r arr (base+(l+(h-l) /2))<r key
    ·rw[wB c]at hR;rw[a1A c];exact a1I hR
    ·rw[wA c]at hR;rw[a1J c];exact a1I hR
 ·rw[a1J c0];dsimp only;rw[wA (by decide)];refine a0Z (a5Z (a3H (I:=fun x c st'=>st'=st/\ ∃l o,c=(none,l,o)/\l<o/\x+1<=o/\l<hint+1/\ ¬kx r arr (base+(hint-l))<r key)
   (Q:=fun c st'=>st'=st/\ ∃l o,c=(none,l,o)/\l<o/\l<hint+1/\ ¬kx r arr (base+(hint-l))<r key/\(o<hint+1->kx r arr (base+(hint-o))<r key)) ?step ?stop ⟨rfl,0,1,rfl,by lia,by lia,by lia,c0⟩) ?post)
  case step=>
   rintro x c st' _ hx ⟨rfl,l,o,rfl,l1,l2,l3,l4⟩;dsimp only;by_cases z:o≥hint+1
   ·rw[wB z];exact a1I ⟨rfl,l,o,rfl,l1,l3,l4,fun y=>by lia⟩
   ·rw[wA z];refine a0Z (bey _ _ (by lia) ?_);by_cases c:kx r arr (base+(hint-o))<r key
    ·rw[a1A c];exact a1I ⟨rfl,l,o,rfl,l1,l3,l4,fun _=>c⟩
    ·rw[a1J c];exact a1I ⟨rfl,o,_,rfl,by lia,by lia,by lia,c⟩
  case stop=>
   rintro c st' ⟨rfl,l,o,rfl,l1,l2,l3,l4⟩;exact⟨rfl,l,o,rfl,l1,l3,l4,fun y=>by lia⟩
  case post=>
   rintro c st' ⟨rfl,l,o,rfl,l1,l3,l4,l5⟩;dsimp only;refine fin (hint+1-min o (hint+1)) (hint-l) _ _ _ rfl (a1C (Nat.sub_le_sub_left (Nat.le_min.mpr ⟨l1,l3⟩) _) (a7H (Nat.add_sub_add_right ..))) (a1C (Nat.sub_le ..) (a1S hh)) (fun i hi=>by
    by_cases z:o<hint+1
    ·rw[a4K (a1S z),Nat.succ_sub (a8E z)]at hi;exact dn i (hint-o) (a8E hi) (a6J (Nat.sub_le ..) hh) (l5 z)
    ·rw[Nat.min_eq_right (a8O z),a5D]at hi;exact wC hi (a5R _)) (fun i h1 h2=>upw (hint-l) i h1 h2 l4) (fun x l h R z hR=>?_) (fun x l h R z hn hR=>?_) (fun h hq=>a1I hq)
   ·dsimp only;rw[wB z];exact a1I hR
   ·dsimp only;rw[wA (by lia)];refine a0Z (bey _ _ (by lia) ?_);by_cases c:kx r arr (base+(l+(h-l) /2))<r key
    ·rw[wB c]at hR;rw[a1A c];exact a1I hR
    ·rw[wA c]at hR;rw[a1J c];exact a1I hR
end
abbrev T5:Type:=Option (Array Keyed)×Array Keyed×Nat×Nat×Nat
abbrev T6:Type:=Option (Array Keyed)×Array Keyed×Nat×Nat×Nat×Nat
abbrev T7:Type:=Option (Array Keyed)×Array Keyed×Nat×Nat×Nat×Nat×Nat
def b4r:Array Keyed->Array Keyed->StateT SortSt Sem (Array Keyed):=sortPriv%PySem.Builtin.mergeLo
def b4s:Array Keyed->Array Keyed->StateT SortSt Sem (Array Keyed):=sortPriv%PySem.Builtin.mergeHi
def a2n:Nat->StateT SortSt Sem Unit:=sortPriv%PySem.Builtin.setMinGallop
theorem a9x(g:Nat):a2n g=modify fun st=>SortSt.mk' (kindOf st) (arrOf st) (pendingOf st) g (failedOf st):=rfl
section
variable(a b:Array Keyed)
abbrev a4t(out:Array Keyed)(ia ib:Nat):Array Keyed:=out++a.extract ia a.size++b.extract ib b.size
abbrev a7y(out:Array Keyed)(ia ib:Nat):Array Keyed:=out++b.extract ib b.size++a.extract ia a.size
def lo1(mg:Nat)(c:T6):StateT SortSt Sem (ForInStep T6):=do
 let some bWins <-lt' (<-elem' b c.2.2.2.1) (<-elem' a c.2.2.1)|pure (.done (some (a4t a b c.2.1 c.2.2.1 c.2.2.2.1),c.2.1,c.2.2.1,c.2.2.2.1,c.2.2.2.2.1,c.2.2.2.2.2))
 if bWins then
  let x <-elem' b c.2.2.2.1
  if c.2.2.2.1+1==b.size then pure (.done (some (a4t a b (c.2.1.push x) c.2.2.1 (c.2.2.2.1+1)),c.2.1.push x,c.2.2.1,c.2.2.2.1+1,0,c.2.2.2.2.2+1))
  else if c.2.2.2.2.2+1≥mg then pure (.done (none,c.2.1.push x,c.2.2.1,c.2.2.2.1+1,0,c.2.2.2.2.2+1))
  else pure (.yield (none,c.2.1.push x,c.2.2.1,c.2.2.2.1+1,0,c.2.2.2.2.2+1))
 else
  let x <-elem' a c.2.2.1
  if c.2.2.1+1+1==a.size then pure (.done (some (a7y a b (c.2.1.push x) (c.2.2.1+1) c.2.2.2.1),c.2.1.push x,c.2.2.1+1,c.2.2.2.1,c.2.2.2.2.1+1,0))
  else if c.2.2.2.2.1+1≥mg then pure (.done (none,c.2.1.push x,c.2.2.1+1,c.2.2.2.1,c.2.2.2.2.1+1,0))
  else pure (.yield (none,c.2.1.push x,c.2.2.1+1,c.2.2.2.1,c.2.2.2.2.1+1,0))
def lo25(out:Array Keyed)(ia ib mg k k1:Nat):StateT SortSt Sem (ForInStep T7):=do
 let x <-elem' a ia
 if ia+1+1==a.size then pure (.done (some (a7y a b (out.push x) (ia+1) ib),out.push x,ia+1,ib,mg,k,k1))
 else if k<7&&k1<7 then pure (.done (none,out.push x,ia+1,ib,mg,k,k1))
 else pure (.yield (none,out.push x,ia+1,ib,mg,k,k1))
def lo24(out:Array Keyed)(ia ib mg k bc:Nat):StateT SortSt Sem (ForInStep T7):=do
 let y <-elem' b ib
 if ib+1==b.size then pure (.done (some (a4t a b (out.push y) ia (ib+1)),out.push y,ia,ib+1,mg,k,bc))
 else do
  let some k1 <-a6j true (<-elem' a ia) b (ib+1) (b.size-(ib+1)) 0|pure (.done (some (a4t a b (out.push y) ia (ib+1)),out.push y,ia,ib+1,mg,k,bc))
  if k1>0 then
   if ib+1+k1==b.size then pure (.done (some (a4t a b (out.push y++b.extract (ib+1) (ib+1+k1)) ia (ib+1+k1)),out.push y++b.extract (ib+1) (ib+1+k1),ia,ib+1+k1,mg,k,k1))
   else lo25 a b (out.push y++b.extract (ib+1) (ib+1+k1)) ia (ib+1+k1) mg k k1
  else lo25 a b (out.push y) ia (ib+1) mg k k1
def lo22(c:T7)(mg:Nat):StateT SortSt Sem (ForInStep T7):=do
 a2n mg
 let some k <-a6j false (<-elem' b c.2.2.2.1) a c.2.2.1 (a.size-c.2.2.1) 0|pure (.done (some (a4t a b c.2.1 c.2.2.1 c.2.2.2.1),c.2.1,c.2.2.1,c.2.2.2.1,mg,c.2.2.2.2.2.1,c.2.2.2.2.2.2))
 if k>0 then
  if c.2.2.1+k+1==a.size then pure (.done (some (a7y a b (c.2.1++a.extract c.2.2.1 (c.2.2.1+k)) (c.2.2.1+k) c.2.2.2.1),c.2.1++a.extract c.2.2.1 (c.2.2.1+k),c.2.2.1+k,c.2.2.2.1,mg,k,c.2.2.2.2.2.2))
  else if c.2.2.1+k==a.size then pure (.done (some (a4t a b (c.2.1++a.extract c.2.2.1 (c.2.2.1+k)) (c.2.2.1+k) c.2.2.2.1),c.2.1++a.extract c.2.2.1 (c.2.2.1+k),c.2.2.1+k,c.2.2.2.1,mg,k,c.2.2.2.2.2.2))
  else lo24 a b (c.2.1++a.extract c.2.2.1 (c.2.2.1+k)) (c.2.2.1+k) c.2.2.2.1 mg k c.2.2.2.2.2.2
 else lo24 a b c.2.1 c.2.2.1 c.2.2.2.1 mg k c.2.2.2.2.2.2
def lo2(c:T7):StateT SortSt Sem (ForInStep T7):=if c.2.2.2.2.1>1 then lo22 a b c (c.2.2.2.2.1-1)else lo22 a b c c.2.2.2.2.1
def d5x(c:T5):StateT SortSt Sem (ForInStep T5):=do
 let c1 <-forIn [0:a.size+b.size] ((none,c.2.1,c.2.2.1,c.2.2.2.1,0,0):T6) fun _ c1=>lo1 a b c.2.2.2.2 c1
 match c1.1 with
 |some r=>pure (.done (some r,c1.2.1,c1.2.2.1,c1.2.2.2.1,c.2.2.2.2))
 | none=>do
  rule "list.sort.gallop"
  let c2 <-forIn [0:a.size+b.size] ((none,c1.2.1,c1.2.2.1,c1.2.2.2.1,c.2.2.2.2+1,c1.2.2.2.2.1,c1.2.2.2.2.2):T7) fun _ c2=>lo2 a b c2
  match c2.1 with
  |some r=>pure (.done (some r,c2.2.1,c2.2.2.1,c2.2.2.2.1,c2.2.2.2.2.1))
  |none=>do
   a2n (c2.2.2.2.2.1+1)
   pure (.yield (none,c2.2.1,c2.2.2.1,c2.2.2.2.1,c2.2.2.2.2.1+1))
def lo0:StateT SortSt Sem (Array Keyed):=do
 rule "list.sort.merge-lo"
 let x <-elem' b 0
 if 1==b.size then pure (a4t a b #[x] 0 1)
 else if 0+1==a.size then pure (a7y a b #[x] 0 1)
 else do
  let st <-get
  let c <-forIn [0:a.size+b.size] ((none,#[x],0,1,gallopOf st):T5) fun _ c=>d5x a b c
  match c.1 with
  |some r=>pure r
  |none=>unsupported "internal:list.sort.merge-bound"
theorem b9g:b4r a b=lo0 a b:=by
 refine a1W (bind _) (funext fun _=>?_);refine a1W (bind (elem' b 0)) (funext fun x=>?_);refine b0J rfl (fun _=>rfl) (fun _=>?_);refine b0J rfl (fun _=>rfl) (fun _=>?_);refine a1W (bind get) (funext fun st=>?_);refine congr (a1W bind (a1W (forIn [0:a.size+b.size] _) (funext fun u=>funext fun c=>?_))) (funext fun c=>?_)
 ·refine congr (a1W bind (a1W (forIn [0:a.size+b.size] _) (funext fun u=>funext fun c1=>rfl))) (funext fun c1=>?_);obtain⟨r1,out1,ia1,ib1,ac1,bc1⟩:=c1;cases r1 with
  |some r1=>rfl
  | none=>
   refine a1W (bind _) (funext fun _=>?_);refine congr (a1W bind (a1W (forIn [0:a.size+b.size] _) (funext fun u=>funext fun c2=>?_))) (funext fun c2=>?_)
   ·refine b0J rfl (fun _=>?_) (fun _=>?_)
    ·rfl
    ·rfl
   ·obtain⟨r2,_⟩:=c2;cases r2<;>rfl
 ·obtain⟨r,_⟩:=c;cases r<;>rfl
end
abbrev Up(r:Keyed->Int)(l:List Keyed):Prop:=l.Pairwise fun x y=>r x<r y
structure Mg(r:Keyed->Int)(la lb out:List Keyed)(ia ib:Nat):Prop where
 perm:(out++la.drop ia++lb.drop ib).Perm (la++lb)
 so:Up r out
 oa: ∀x∈out,∀y∈la.drop ia,r x<r y
 ob: ∀x∈out,∀y∈lb.drop ib,r x<r y
section
variable{r:Keyed->Int}{la lb out:List Keyed}{ia ib:Nat}
theorem b4t{l:List Keyed}(h:Up r l)(i:Nat):Up r (l.drop i):=a3B (List.drop_sublist i l) h
theorem c7s{l:List Keyed}(h:Up r l)(i k:Nat):Up r ((l.drop i).take k)/\ ∀x∈(l.drop i).take k,∀y∈l.drop (i+k),r x<r y:=by
 have z:=b4t h i;rw[<-a2W k (l.drop i)]at z;obtain⟨h1,_,h3⟩:=a1T.mp z;rw[List.drop_drop]at h3;exact⟨h1,h3⟩
theorem Mg.len(m:Mg r la lb out ia ib)(h1:ia<=la.length)(h2:ib<=lb.length):out.length+(la.length-ia)+(lb.length-ib)=la.length+lb.length:=by
 have z:=m.perm.length_eq;rw[a0L,a0L,a0L,a3N,a3N]at z;exact z
theorem Mg.moveA(m:Mg r la lb out ia ib)(sa:Up r la)(k:Nat)(h: ∀x∈(la.drop ia).take k,∀y∈lb.drop ib,r x<r y):Mg r la lb (out++(la.drop ia).take k) (ia+k) ib:=by
 obtain⟨t1,t2⟩:=c7s sa ia k;have e:(la.drop ia).take k++la.drop (ia+k)=la.drop ia:=by rw[<-List.drop_drop];exact a2W k _
 have sub: ∀y∈la.drop (ia+k),y∈la.drop ia:=fun y hy=>by rw[<-e];exact a0Q.mpr (.inr hy)
 refine⟨?_,a1T.mpr ⟨m.so,t1,fun x hx y hy=>m.oa x hx y (a4R hy)⟩,fun x hx y hy=>?_,fun x hx y hy=>?_⟩
 ·have z:=m.perm;rw[<-e,<-a1G]at z;exact z
 ·rcases a0Q.mp hx with z|z
  ·exact m.oa x z y (sub y hy)
  ·exact t2 x z y hy
 ·rcases a0Q.mp hx with z|z
  ·exact m.ob x z y hy
  ·exact h x z y hy
theorem Mg.moveB(m:Mg r la lb out ia ib)(sb:Up r lb)(k:Nat)(h: ∀x∈(lb.drop ib).take k,∀y∈la.drop ia,r x<r y):Mg r la lb (out++(lb.drop ib).take k) ia (ib+k):=by
 obtain⟨t1,t2⟩:=c7s sb ib k;have e:(lb.drop ib).take k++lb.drop (ib+k)=lb.drop ib:=by rw[<-List.drop_drop];exact a2W k _
 have sub: ∀y∈lb.drop (ib+k),y∈lb.drop ib:=fun y hy=>by rw[<-e];exact a0Q.mpr (.inr hy)
 refine⟨?_,a1T.mpr ⟨m.so,t1,fun x hx y hy=>m.ob x hx y (a4R hy)⟩,fun x hx y hy=>?_,fun x hx y hy=>?_⟩
 ·have z:=m.perm;rw[<-e]at z;refine List.Perm.trans ?_ z;rw[a1G,a1G,a1G];refine a5C _ ?_;rw[<-a1G,<-a1G];exact a6I _ a6S
 ·rcases a0Q.mp hx with z|z
  ·exact m.oa x z y hy
  ·exact h x z y hy
 ·rcases a0Q.mp hx with z|z
  ·exact m.ob x z y (sub y hy)
  ·exact t2 x z y hy
def a9y(r:Keyed->Int)(la lb out:List Keyed):Prop:=out.Perm (la++lb)/\Up r out
theorem Mg.endB(m:Mg r la lb out ia ib)(sa:Up r la)(h:lb.length<=ib):a9y r la lb (out++la.drop ia++lb.drop ib):=by
 refine⟨m.perm,?_⟩;rw[List.drop_of_length_le h,a2I];exact a1T.mpr ⟨m.so,b4t sa ia,m.oa⟩
theorem Mg.endA(m:Mg r la lb out ia ib)(sb:Up r lb)(h:la.length<=ia):a9y r la lb (out++la.drop ia++lb.drop ib):=by
 refine⟨m.perm,?_⟩;rw[List.drop_of_length_le h,a2I];exact a1T.mpr ⟨m.so,b4t sb ib,m.ob⟩
theorem Mg.last(m:Mg r la lb out ia ib)(sb:Up r lb)(h:ia+1=la.length)(top: ∀y∈lb,∀x∈la.drop ia,r y<r x):a9y r la lb (out++lb.drop ib++la.drop ia):=by
 refine⟨List.Perm.trans ?_ m.perm,?_⟩
 ·rw[a1G,a1G];exact a5C _ a6S
 ·obtain⟨x,ex⟩: ∃x,la.drop ia=[x]:=List.length_eq_one_iff.mp (by rw[a3N];lia);refine a1T.mpr ⟨a1T.mpr ⟨m.so,b4t sb ib,m.ob⟩,by rw[ex];exact a3R _ _,fun y hy x hx=>?_⟩
  rcases a0Q.mp hy with z|z
  ·exact m.oa y z x hx
  ·exact top y (a8X z) x hx
end
structure Eqv(st st':SortSt):Prop where
 kind:kindOf st'=kindOf st
 arr:arrOf st'=arrOf st
 pend:pendingOf st'=pendingOf st
 ok:failedOf st'=failedOf st
theorem Eqv.refl(st:SortSt):Eqv st st:=⟨rfl,rfl,rfl,rfl⟩
theorem Eqv.trans{a b c:SortSt}(h:Eqv a b)(h':Eqv b c):Eqv a c:=⟨h'.kind.trans h.kind,h'.arr.trans h.arr,h'.pend.trans h.pend,h'.ok.trans h.ok⟩
section
variable{M:Model}{A:Ar}{E:VP}{s:Sh}{κ:SortKind}{r:Keyed->Int}{a₀ a b out:Array Keyed}{ia ib:Nat}
theorem a6u{g:Nat}{st:SortSt}{Q:Unit->SortSt->Prop}(h: ∀st',Eqv st st'->Q () st'):wpS M A E s (a2n g) Q st:=by
 rw[a9x];exact a6U (h _ ⟨rfl,rfl,rfl,rfl⟩)
theorem c1n(a:Array Keyed)(i:Nat):(a.extract i a.size).toList=a.toList.drop i:=by
 rw[a6W,a5I,a4Y (by rw[a3N,a0P];exact a0K _)]
theorem d9e(a:Array Keyed)(i k:Nat):(a.extract i (i+k)).toList=(a.toList.drop i).take k:=by
 rw[a6W,a5I,a3Z]
theorem a6k:(a4t a b out ia ib).toList=out.toList++a.toList.drop ia++b.toList.drop ib:=by
 rw[a2R,a2R,c1n,c1n]
theorem a7z:(a7y a b out ia ib).toList=out.toList++b.toList.drop ib++a.toList.drop ia:=by
 rw[a2R,a2R,c1n,c1n]
theorem b9h{i:Nat}(h:i<a.size):a.toList.drop i=a.getD i d0::a.toList.drop (i+1):=by
 have z:=a6i h;rw[<-a2C]at z;obtain⟨h1,h2⟩:=a0B.mp z;rw[a5G h1,h2]
theorem b0i{i:Nat}{x:Keyed}(h:x∈a.toList.drop i): ∃j,i<=j/\j<a.size/\a.getD j d0=x:=by
 obtain⟨j,hj⟩:=a4S h;rw[a5E,a2C]at hj;exact⟨i+j,by lia,(a4B.mp hj).1,getD_of hj⟩
theorem b4u{i k:Nat}{x:Keyed}(h:x∈(a.toList.drop i).take k): ∃j,j<k/\i+j<a.size/\a.getD (i+j) d0=x:=by
 obtain⟨j,hj⟩:=a4S h;rw[a9S]at hj;split at hj
 ·next l=>
  rw[a5E,a2C]at hj;exact⟨j,l,(a4B.mp hj).1,getD_of hj⟩
 ·cases hj
theorem b3r{lo hi:Nat}(h:Up r a.toList)(hh:hi<=a.size):Ris r a lo hi:=fun i j _ h2 h3=>by
 have e: ∀k,k<a.size->a.toList[k]? =some (a.getD k d0):=fun k hk=>by rw[a2C];exact a6i hk
 obtain⟨l1,e1⟩:=a0B.mp (e i (by lia));obtain⟨l2,e2⟩:=a0B.mp (e j (by lia));have z:=a2O.mp h i j l1 l2 h2;rw[e1,e2]at z;exact z
theorem a3a{i:Nat}(h:i<a.size):a.getD i d0∈a.toList:=by
 rw[a8V];exact a8M (a6i h)
structure Two(κ:SortKind)(r:Keyed->Int)(a₀ a b:Array Keyed):Prop where
 ma: ∀x∈a.toList,x∈a₀
 mb: ∀x∈b.toList,x∈a₀
 sa:Up r a.toList
 sb:Up r b.toList
 ap: ∀x∈a.toList,∀y∈b.toList,r x≠r y
 a1:0<a.size
 b1:0<b.size
 lo: ∀x∈a.toList,r (b.getD 0 d0)<r x
 top: ∀y∈b.toList,r y<r (a.getD (a.size-1) d0)
abbrev Gd(r:Keyed->Int)(a b m:Array Keyed):Prop:=a9y r a.toList b.toList m.toList
theorem Two.tops(t:Two κ r a₀ a b){i:Nat}(h:i+1=a.size): ∀y∈b.toList,∀x∈a.toList.drop i,r y<r x:=fun y hy x hx=>by
 obtain⟨j,h1,h2,rfl⟩:=b0i hx;have e:j=a.size-1:=by lia
 subst e;exact t.top y hy
theorem a8a{x:Keyed}:(out.push x).toList=out.toList++[x]:=a5O
theorem d9f(t:Two κ r a₀ a b)(m:Mg r a.toList b.toList out.toList ia ib)(ha:ia<a.size)(h: ∀y∈b.toList.drop ib,r (a.getD ia d0)<r y):Mg r a.toList b.toList (out.push (a.getD ia d0)).toList (ia+1) ib:=by
 have e:(a.toList.drop ia).take 1=[a.getD ia d0]:=by rw[b9h ha];rfl
 have z:=m.moveA t.sa 1 (by rw[e];intro x hx;rw[a0J.mp hx];exact h);rw[e]at z;rw[a8a];exact z
theorem d5y(t:Two κ r a₀ a b)(m:Mg r a.toList b.toList out.toList ia ib)(hb:ib<b.size)(h: ∀y∈a.toList.drop ia,r (b.getD ib d0)<r y):Mg r a.toList b.toList (out.push (b.getD ib d0)).toList ia (ib+1):=by
 have e:(b.toList.drop ib).take 1=[b.getD ib d0]:=by rw[b9h hb];rfl
 have z:=m.moveB t.sb 1 (by rw[e];intro x hx;rw[a0J.mp hx];exact h);rw[e]at z;rw[a8a];exact z
theorem below{x:Int}{i:Nat}(sa:Up r a.toList)(ha:i<a.size)(h:x<r (a.getD i d0)): ∀y∈a.toList.drop i,x<r y:=fun y hy=>by
 obtain⟨j,h1,h2,rfl⟩:=b0i hy;by_cases e:j=i
 ·subst e;exact h
 ·have:=b3r (lo:=0) sa (a0K _) i j (a3K _) (by lia) h2;show x<kx r a j;have:x<kx r a i:=h;lia
theorem d5z{st0:SortSt}{mg old t:Nat}{c:T6}{st:SortSt}{Q:ForInStep T6->SortSt->Prop}(K:Asks M A s κ r a₀)(T:Two κ r a₀ a b)(e0:Eqv st0 st)(hk:kindOf st0=κ)(ec:c=(none,out,ia,ib,c.2.2.2.2.1,c.2.2.2.2.2))(m:Mg r a.toList b.toList out.toList ia ib)(ha:ia+1<a.size)(hb:ib<b.size)(hz:old+t<=out.size)
  (q1: ∀w rest,Gd r a b w->Q (.done (some w,rest)) st) (q2: ∀out ia ib x y,Mg r a.toList b.toList out.toList ia ib->ia+1<a.size->ib<b.size->old+t+1<=out.size->Q (.done (none,out,ia,ib,x,y)) st/\Q (.yield (none,out,ia,ib,x,y)) st):wpS M A E s (lo1 a b mg c) Q st:=by
 have hk':=e0.kind.trans hk;unfold lo1;rw[ec];dsimp only;have la:=T.ma _ (a3a (show ia<a.size by lia));have lb:=T.mb _ (a3a hb);refine a0Z (a0z hb (a0Z (a0z (by lia) (a0Z (b7l K hk' lb la ?_)))));by_cases w:r (b.getD ib d0)<r (a.getD ia d0)
 ·rw[a1A w];refine a0Z (a0z hb ?_);have m2:=d5y T m hb (below T.sa (by lia) w);by_cases z:ib+1=b.size
  ·rw[wB (by simpa using z)];refine a1I (q1 _ _ ?_);show a9y r _ _ (a4t a b _ _ _).toList
   rw[a6k];exact m2.endB T.sa (by rw[a0P];lia)
  ·rw[wA (by simpa using z)];obtain⟨h1,h2⟩:=q2 _ _ _ 0 (c.2.2.2.2.2+1) m2 ha (by lia) (by rw[a4L];lia);by_cases g:c.2.2.2.2.2+1≥mg
   ·rw[wB g];exact a1I h1
   ·rw[wA g];exact a1I h2
 ·rw[a1J w];refine a0Z (a0z (by lia) ?_);have ne:=T.ap _ (a3a (show ia<a.size by lia)) _ (a3a hb);have m2:=d9f T m (by lia) (below T.sb hb (by lia));by_cases z:ia+1+1=a.size
  ·rw[wB (by simpa using z)];refine a1I (q1 _ _ ?_);show a9y r _ _ (a7y a b _ _ _).toList
   rw[a7z];exact m2.last T.sb (by rw[a0P];lia) (T.tops (by lia))
  ·rw[wA (by simpa using z)];obtain⟨h1,h2⟩:=q2 _ _ _ (c.2.2.2.2.1+1) 0 m2 (by lia) hb (by rw[a4L];lia);by_cases g:c.2.2.2.2.1+1≥mg
   ·rw[wB g];exact a1I h1
   ·rw[wA g];exact a1I h2
end
section
variable{M:Model}{A:Ar}{E:VP}{s:Sh}{κ:SortKind}{r:Keyed->Int}{a₀ a b out:Array Keyed}{ia ib:Nat}
structure Rnd(r:Keyed->Int)(a b:Array Keyed)(st0:SortSt)(old:Nat)(Q:ForInStep T7->SortSt->Prop):Prop where
 q1: ∀st w rest,Eqv st0 st->Gd r a b w->Q (.done (some w,rest)) st
 q2: ∀st (out:Array Keyed) ia ib x y z,Eqv st0 st->Mg r a.toList b.toList out.toList ia ib->ia+1<a.size->ib<b.size->old<=out.size->Q (.done (none,out,ia,ib,x,y,z)) st/\Q (.yield (none,out,ia,ib,x,y,z)) st
theorem c1o{st0 st:SortSt}{mg k k1 old:Nat}{Q:ForInStep T7->SortSt->Prop}(T:Two κ r a₀ a b)(e0:Eqv st0 st)(m:Mg r a.toList b.toList out.toList ia ib)(ha:ia+1<a.size)(hb:ib<b.size)(hz:old<=out.size)(lt: ∀y∈b.toList.drop ib,r (a.getD ia d0)<r y)(q:Rnd r a b st0 old Q):wpS M A E s (lo25 a b out ia ib mg k k1) Q st:=by
 unfold lo25;refine a0Z (a0z (by lia) ?_);have m2:=d9f T m (by lia) lt;by_cases z:ia+1+1=a.size
 ·rw[wB (by simpa using z)];refine a1I (q.q1 _ _ _ e0 ?_);show a9y r _ _ (a7y a b _ _ _).toList;rw[a7z];exact m2.last T.sb (by rw[a0P];lia) (T.tops (by lia))
 ·rw[wA (by simpa using z)];obtain⟨h1,h2⟩:=q.q2 st _ _ _ mg k k1 e0 m2 (by lia) hb (by rw[a4L];lia);by_cases g:(decide (k<7)&&decide (k1<7))=true
  ·rw[wB g];exact a1I h1
  ·rw[wA g];exact a1I h2
theorem c1p{st0 st:SortSt}{mg k bc old:Nat}{Q:ForInStep T7->SortSt->Prop}(K:Asks M A s κ r a₀)(hk:kindOf st0=κ)(T:Two κ r a₀ a b)(e0:Eqv st0 st)(m:Mg r a.toList b.toList out.toList ia ib)(ha:ia+1<a.size)(hb:ib<b.size)(hz:old<=out.size)(lt: ∀y∈a.toList.drop ia,r (b.getD ib d0)<r y)(q:Rnd r a b st0 old Q):wpS M A E s (lo24 a b out ia ib mg k bc) Q st:=by
 have hk':=e0.kind.trans hk;unfold lo24;refine a0Z (a0z hb ?_);have m1:=d5y T m hb lt;have hz1:old<=(out.push (b.getD ib d0)).size:=by rw[a4L];lia
 generalize out.push (b.getD ib d0)=out1 at m1 hz1;by_cases z:ib+1=b.size
 ·rw[wB (by simpa using z)];refine a1I (q.q1 _ _ _ e0 ?_);show a9y r _ _ (a4t a b _ _ _).toList;rw[a6k];exact m1.endB T.sa (by rw[a0P];lia)
 rw[wA (by simpa using z)];have la:=a3a (show ia<a.size by lia);refine a0Z (a0z (by lia) (a0Z (a4b K hk' (by lia) (fun i hi=>T.mb _ (a3a (by lia))) (T.ma _ la) (fun i hi=>(T.ap _ la _ (a3a (show ib+1+i<b.size by lia))).symm) (b3r T.sb (by lia)) (by lia) fun k1 kn k2 k3=>?_)));dsimp only;have ab: ∀y∈b.toList.drop (ib+1+k1),r (a.getD ia d0)<r y:=fun y hy=>by
  obtain⟨j,h1,h2,rfl⟩:=b0i hy;have:=k3 (j-(ib+1)) (a8W (b0D .. ▸h1)) (Nat.sub_lt_sub_right (a1C (a3P ..) h1) h2);rw[a3M (a1C (a3P ..) h1)]at this;exact this
 by_cases g:k1>0
 ·rw[wB g];have m2:=m1.moveB T.sb k1 (fun x hx y hy=>by
   obtain⟨j,h1,h2,rfl⟩:=b4u hx;exact below T.sa (by lia) (k2 j h1) y hy)
  rw[<-d9e,<-a2R]at m2;have hz2:old<=(out1++b.extract (ib+1) (ib+1+k1)).size:=by rw[a8F];lia
  by_cases z2:ib+1+k1=b.size
  ·rw[wB (by simpa using z2)];refine a1I (q.q1 _ _ _ e0 ?_);show a9y r _ _ (a4t a b _ _ _).toList
   rw[a6k];exact m2.endB T.sa (by rw[a0P];lia)
  ·rw[wA (by simpa using z2)];exact c1o T e0 m2 ha (by lia) hz2 ab q
 ·rw[wA g];have e:k1=0:=Nat.eq_zero_of_not_pos g;subst e;exact c1o T e0 m1 ha (by lia) hz1 ab q
theorem c1q{st0 st:SortSt}{c:T7}{mg old:Nat}{Q:ForInStep T7->SortSt->Prop}(K:Asks M A s κ r a₀)(hk:kindOf st0=κ)(T:Two κ r a₀ a b)(e0:Eqv st0 st)(ec:c.2.1=out/\c.2.2.1=ia/\c.2.2.2.1=ib)(m:Mg r a.toList b.toList out.toList ia ib)(ha:ia+1<a.size)(hb:ib<b.size)(hz:old<=out.size)(q:Rnd r a b st0 old Q):wpS M A E s (lo22 a b c mg) Q st:=by
 obtain⟨e1,e2,e3⟩:=ec;unfold lo22;rw[e1,e2,e3];refine a0Z (a6u fun st1 x1=>?_);have e4:=e0.trans x1;have hk':=e4.kind.trans hk;have lb:=a3a hb;refine a0Z (a0z hb (a0Z (a4b K hk' (by lia) (fun i hi=>T.ma _ (a3a (by lia))) (T.mb _ lb) (fun i hi=>T.ap _ (a3a (show ia+i<a.size by lia)) _ lb) (b3r T.sa (by lia)) (by lia) fun k kn k2 k3=>?_)));dsimp only;have ab: ∀y∈a.toList.drop (ia+k),r (b.getD ib d0)<r y:=fun y hy=>by
  obtain⟨j,h1,h2,rfl⟩:=b0i hy;have:=k3 (j-ia) (a8W (b0D .. ▸h1)) (Nat.sub_lt_sub_right (a1C (a3P ..) h1) h2);rw[a3M (a1C (a3P ..) h1)]at this;exact this
 by_cases g:k>0
 ·rw[wB g];have m2:=m.moveA T.sa k (fun x hx y hy=>by
   obtain⟨j,h1,h2,rfl⟩:=b4u hx;exact below T.sb hb (k2 j h1) y hy)
  rw[<-d9e,<-a2R]at m2;have hz2:old<=(out++a.extract ia (ia+k)).size:=by rw[a8F];lia
  by_cases z1:ia+k+1=a.size
  ·rw[wB (by simpa using z1)];refine a1I (q.q1 _ _ _ e4 ?_);show a9y r _ _ (a7y a b _ _ _).toList
   rw[a7z];exact m2.last T.sb (by rw[a0P];lia) (T.tops (by lia))
  rw[wA (by simpa using z1)];by_cases z2:ia+k=a.size
  ·rw[wB (by simpa using z2)];refine a1I (q.q1 _ _ _ e4 ?_);show a9y r _ _ (a4t a b _ _ _).toList
   rw[a6k];exact m2.endA T.sb (by rw[a0P];lia)
  rw[wA (by simpa using z2)];exact c1p K hk T e4 m2 (by lia) hb hz2 ab q
 ·rw[wA g];have e:k=0:=Nat.eq_zero_of_not_pos g;subst e;exact c1p K hk T e4 m ha hb hz ab q
theorem d6a{st0 st:SortSt}{c:T7}{old:Nat}{Q:ForInStep T7->SortSt->Prop}(K:Asks M A s κ r a₀)(hk:kindOf st0=κ)(T:Two κ r a₀ a b)(e0:Eqv st0 st)(ec:c.2.1=out/\c.2.2.1=ia/\c.2.2.2.1=ib)(m:Mg r a.toList b.toList out.toList ia ib)(ha:ia+1<a.size)(hb:ib<b.size)(hz:old<=out.size)(q:Rnd r a b st0 old Q):wpS M A E s (lo2 a b c) Q st:=by
 unfold lo2;split
 ·exact c1q K hk T e0 ec m ha hb hz q
 ·exact c1q K hk T e0 ec m ha hb hz q
theorem c7t{st0 st:SortSt}{c:T5}{Q:ForInStep T5->SortSt->Prop}{mg:Nat}(K:Asks M A s κ r a₀)(hk:kindOf st0=κ)(T:Two κ r a₀ a b)(e0:Eqv st0 st)(ec:c=(none,out,ia,ib,mg))(m:Mg r a.toList b.toList out.toList ia ib)(ha:ia+1<a.size)(hb:ib<b.size)
  (q1: ∀st w rest,Eqv st0 st->Gd r a b w->Q (.done (some w,rest)) st) (q2: ∀st (out':Array Keyed) ia ib g,Eqv st0 st->Mg r a.toList b.toList out'.toList ia ib->ia+1<a.size->ib<b.size->out.size+1<=out'.size->Q (.yield (none,out',ia,ib,g)) st):wpS M A E s (d5x a b c) Q st:=by
 subst ec;unfold d5x;dsimp only;have tot:0<a.size+b.size:=by lia
 refine a0Z (a5Z (a3H (I:=fun x (c1:T6) st'=>Eqv st0 st'/\ ∃(o:Array Keyed) (i j u v:Nat),c1=(none,o,i,j,u,v)/\Mg r a.toList b.toList o.toList i j/\i+1<a.size/\j<b.size/\out.size+x<=o.size)
  (Q:=fun c1 st'=>Eqv st0 st'/\((∃w rest,c1=(some w,rest)/\Gd r a b w)∨ ∃(o:Array Keyed) (i j u v:Nat),c1=(none,o,i,j,u,v)/\Mg r a.toList b.toList o.toList i j/\i+1<a.size/\j<b.size/\out.size+1<=o.size)) ?step ?stop ⟨e0,out,ia,ib,0,0,rfl,m,ha,hb,a0K _⟩) ?post)
 case step=>
  rintro x c1 st' _ hx ⟨e1,o,i,j,u,v,rfl,m1,h1,h2,h3⟩;refine d5z (old:=out.size) (t:=x) K T e1 hk rfl m1 h1 h2 h3 (fun w rest g=>⟨e1,.inl ⟨w,rest,rfl,g⟩⟩) fun o' i' j' u' v' m' h1' h2' h3'=>⟨⟨e1,.inr ⟨o',i',j',u',v',rfl,m',h1',h2',by lia⟩⟩,⟨e1,o',i',j',u',v',rfl,m',h1',h2',by lia⟩⟩
 case stop=>
  rintro c1 st' ⟨e1,o,i,j,u,v,rfl,m1,h1,h2,h3⟩;exact⟨e1,.inr ⟨o,i,j,u,v,rfl,m1,h1,h2,by lia⟩⟩
 case post=>
  rintro c1 st' ⟨e1,h⟩
  rcases h with⟨w,rest,rfl,g⟩|⟨o,i,j,u,v,rfl,m1,h1,h2,h3⟩
  ·exact a1I (q1 _ _ _ e1 g)
  dsimp only;refine a0Z (b0P (a6F ⟨rfl,?_⟩));refine a0Z (a5Z (a3H (I:=fun x (c2:T7) st'=>Eqv st0 st'/\ ∃(o:Array Keyed) (i j u v w:Nat),c2=(none,o,i,j,u,v,w)/\Mg r a.toList b.toList o.toList i j/\i+1<a.size/\j<b.size/\out.size+1<=o.size)
   (Q:=fun c2 st'=>Eqv st0 st'/\((∃w rest,c2=(some w,rest)/\Gd r a b w)∨ ∃(o:Array Keyed) (i j u v w:Nat),c2=(none,o,i,j,u,v,w)/\Mg r a.toList b.toList o.toList i j/\i+1<a.size/\j<b.size/\out.size+1<=o.size)) ?step2 ?stop2 ⟨e1,o,i,j,mg+1,u,v,rfl,m1,h1,h2,h3⟩) ?post2)
  case step2=>
   rintro x c2 st2 _ hx ⟨e2,o,i,j,u,v,w,rfl,m2,g1,g2,g3⟩;exact d6a K hk T e2 ⟨rfl,rfl,rfl⟩ m2 g1 g2 g3 ⟨fun st w rest e g=>⟨e,.inl ⟨w,rest,rfl,g⟩⟩,fun st o' i' j' x' y' z' e m' h1' h2' h3'=>⟨⟨e,.inr ⟨o',i',j',x',y',z',rfl,m',h1',h2',h3'⟩⟩,⟨e,o',i',j',x',y',z',rfl,m',h1',h2',h3'⟩⟩⟩
  case stop2=>
   rintro c2 st2 ⟨e2,o,i,j,u,v,w,rfl,m2,g1,g2,g3⟩;exact⟨e2,.inr ⟨o,i,j,u,v,w,rfl,m2,g1,g2,g3⟩⟩
  case post2=>
   rintro c2 st2 ⟨e2,h⟩
   rcases h with⟨w,rest,rfl,g⟩|⟨o,i,j,u,v,w,rfl,m2,g1,g2,g3⟩
   ·exact a1I (q1 _ _ _ e2 g)
   ·dsimp only;exact a0Z (a6u fun st3 x3=>a1I (q2 _ _ _ _ _ (e2.trans x3) m2 g1 g2 g3))
theorem b9i{st:SortSt}{Q:Array Keyed->SortSt->Prop}(K:Asks M A s κ r a₀)(hk:kindOf st=κ)(T:Two κ r a₀ a b)(q: ∀m st',Eqv st st'->Gd r a b m->Q m st'):wpS M A E s (b4r a b) Q st:=by
 rw[b9g];unfold lo0;refine a0Z (b0P (a6F ⟨rfl,a0Z (a0z T.b1 ?_)⟩));have m0:Mg r a.toList b.toList (#[]:Array Keyed).toList 0 0:=⟨by simp,List.Pairwise.nil,fun x hx=>(nomatch hx),fun x hx=>(nomatch hx)⟩;have m1:Mg r a.toList b.toList (#[b.getD 0 d0]:Array Keyed).toList 0 1:=d5y (out:= #[]) T m0 T.b1 (fun y hy=>T.lo y hy);have a1:=T.a1;have b1:=T.b1;by_cases z1:1=b.size
 ·rw[wB (by simpa using z1)];refine a1I (q _ _ (Eqv.refl _) ?_);show a9y r _ _ (a4t a b _ _ _).toList;rw[a6k];exact m1.endB T.sa (by rw[a0P];lia)
 rw[wA (by simpa using z1)];by_cases z2:0+1=a.size
 ·rw[wB (by simpa using z2)];refine a1I (q _ _ (Eqv.refl _) ?_);show a9y r _ _ (a7y a b _ _ _).toList;rw[a7z];exact m1.last T.sb (by rw[a0P];lia) (T.tops (by lia))
 rw[wA (by simpa using z2)];refine a0Z (a9K (a0Z (a5Z (a3H (I:=fun x (c:T5) st'=>Eqv st st'/\ ∃(o:Array Keyed) (i j g:Nat),c=(none,o,i,j,g)/\Mg r a.toList b.toList o.toList i j/\i+1<a.size/\j<b.size/\x+1<=o.size)
  (Q:=fun c st'=>Eqv st st'/\ ∃w rest,c=(some w,rest)/\Gd r a b w) ?step ?stop ⟨Eqv.refl _,_,0,1,_,rfl,m1,by lia,by lia,a0K _⟩) ?post)))
 case step=>
  rintro x c st' _ hx ⟨e1,o,i,j,g,rfl,m2,h1,h2,h3⟩;exact c7t K hk T e1 rfl m2 h1 h2 (fun st w rest e g=>⟨e,w,rest,rfl,g⟩) fun st' o' i' j' g' e m' h1' h2' h3'=>⟨e,o',i',j',g',rfl,m',h1',h2',by lia⟩
 case stop=>
  rintro c st' ⟨e1,o,i,j,g,rfl,m2,h1,h2,h3⟩;have z:=m2.len (by rw[a0P];lia) (by rw[a0P];lia);rw[a0P,a0P,a0P]at z
  exfalso
  lia
 case post=>
  rintro c st' ⟨e1,w,rest,rfl,g⟩;exact a1I (q _ _ e1 g)
end
abbrev U5:Type:=Option (Array Keyed)×Nat×Nat×Array Keyed×Nat
abbrev U6:Type:=Option (Array Keyed)×Nat×Nat×Array Keyed×Nat×Nat
abbrev U7:Type:=Option (Array Keyed)×Nat×Nat×Array Keyed×Nat×Nat×Nat
section
variable(a b:Array Keyed)
abbrev a4u(out:Array Keyed)(na nb:Nat):Array Keyed:=a.extract 0 na++b.extract 0 nb++out.reverse
abbrev a5l(out:Array Keyed)(na nb:Nat):Array Keyed:=b.extract 0 nb++a.extract 0 na++out.reverse
def hi1(mg:Nat)(c:U6):StateT SortSt Sem (ForInStep U6):=do
 let some aWins <-lt' (<-elem' b (c.2.2.1-1)) (<-elem' a (c.2.1-1))|pure (.done (some (a4u a b c.2.2.2.1 c.2.1 c.2.2.1),c.2.1,c.2.2.1,c.2.2.2.1,c.2.2.2.2.1,c.2.2.2.2.2))
 if aWins then
  let x <-elem' a (c.2.1-1)
  if c.2.1-1==0 then pure (.done (some (a4u a b (c.2.2.2.1.push x) (c.2.1-1) c.2.2.1),c.2.1-1,c.2.2.1,c.2.2.2.1.push x,c.2.2.2.2.1+1,0))
  else if c.2.2.2.2.1+1≥mg then pure (.done (none,c.2.1-1,c.2.2.1,c.2.2.2.1.push x,c.2.2.2.2.1+1,0))
  else pure (.yield (none,c.2.1-1,c.2.2.1,c.2.2.2.1.push x,c.2.2.2.2.1+1,0))
 else
  let x <-elem' b (c.2.2.1-1)
  if c.2.2.1-1==1 then pure (.done (some (a5l a b (c.2.2.2.1.push x) c.2.1 (c.2.2.1-1)),c.2.1,c.2.2.1-1,c.2.2.2.1.push x,0,c.2.2.2.2.2+1))
  else if c.2.2.2.2.2+1≥mg then pure (.done (none,c.2.1,c.2.2.1-1,c.2.2.2.1.push x,0,c.2.2.2.2.2+1))
  else pure (.yield (none,c.2.1,c.2.2.1-1,c.2.2.2.1.push x,0,c.2.2.2.2.2+1))
def hi25(na nb:Nat)(out:Array Keyed)(mg k k1:Nat):StateT SortSt Sem (ForInStep U7):=do
 let x <-elem' a (na-1)
 if na-1==0 then pure (.done (some (a4u a b (out.push x) (na-1) nb),na-1,nb,out.push x,mg,k,k1))
 else if k<7&&k1<7 then pure (.done (none,na-1,nb,out.push x,mg,k,k1))
 else pure (.yield (none,na-1,nb,out.push x,mg,k,k1))
def hi24(na nb:Nat)(out:Array Keyed)(mg k bc:Nat):StateT SortSt Sem (ForInStep U7):=do
 let y <-elem' b (nb-1)
 if nb-1==1 then pure (.done (some (a5l a b (out.push y) na (nb-1)),na,nb-1,out.push y,mg,k,bc))
 else do
  let some t <-a6j true (<-elem' a (na-1)) b 0 (nb-1) (nb-1-1)|pure (.done (some (a4u a b (out.push y) na (nb-1)),na,nb-1,out.push y,mg,k,bc))
  if nb-1-t>0 then
   if t==1 then pure (.done (some (a5l a b (out.push y++(b.extract t (nb-1)).reverse) na t),na,t,out.push y++(b.extract t (nb-1)).reverse,mg,k,nb-1-t))
   else if t==0 then pure (.done (some (a4u a b (out.push y++(b.extract t (nb-1)).reverse) na t),na,t,out.push y++(b.extract t (nb-1)).reverse,mg,k,nb-1-t))
   else hi25 a b na t (out.push y++(b.extract t (nb-1)).reverse) mg k (nb-1-t)
  else hi25 a b na (nb-1) (out.push y) mg k (nb-1-t)
def hi22(c:U7)(mg:Nat):StateT SortSt Sem (ForInStep U7):=do
 a2n mg
 let some t <-a6j false (<-elem' b (c.2.2.1-1)) a 0 c.2.1 (c.2.1-1)|pure (.done (some (a4u a b c.2.2.2.1 c.2.1 c.2.2.1),c.2.1,c.2.2.1,c.2.2.2.1,mg,c.2.2.2.2.2.1,c.2.2.2.2.2.2))
 if c.2.1-t>0 then
  if t==0 then pure (.done (some (a4u a b (c.2.2.2.1++(a.extract t c.2.1).reverse) t c.2.2.1),t,c.2.2.1,c.2.2.2.1++(a.extract t c.2.1).reverse,mg,c.2.1-t,c.2.2.2.2.2.2))
  else hi24 a b t c.2.2.1 (c.2.2.2.1++(a.extract t c.2.1).reverse) mg (c.2.1-t) c.2.2.2.2.2.2
 else hi24 a b c.2.1 c.2.2.1 c.2.2.2.1 mg (c.2.1-t) c.2.2.2.2.2.2
def hi2(c:U7):StateT SortSt Sem (ForInStep U7):=if c.2.2.2.2.1>1 then hi22 a b c (c.2.2.2.2.1-1)else hi22 a b c c.2.2.2.2.1
def d6b(c:U5):StateT SortSt Sem (ForInStep U5):=do
 let c1 <-forIn [0:a.size+b.size] ((none,c.2.1,c.2.2.1,c.2.2.2.1,0,0):U6) fun _ c1=>hi1 a b c.2.2.2.2 c1
 match c1.1 with
 |some r=>pure (.done (some r,c1.2.1,c1.2.2.1,c1.2.2.2.1,c.2.2.2.2))
 | none=>do
  rule "list.sort.gallop"
  let c2 <-forIn [0:a.size+b.size] ((none,c1.2.1,c1.2.2.1,c1.2.2.2.1,c.2.2.2.2+1,c1.2.2.2.2.1,c1.2.2.2.2.2):U7) fun _ c2=>hi2 a b c2
  match c2.1 with
  |some r=>pure (.done (some r,c2.2.1,c2.2.2.1,c2.2.2.2.1,c2.2.2.2.2.1))
  |none=>do
   a2n (c2.2.2.2.2.1+1)
   pure (.yield (none,c2.2.1,c2.2.2.1,c2.2.2.2.1,c2.2.2.2.2.1+1))
def hi0:StateT SortSt Sem (Array Keyed):=do
 rule "list.sort.merge-hi"
 let x <-elem' a (a.size-1)
 if a.size-1==0 then pure (a4u a b #[x] (a.size-1) b.size)
 else if b.size==1 then pure (a5l a b #[x] (a.size-1) b.size)
 else do
  let st <-get
  let c <-forIn [0:a.size+b.size] ((none,a.size-1,b.size,#[x],gallopOf st):U5) fun _ c=>d6b a b c
  match c.1 with
  |some r=>pure r
  |none=>unsupported "internal:list.sort.merge-bound"
theorem b9j:b4s a b=hi0 a b:=by
 refine a1W (bind _) (funext fun _=>?_);refine a1W (bind (elem' a (a.size-1))) (funext fun x=>?_);refine b0J rfl (fun _=>rfl) (fun _=>?_);refine b0J rfl (fun _=>rfl) (fun _=>?_);refine a1W (bind get) (funext fun st=>?_);refine congr (a1W bind (a1W (forIn [0:a.size+b.size] _) (funext fun u=>funext fun c=>?_))) (funext fun c=>?_)
 ·refine congr (a1W bind (a1W (forIn [0:a.size+b.size] _) (funext fun u=>funext fun c1=>rfl))) (funext fun c1=>?_);obtain⟨r1,out1,ia1,ib1,ac1,bc1⟩:=c1;cases r1 with
  |some r1=>rfl
  | none=>
   refine a1W (bind _) (funext fun _=>?_);refine congr (a1W bind (a1W (forIn [0:a.size+b.size] _) (funext fun u=>funext fun c2=>?_))) (funext fun c2=>?_)
   ·refine b0J rfl (fun _=>?_) (fun _=>?_)
    ·rfl
    ·rfl
   ·obtain⟨r2,_⟩:=c2;cases r2<;>rfl
 ·obtain⟨r,_⟩:=c;cases r<;>rfl
end
structure Mh(r:Keyed->Int)(la lb out:List Keyed)(na nb:Nat):Prop where
 perm:(la.take na++lb.take nb++out.reverse).Perm (la++lb)
 so:Up r out.reverse
 ao: ∀x∈la.take na,∀y∈out,r x<r y
 bo: ∀x∈lb.take nb,∀y∈out,r x<r y
section
variable{r:Keyed->Int}{la lb out:List Keyed}{na nb:Nat}
theorem d4f{l:List Keyed}(h:Up r l){n t:Nat}(ht:t<=n):l.take t++(l.take n).drop t=l.take n/\Up r ((l.take n).drop t)/\ ∀x∈l.take t,∀y∈(l.take n).drop t,r x<r y:=by
 have e:l.take t++(l.take n).drop t=l.take n:=by
  have z:=a2W t (l.take n);rwa[a6G,a4K ht]at z
 have z:Up r (l.take n):=a3B (a5K n l) h;rw[<-e]at z;obtain⟨_,h2,h3⟩:=a1T.mp z;exact⟨e,h2,h3⟩
theorem Mh.len(m:Mh r la lb out na nb)(h1:na<=la.length)(h2:nb<=lb.length):na+nb+out.length=la.length+lb.length:=by
 have z:=m.perm.length_eq;rw[a0L,a0L,a0L,a0W,a0W,List.length_reverse]at z;lia
theorem Mh.moveA(m:Mh r la lb out na nb)(sa:Up r la){t:Nat}(ht:t<=na)(h: ∀x∈lb.take nb,∀y∈(la.take na).drop t,r x<r y):Mh r la lb (out++((la.take na).drop t).reverse) t nb:=by
 obtain⟨e,u,c⟩:=d4f sa ht;have sub: ∀x∈la.take t,x∈la.take na:=fun x hx=>by rw[<-e];exact a0Q.mpr (.inl hx)
 have sub2: ∀x∈(la.take na).drop t,x∈la.take na:=fun x hx=>a8X hx;have er:(out++((la.take na).drop t).reverse).reverse=(la.take na).drop t++out.reverse:=by rw[List.reverse_append,List.reverse_reverse]
 refine⟨?_,?_,fun x hx y hy=>?_,fun x hx y hy=>?_⟩
 ·rw[er];refine List.Perm.trans ?_ m.perm
  conv=>rhs;rw[<-e]
  rw[a1G,a1G,a1G];refine a5C _ ?_;rw[<-a1G,<-a1G];exact a6I _ a6S
 ·rw[er];exact a1T.mpr ⟨u,m.so,fun x hx y hy=>m.ao x (sub2 x hx) y (a3O.mp hy)⟩
 ·rcases a0Q.mp hy with z|z
  ·exact m.ao x (sub x hx) y z
  ·exact c x hx y (a3O.mp z)
 ·rcases a0Q.mp hy with z|z
  ·exact m.bo x hx y z
  ·exact h x hx y (a3O.mp z)
theorem Mh.moveB(m:Mh r la lb out na nb)(sb:Up r lb){t:Nat}(ht:t<=nb)(h: ∀x∈la.take na,∀y∈(lb.take nb).drop t,r x<r y):Mh r la lb (out++((lb.take nb).drop t).reverse) na t:=by
 obtain⟨e,u,c⟩:=d4f sb ht;have sub: ∀x∈lb.take t,x∈lb.take nb:=fun x hx=>by rw[<-e];exact a0Q.mpr (.inl hx)
 have sub2: ∀x∈(lb.take nb).drop t,x∈lb.take nb:=fun x hx=>a8X hx;have er:(out++((lb.take nb).drop t).reverse).reverse=(lb.take nb).drop t++out.reverse:=by rw[List.reverse_append,List.reverse_reverse]
 refine⟨?_,?_,fun x hx y hy=>?_,fun x hx y hy=>?_⟩
 ·rw[er];refine List.Perm.trans ?_ m.perm
  conv=>rhs;rw[<-e]
  rw[a1G,a1G,a1G]
 ·rw[er];exact a1T.mpr ⟨u,m.so,fun x hx y hy=>m.bo x (sub2 x hx) y (a3O.mp hy)⟩
 ·rcases a0Q.mp hy with z|z
  ·exact m.ao x hx y z
  ·exact h x hx y (a3O.mp z)
 ·rcases a0Q.mp hy with z|z
  ·exact m.bo x (sub x hx) y z
  ·exact c x hx y (a3O.mp z)
theorem Mh.endA(m:Mh r la lb out na nb)(sb:Up r lb)(h:na=0):a9y r la lb (la.take na++lb.take nb++out.reverse):=by
 refine⟨m.perm,?_⟩;subst h;rw[List.take_zero,a9F];exact a1T.mpr ⟨a3B (a5K nb lb) sb,m.so,fun x hx y hy=>m.bo x hx y (a3O.mp hy)⟩
theorem Mh.endB(m:Mh r la lb out na nb)(sa:Up r la)(h:nb=0):a9y r la lb (la.take na++lb.take nb++out.reverse):=by
 refine⟨m.perm,?_⟩;subst h;rw[List.take_zero,a2I];exact a1T.mpr ⟨a3B (a5K na la) sa,m.so,fun x hx y hy=>m.ao x hx y (a3O.mp hy)⟩
theorem Mh.first(m:Mh r la lb out na nb)(sa:Up r la)(sb:Up r lb)(bot: ∀y∈lb.take nb,∀x∈la,r y<r x):a9y r la lb (lb.take nb++la.take na++out.reverse):=by
 refine⟨List.Perm.trans (a6I _ a6S) m.perm,?_⟩;refine a1T.mpr ⟨a1T.mpr ⟨a3B (a5K nb lb) sb,a3B (a5K na la) sa,fun y hy x hx=>bot y hy x (a4R hx)⟩,m.so,fun x hx y hy=>?_⟩
 rcases a0Q.mp hx with z|z
 ·exact m.bo x z y (a3O.mp hy)
 ·exact m.ao x z y (a3O.mp hy)
end
section
variable{M:Model}{A:Ar}{E:VP}{s:Sh}{κ:SortKind}{r:Keyed->Int}{a₀ a b out:Array Keyed}{na nb:Nat}
theorem d2c(a:Array Keyed)(i:Nat):(a.extract 0 i).toList=a.toList.take i:=by
 rw[a6W,a5I,a7A,b0E]
theorem d6c(a:Array Keyed)(t n:Nat):(a.extract t n).toList=(a.toList.take n).drop t:=by
 rw[a6W,a5I,List.drop_take]
theorem a4g:(a4u a b out na nb).toList=a.toList.take na++b.toList.take nb++out.toList.reverse:=by
 rw[a2R,a2R,d2c,d2c,a6X]
theorem a4v:(a5l a b out na nb).toList=b.toList.take nb++a.toList.take na++out.toList.reverse:=by
 rw[a2R,a2R,d2c,d2c,a6X]
theorem a8b{n:Nat}{x:Keyed}(h:x∈a.toList.take n): ∃j,j<n/\j<a.size/\a.getD j d0=x:=by
 obtain⟨j,h1,h2,h3⟩:=b4u (i:=0) (k:=n) (by rw[a7A];exact h);rw[a8N]at h2 h3;exact⟨j,h1,h2,h3⟩
theorem b4v{t n:Nat}{x:Keyed}(h:x∈(a.toList.take n).drop t): ∃j,t<=j/\j<n/\j<a.size/\a.getD j d0=x:=by
 obtain⟨j,hj⟩:=a4S h;rw[a5E,a9S]at hj;split at hj
 ·next l=>
  rw[a2C]at hj;exact⟨t+j,by lia,l,(a4B.mp hj).1,getD_of hj⟩
 ·cases hj
theorem b4w{n:Nat}(h:n<a.size):(a.toList.take (n+1)).drop n=[a.getD n d0]:=by
 rw[List.drop_take,b9h h,a3Z];rfl
theorem c1r{x:Int}{n:Nat}(sa:Up r a.toList)(ha:n<a.size)(h:r (a.getD n d0)<x): ∀y∈a.toList.take (n+1),r y<x:=fun y hy=>by
 obtain⟨j,h1,h2,rfl⟩:=a8b hy;by_cases e:j=n
 ·subst e;exact h
 ·have:=b3r (lo:=0) sa (a0K _) j n (a3K _) (by lia) ha;show kx r a j<x;have:kx r a n<x:=h;lia
theorem c7u(t:Two κ r a₀ a b)(m:Mh r a.toList b.toList out.toList (na+1) nb)(ha:na<a.size)(h: ∀y∈b.toList.take nb,r y<r (a.getD na d0)):Mh r a.toList b.toList (out.push (a.getD na d0)).toList na nb:=by
 have z:=m.moveA t.sa (t:=na) (a7E _) (by rw[b4w ha];intro x hx y hy;rw[a0J.mp hy];exact h x hx);rw[b4w ha]at z;rw[a8a];exact z
theorem d4g(t:Two κ r a₀ a b)(m:Mh r a.toList b.toList out.toList na (nb+1))(hb:nb<b.size)(h: ∀y∈a.toList.take na,r y<r (b.getD nb d0)):Mh r a.toList b.toList (out.push (b.getD nb d0)).toList na nb:=by
 have z:=m.moveB t.sb (t:=nb) (a7E _) (by rw[b4w hb];intro x hx y hy;rw[a0J.mp hy];exact h x hx);rw[b4w hb]at z;rw[a8a];exact z
theorem Two.bot(t:Two κ r a₀ a b): ∀y∈b.toList.take 1,∀x∈a.toList,r y<r x:=fun y hy x hx=>by
 obtain⟨j,h1,h2,rfl⟩:=a8b hy;have e:j=0:=by lia
 subst e;exact t.lo x hx
theorem d6d{st0:SortSt}{mg old t:Nat}{c:U6}{st:SortSt}{Q:ForInStep U6->SortSt->Prop}(K:Asks M A s κ r a₀)(T:Two κ r a₀ a b)(e0:Eqv st0 st)(hk:kindOf st0=κ)(ec:c=(none,na+1,nb+2,out,c.2.2.2.2.1,c.2.2.2.2.2))(m:Mh r a.toList b.toList out.toList (na+1) (nb+2))(ha:na<a.size)(hb:nb+1<b.size)(hz:old+t<=out.size)
  (q1: ∀w rest,Gd r a b w->Q (.done (some w,rest)) st) (q2: ∀na nb (out:Array Keyed) x y,Mh r a.toList b.toList out.toList (na+1) (nb+2)->na<a.size->nb+1<b.size->old+t+1<=out.size->Q (.done (none,na+1,nb+2,out,x,y)) st/\Q (.yield (none,na+1,nb+2,out,x,y)) st):wpS M A E s (hi1 a b mg c) Q st:=by
 have hk':=e0.kind.trans hk;unfold hi1;rw[ec];dsimp only;have la:=T.ma _ (a3a ha);have lb:=T.mb _ (a3a hb);rw[show nb+2-1=nb+1 by lia,show na+1-1=na by lia];refine a0Z (a0z hb (a0Z (a0z ha (a0Z (b7l K hk' lb la ?_)))));by_cases w:r (b.getD (nb+1) d0)<r (a.getD na d0)
 ·rw[a1A w];refine a0Z (a0z ha ?_);have m2:=c7u T m ha (c1r T.sb hb w);by_cases z:na=0
  ·rw[wB (by simpa using z)];refine a1I (q1 _ _ ?_);show a9y r _ _ (a4u a b _ _ _).toList
   rw[a4g];exact m2.endA T.sb z
  ·rw[wA (by simpa using z)];obtain⟨n',rfl⟩: ∃n',na=n'+1:=a2F (by first|assumption|lia);obtain⟨h1,h2⟩:=q2 n' nb _ (c.2.2.2.2.1+1) 0 m2 (by lia) hb (by rw[a4L];lia);by_cases g:c.2.2.2.2.1+1≥mg
   ·rw[wB g];exact a1I h1
   ·rw[wA g];exact a1I h2
 ·rw[a1J w];refine a0Z (a0z hb ?_);have ne:=T.ap _ (a3a ha) _ (a3a hb);have m2:=d4g T m hb (c1r T.sa ha (by lia));by_cases z:nb+1=1
  ·rw[wB (by simpa using z)];refine a1I (q1 _ _ ?_);show a9y r _ _ (a5l a b _ _ _).toList
   rw[a4v];exact m2.first T.sa T.sb (by rw[z];exact T.bot)
  ·rw[wA (by simpa using z)];obtain⟨n',rfl⟩: ∃n',nb=n'+1:=a2F (by first|assumption|lia);obtain⟨h1,h2⟩:=q2 na n' _ 0 (c.2.2.2.2.2+1) m2 ha (by lia) (by rw[a4L];lia);by_cases g:c.2.2.2.2.2+1≥mg
   ·rw[wB g];exact a1I h1
   ·rw[wA g];exact a1I h2
structure RndH(r:Keyed->Int)(a b:Array Keyed)(st0:SortSt)(old:Nat)(Q:ForInStep U7->SortSt->Prop):Prop where
 q1: ∀st w rest,Eqv st0 st->Gd r a b w->Q (.done (some w,rest)) st
 q2: ∀st na nb (out:Array Keyed) x y z,Eqv st0 st->Mh r a.toList b.toList out.toList (na+1) (nb+2)->na<a.size->nb+1<b.size->old<=out.size->Q (.done (none,na+1,nb+2,out,x,y,z)) st/\Q (.yield (none,na+1,nb+2,out,x,y,z)) st
theorem c1s{st0 st:SortSt}{mg k k1 old:Nat}{Q:ForInStep U7->SortSt->Prop}(T:Two κ r a₀ a b)(e0:Eqv st0 st)(m:Mh r a.toList b.toList out.toList (na+1) (nb+2))(ha:na<a.size)(hb:nb+1<b.size)(hz:old<=out.size)(lt: ∀y∈b.toList.take (nb+2),r y<r (a.getD na d0))(q:RndH r a b st0 old Q):wpS M A E s (hi25 a b (na+1) (nb+2) out mg k k1) Q st:=by
 unfold hi25;rw[show na+1-1=na by lia];refine a0Z (a0z ha ?_);have m2:=c7u T m ha lt;by_cases z:na=0
 ·rw[wB (by simpa using z)];refine a1I (q.q1 _ _ _ e0 ?_);show a9y r _ _ (a4u a b _ _ _).toList;rw[a4g];exact m2.endA T.sb z
 ·rw[wA (by simpa using z)];obtain⟨n',rfl⟩: ∃n',na=n'+1:=a2F (by first|assumption|lia);obtain⟨h1,h2⟩:=q.q2 st n' nb _ mg k k1 e0 m2 (by lia) hb (by rw[a4L];lia);by_cases g:(decide (k<7)&&decide (k1<7))=true
  ·rw[wB g];exact a1I h1
  ·rw[wA g];exact a1I h2
theorem c1t{st0 st:SortSt}{mg k bc old:Nat}{Q:ForInStep U7->SortSt->Prop}(K:Asks M A s κ r a₀)(hk:kindOf st0=κ)(T:Two κ r a₀ a b)(e0:Eqv st0 st)(m:Mh r a.toList b.toList out.toList (na+1) (nb+2))(ha:na<a.size)(hb:nb+1<b.size)(hz:old<=out.size)(lt: ∀y∈a.toList.take (na+1),r y<r (b.getD (nb+1) d0))(q:RndH r a b st0 old Q):wpS M A E s (hi24 a b (na+1) (nb+2) out mg k bc) Q st:=by
 have hk':=e0.kind.trans hk;unfold hi24;rw[show nb+2-1=nb+1 by lia,show na+1-1=na by lia];refine a0Z (a0z hb ?_);have m1:=d4g T m hb lt;have hz1:old<=(out.push (b.getD (nb+1) d0)).size:=by rw[a4L];lia
 generalize out.push (b.getD (nb+1) d0)=out1 at m1 hz1;by_cases z:nb+1=1
 ·rw[wB (by simpa using z)];refine a1I (q.q1 _ _ _ e0 ?_);show a9y r _ _ (a5l a b _ _ _).toList;rw[a4v];exact m1.first T.sa T.sb (by rw[z];exact T.bot)
 rw[wA (by simpa using z)];have la:=a3a ha;refine a0Z (a0z ha (a0Z (a4b K hk' (by lia) (fun i hi=>T.mb _ (a3a (by lia))) (T.ma _ la) (fun i hi=>(T.ap _ la _ (a3a (show 0+i<b.size by lia))).symm) (b3r T.sb (by lia)) (by lia) fun t kn k2 k3=>?_)));dsimp only;have bl: ∀y∈b.toList.take t,r y<r (a.getD na d0):=fun y hy=>by
  obtain⟨j,h1,h2,rfl⟩:=a8b hy;have:=k2 j h1;rw[a8N]at this;exact this
 by_cases g:nb+1-t>0
 ·rw[wB g];have m2:=m1.moveB T.sb (t:=t) (by lia) (fun x hx y hy=>by
   obtain⟨j,h1,h2,h3,rfl⟩:=b4v hy;have:=k3 j h1 (by lia)
   rw[a8N]at this;exact c1r T.sa ha this x hx)
  rw[<-d6c,<-a6X,<-a2R]at m2;have hz2:old<=(out1++(b.extract t (nb+1)).reverse).size:=by rw[a8F];lia
  by_cases z1:t=1
  ·rw[wB (by simpa using z1)];refine a1I (q.q1 _ _ _ e0 ?_);show a9y r _ _ (a5l a b _ _ _).toList
   rw[a4v];exact m2.first T.sa T.sb (by rw[z1];exact T.bot)
  rw[wA (by simpa using z1)];by_cases z2:t=0
  ·rw[wB (by simpa using z2)];refine a1I (q.q1 _ _ _ e0 ?_);show a9y r _ _ (a4u a b _ _ _).toList
   rw[a4g];exact m2.endB T.sa z2
  rw[wA (by simpa using z2)];obtain⟨n',rfl⟩: ∃n',t=n'+2:=⟨t-2,by lia⟩;exact c1s T e0 m2 ha (by lia) hz2 bl q
 ·rw[wA g];have e:t=nb+1:=by lia
  obtain⟨n',rfl⟩: ∃n',nb=n'+1:=a2F (by first|assumption|lia);subst e;exact c1s T e0 m1 ha (by lia) hz1 bl q
theorem c1u{st0 st:SortSt}{c:U7}{mg old:Nat}{Q:ForInStep U7->SortSt->Prop}(K:Asks M A s κ r a₀)(hk:kindOf st0=κ)(T:Two κ r a₀ a b)(e0:Eqv st0 st)(ec:c.2.1=na+1/\c.2.2.1=nb+2/\c.2.2.2.1=out)(m:Mh r a.toList b.toList out.toList (na+1) (nb+2))(ha:na<a.size)(hb:nb+1<b.size)(hz:old<=out.size)(q:RndH r a b st0 old Q):wpS M A E s (hi22 a b c mg) Q st:=by
 obtain⟨e1,e2,e3⟩:=ec;unfold hi22;rw[e1,e2,e3];rw[show nb+2-1=nb+1 by lia,show na+1-1=na by lia];refine a0Z (a6u fun st1 x1=>?_);have e4:=e0.trans x1;have hk':=e4.kind.trans hk;have lb:=a3a hb;refine a0Z (a0z hb (a0Z (a4b K hk' (by lia) (fun i hi=>T.ma _ (a3a (by lia))) (T.mb _ lb) (fun i hi=>T.ap _ (a3a (show 0+i<a.size by lia)) _ lb) (b3r T.sa (by lia)) (by lia) fun t kn k2 k3=>?_)));dsimp only;have bl: ∀y∈a.toList.take t,r y<r (b.getD (nb+1) d0):=fun y hy=>by
  obtain⟨j,h1,h2,rfl⟩:=a8b hy;have:=k2 j h1;rw[a8N]at this;exact this
 by_cases g:na+1-t>0
 ·rw[wB g];have m2:=m.moveA T.sa (t:=t) (by lia) (fun x hx y hy=>by
   obtain⟨j,h1,h2,h3,rfl⟩:=b4v hy;have:=k3 j h1 (by lia)
   rw[a8N]at this;exact c1r T.sb hb this x hx)
  rw[<-d6c,<-a6X,<-a2R]at m2;have hz2:old<=(out++(a.extract t (na+1)).reverse).size:=by rw[a8F];lia
  by_cases z2:t=0
  ·rw[wB (by simpa using z2)];refine a1I (q.q1 _ _ _ e4 ?_);show a9y r _ _ (a4u a b _ _ _).toList
   rw[a4g];exact m2.endA T.sb z2
  rw[wA (by simpa using z2)];obtain⟨n',rfl⟩: ∃n',t=n'+1:=a2F (by first|assumption|lia);exact c1t K hk T e4 m2 (by lia) hb hz2 bl q
 ·rw[wA g];have e:t=na+1:=by lia
  subst e;exact c1t K hk T e4 m ha hb hz bl q
theorem d6e{st0 st:SortSt}{c:U7}{old:Nat}{Q:ForInStep U7->SortSt->Prop}(K:Asks M A s κ r a₀)(hk:kindOf st0=κ)(T:Two κ r a₀ a b)(e0:Eqv st0 st)(ec:c.2.1=na+1/\c.2.2.1=nb+2/\c.2.2.2.1=out)(m:Mh r a.toList b.toList out.toList (na+1) (nb+2))(ha:na<a.size)(hb:nb+1<b.size)(hz:old<=out.size)(q:RndH r a b st0 old Q):wpS M A E s (hi2 a b c) Q st:=by
 unfold hi2;split
 ·exact c1u K hk T e0 ec m ha hb hz q
 ·exact c1u K hk T e0 ec m ha hb hz q
theorem c7v{st0 st:SortSt}{c:U5}{Q:ForInStep U5->SortSt->Prop}{mg:Nat}(K:Asks M A s κ r a₀)(hk:kindOf st0=κ)(T:Two κ r a₀ a b)(e0:Eqv st0 st)(ec:c=(none,na+1,nb+2,out,mg))(m:Mh r a.toList b.toList out.toList (na+1) (nb+2))(ha:na<a.size)(hb:nb+1<b.size)
  (q1: ∀st w rest,Eqv st0 st->Gd r a b w->Q (.done (some w,rest)) st) (q2: ∀st na nb (out':Array Keyed) g,Eqv st0 st->Mh r a.toList b.toList out'.toList (na+1) (nb+2)->na<a.size->nb+1<b.size->out.size+1<=out'.size->Q (.yield (none,na+1,nb+2,out',g)) st):wpS M A E s (d6b a b c) Q st:=by
 subst ec;unfold d6b;dsimp only;have tot:0<a.size+b.size:=by lia
 refine a0Z (a5Z (a3H (I:=fun x (c1:U6) st'=>Eqv st0 st'/\ ∃(i j:Nat) (o:Array Keyed) (u v:Nat),c1=(none,i+1,j+2,o,u,v)/\Mh r a.toList b.toList o.toList (i+1) (j+2)/\i<a.size/\j+1<b.size/\out.size+x<=o.size)
  (Q:=fun c1 st'=>Eqv st0 st'/\((∃w rest,c1=(some w,rest)/\Gd r a b w)∨ ∃(i j:Nat) (o:Array Keyed) (u v:Nat),c1=(none,i+1,j+2,o,u,v)/\Mh r a.toList b.toList o.toList (i+1) (j+2)/\i<a.size/\j+1<b.size/\out.size+1<=o.size)) ?step ?stop ⟨e0,na,nb,out,0,0,rfl,m,ha,hb,a0K _⟩) ?post)
 case step=>
  rintro x c1 st' _ hx ⟨e1,i,j,o,u,v,rfl,m1,h1,h2,h3⟩;refine d6d (old:=out.size) (t:=x) K T e1 hk rfl m1 h1 h2 h3 (fun w rest g=>⟨e1,.inl ⟨w,rest,rfl,g⟩⟩) fun i' j' o' u' v' m' h1' h2' h3'=>⟨⟨e1,.inr ⟨i',j',o',u',v',rfl,m',h1',h2',by lia⟩⟩,⟨e1,i',j',o',u',v',rfl,m',h1',h2',by lia⟩⟩
 case stop=>
  rintro c1 st' ⟨e1,i,j,o,u,v,rfl,m1,h1,h2,h3⟩;exact⟨e1,.inr ⟨i,j,o,u,v,rfl,m1,h1,h2,by lia⟩⟩
 case post=>
  rintro c1 st' ⟨e1,h⟩
  rcases h with⟨w,rest,rfl,g⟩|⟨i,j,o,u,v,rfl,m1,h1,h2,h3⟩
  ·exact a1I (q1 _ _ _ e1 g)
  dsimp only;refine a0Z (b0P (a6F ⟨rfl,?_⟩));refine a0Z (a5Z (a3H (I:=fun x (c2:U7) st'=>Eqv st0 st'/\ ∃(i j:Nat) (o:Array Keyed) (u v w:Nat),c2=(none,i+1,j+2,o,u,v,w)/\Mh r a.toList b.toList o.toList (i+1) (j+2)/\i<a.size/\j+1<b.size/\out.size+1<=o.size)
   (Q:=fun c2 st'=>Eqv st0 st'/\((∃w rest,c2=(some w,rest)/\Gd r a b w)∨ ∃(i j:Nat) (o:Array Keyed) (u v w:Nat),c2=(none,i+1,j+2,o,u,v,w)/\Mh r a.toList b.toList o.toList (i+1) (j+2)/\i<a.size/\j+1<b.size/\out.size+1<=o.size)) ?step2 ?stop2 ⟨e1,i,j,o,mg+1,u,v,rfl,m1,h1,h2,h3⟩) ?post2)
  case step2=>
   rintro x c2 st2 _ hx ⟨e2,i,j,o,u,v,w,rfl,m2,g1,g2,g3⟩;exact d6e K hk T e2 ⟨rfl,rfl,rfl⟩ m2 g1 g2 g3 ⟨fun st w rest e g=>⟨e,.inl ⟨w,rest,rfl,g⟩⟩,fun st i' j' o' x' y' z' e m' h1' h2' h3'=>⟨⟨e,.inr ⟨i',j',o',x',y',z',rfl,m',h1',h2',h3'⟩⟩,⟨e,i',j',o',x',y',z',rfl,m',h1',h2',h3'⟩⟩⟩
  case stop2=>
   rintro c2 st2 ⟨e2,i,j,o,u,v,w,rfl,m2,g1,g2,g3⟩;exact⟨e2,.inr ⟨i,j,o,u,v,w,rfl,m2,g1,g2,g3⟩⟩
  case post2=>
   rintro c2 st2 ⟨e2,h⟩
   rcases h with⟨w,rest,rfl,g⟩|⟨i,j,o,u,v,w,rfl,m2,g1,g2,g3⟩
   ·exact a1I (q1 _ _ _ e2 g)
   ·dsimp only;exact a0Z (a6u fun st3 x3=>a1I (q2 _ _ _ _ _ (e2.trans x3) m2 g1 g2 g3))
theorem b9k{st:SortSt}{Q:Array Keyed->SortSt->Prop}(K:Asks M A s κ r a₀)(hk:kindOf st=κ)(T:Two κ r a₀ a b)(q: ∀m st',Eqv st st'->Gd r a b m->Q m st'):wpS M A E s (b4s a b) Q st:=by
 rw[b9j];unfold hi0;have a1:=T.a1;have b1:=T.b1;obtain⟨n,hn⟩: ∃n,a.size=n+1:=a2F (by first|assumption|lia);have en:a.size-1=n:=by lia
 rw[en];refine a0Z (b0P (a6F ⟨rfl,a0Z (a0z (by lia) ?_)⟩));have m0:Mh r a.toList b.toList (#[]:Array Keyed).toList (n+1) b.size:=⟨by rw[a4Y (by rw[a0P];lia),a4Y (by rw[a0P];exact a0K _)];simp,List.Pairwise.nil,fun x _ y hy=>(nomatch hy),fun x _ y hy=>(nomatch hy)⟩;have m1:Mh r a.toList b.toList (#[a.getD n d0]:Array Keyed).toList n b.size:=c7u (out:= #[]) T m0 (by lia) (fun y hy=>by have:=T.top y (a4R hy);rw[en]at this;exact this);by_cases z1:n=0
 ·rw[wB (by simpa using z1)];refine a1I (q _ _ (Eqv.refl _) ?_);show a9y r _ _ (a4u a b _ _ _).toList;rw[a4g];exact m1.endA T.sb z1
 rw[wA (by simpa using z1)];by_cases z2:b.size=1
 ·rw[wB (by simpa using z2)];refine a1I (q _ _ (Eqv.refl _) ?_);show a9y r _ _ (a5l a b _ _ _).toList;rw[a4v];exact m1.first T.sa T.sb (by rw[z2];exact T.bot)
 rw[wA (by simpa using z2)];obtain⟨n',rfl⟩: ∃n',n=n'+1:=a2F (by first|assumption|lia);obtain⟨k',hk'⟩: ∃k',b.size=k'+2:=⟨b.size-2,by lia⟩;rw[hk']at m1;refine a0Z (a9K (a0Z (a5Z (a3H (I:=fun x (c:U5) st'=>Eqv st st'/\ ∃(i j:Nat) (o:Array Keyed) (g:Nat),c=(none,i+1,j+2,o,g)/\Mh r a.toList b.toList o.toList (i+1) (j+2)/\i<a.size/\j+1<b.size/\x+1<=o.size)
  (Q:=fun c st'=>Eqv st st'/\ ∃w rest,c=(some w,rest)/\Gd r a b w) ?step ?stop ⟨Eqv.refl _,n',k',_,_,by rw[hk'],m1,by lia,by lia,a0K _⟩) ?post)))
 case step=>
  rintro x c st' _ hx ⟨e1,i,j,o,g,rfl,m2,h1,h2,h3⟩;exact c7v K hk T e1 rfl m2 h1 h2 (fun st w rest e g=>⟨e,w,rest,rfl,g⟩) fun st' i' j' o' g' e m' h1' h2' h3'=>⟨e,i',j',o',g',rfl,m',h1',h2',by lia⟩
 case stop=>
  rintro c st' ⟨e1,i,j,o,g,rfl,m2,h1,h2,h3⟩;have z:=m2.len (by rw[a0P];lia) (by rw[a0P];lia);rw[a0P,a0P,a0P]at z
  exfalso
  lia
 case post=>
  rintro c st' ⟨e1,w,rest,rfl,g⟩;exact a1I (q _ _ e1 g)
end
theorem b9l(i:Nat):mergeAt' i=(do
 let s <-get
 let(some (sa,na,power),some (sb,nb,_)):=((pendingOf s)[i]?,(pendingOf s)[i+1]?)|unsupported "internal:list.sort.pending"
 set (setPending s (((pendingOf s).setIfInBounds i (sa,na+nb,power)).eraseIdxIfInBounds (i+1)))
 let some k <-a6j false (<-elem' (arrOf s) sb) (arrOf s) sa na 0|return false
 let(sa,na):=(sa+k,na-k)
 if na==0 then return true
 let some nb <-a6j true (<-elem' (arrOf s) (sa+na-1)) (arrOf s) sb nb (nb-1)|return false
 if nb==0 then return true
 let x:=(arrOf s).extract sa sb
 let y:=(arrOf s).extract sb (sb+nb)
 let merged <-if na<=nb then b4r x y else b4s x y
 modify fun s=>setArr s (merged.toList.zipIdx.foldl (fun a (p,j)=>a.setIfInBounds (sa+j) p) (arrOf s))
 return (failedOf (<-get)).isNone):=rfl
section
variable{M:Model}{A:Ar}{E:VP}{s:Sh}{κ:SortKind}{r:Keyed->Int}{a₀ xs ys:Array Keyed}
theorem d6f{st st':SortSt}{Q:PUnit->SortSt->Prop}(h:Q ⟨⟩ st'):wpS M A E s (set st':StateT SortSt Sem PUnit) Q st:=by
 unfold wpS;rw[StateT.run_set];exact a0G ⟨rfl,h⟩
theorem laid: ∀(ms:List Keyed) (j b:Nat) (xs:Array Keyed),b+j+ms.length<=xs.size->((ms.zipIdx j).foldl (fun a (p,j)=>a.setIfInBounds (b+j) p) xs).toList=xs.toList.take (b+j)++ms++xs.toList.drop (b+j+ms.length)
 | [],j,b,xs,_=>by
  rw[a2I,List.length_nil,a8I];exact(a2W _ _).symm
 | m::ms,j,b,xs,h=>by
  rw[a3E]at h;rw[List.zipIdx_cons,b0C,laid ms (j+1) b _ (by rw[Array.size_setIfInBounds];lia),a9N,a3E];have hl:b+j<xs.toList.length:=by rw[a0P];lia
  have e1:(xs.toList.set (b+j) m).take (b+(j+1))=xs.toList.take (b+j)++[m]:=by
   rw[show b+(j+1)=b+j+1 by lia,List.take_succ_eq_append_getElem (by rw[a5L];exact hl),List.getElem_set_self,List.take_set_of_le (a0K _)]
  have e2:(xs.toList.set (b+j) m).drop (b+(j+1)+ms.length)=xs.toList.drop (b+j+(ms.length+1)):=by
   rw[List.drop_set_of_lt (by lia)]
   congr 1
   lia
  rw[e1,e2,a1G,a1G,a1G];rfl
theorem b4x(xs:Array Keyed)(t n:Nat):(xs.extract t n).toList=(xs.toList.take n).drop t:=d6c xs t n
theorem b0j{t n:Nat}(h:n<=xs.size):(xs.extract t n).size=n-t:=by rw[Array.size_extract];lia
theorem b4y{t n i:Nat}(h:n<=xs.size)(hi:t+i<n):(xs.extract t n).getD i d0=xs.getD (t+i) d0:=by
 refine a3g ?_;rw[Array.getElem?_extract,wB (by lia)]
theorem a8c{l:List Keyed}{ys:Array Keyed}(h:ys.toList=l)(i:Nat):ys[i]? =l[i]? :=by rw[<-h,a2C]
theorem b9m{st:SortSt}{i sa na pw sb nb pw2:Nat}{Q:Bool->SortSt->Prop}(K:Asks M A s κ r a₀)(B:StOk κ a₀ st)(h1:(pendingOf st)[i]? =some (sa,na,pw))(h2:(pendingOf st)[i+1]? =some (sb,nb,pw2))(es:sb=sa+na)(na1:1<=na)(nb1:1<=nb)(hz:sb+nb<=a₀.size)
  (ua:Ris r (arrOf st) sa (sa+na)) (ub:Ris r (arrOf st) sb (sb+nb))
  (q: ∀st',StOk κ a₀ st'->pendingOf st'=((pendingOf st).setIfInBounds i (sa,na+nb,pw)).eraseIdxIfInBounds (i+1)->Out (arrOf st) (arrOf st') sa (sb+nb)->Ris r (arrOf st') sa (sb+nb)->Q true st'):wpS M A E s (mergeAt' i) Q st:=by
 have sz:=a3q B.perm;subst es;rw[b9l];refine a0Z (a9K ?_);rw[h1,h2];dsimp only;refine a0Z (d6f ?_);generalize hP:((pendingOf st).setIfInBounds i (sa,na+nb,pw)).eraseIdxIfInBounds (i+1)=P at q⊢;have B1:StOk κ a₀ (setPending st P):=⟨B.kind,B.perm,B.ok⟩;generalize hx:arrOf st=xs at ua ub q sz⊢;have pm:xs.Perm a₀:=hx▸B.perm;have mem: ∀j,j<a₀.size->xs.getD j d0∈a₀:=fun j hj=>b0h pm hj;have ap: ∀i j,i<a₀.size->j<a₀.size->i≠j->kx r xs i≠kx r xs j:=fun i j hi hj ij=>K.apart pm hi hj ij;refine a0Z (a0z (by lia) (a0Z (a4b K B1.kind (by lia) (fun j hj=>mem _ (by lia)) (mem _ (by lia)) (fun j hj=>ap _ _ (by lia) (by lia) (by lia)) ua (by lia) fun k kn k2 k3=>?_)));dsimp only;by_cases z0:na-k=0
 ·rw[wB (by simpa using z0)];refine a1I (q _ B1 rfl (by show Out xs (arrOf st) _ _;rw[hx];exact Out.refl _ _ _) ?_);show Ris r (arrOf st) _ _;rw[hx];intro i j g1 g2 g3;by_cases c1:j<sa+na
  ·exact ua i j g1 g2 c1
  by_cases c2:sa+na<=i
  ·exact ub i j c2 g2 g3
  have l1:=k2 (i-sa) (by lia);rw[a3M g1]at l1;have l1:kx r xs i<kx r xs (sa+na):=l1;by_cases c3:j=sa+na
  ·rw[c3];exact l1
  ·exact a9R l1 (ub (sa+na) j (a0K _) (a6K (Nat.not_lt.mp c1) (a3T c3)) g3)
 rw[wA (by simpa using z0)];have kl:k<na:=by lia
 clear z0;have dk: ∀_:Unit,sa+k+(na-k)=sa+na:=fun _=>by lia
 rw[dk ()];refine a0Z (a0z (by lia) (a0Z (a4b K B1.kind (by lia) (fun j hj=>mem _ (by lia)) (mem _ (by lia)) (fun j hj=>ap _ _ (by lia) (by lia) (by lia)) ub (by lia) fun n2 nn n2a n2b=>?_)));dsimp only;have bk:kx r xs (sa+na)<kx r xs (sa+k):=by
  have:=k3 k (a0K _) (by lia);exact this
 have klast:kx r xs (sa+k)<=kx r xs (sa+na-1):=by
  by_cases c:sa+k=sa+na-1
  ·rw[c];exact Int.le_refl _
  ·exact Int.le_of_lt (ua (sa+k) (sa+na-1) (by lia) (by lia) (by lia))
 have n20:n2≠0:=fun z=>by
  subst z;have:=n2b 0 (a0K _) (by lia);rw[a8I]at this;exact wC this (Int.not_lt.mpr (Int.le_trans (Int.le_of_lt bk) klast))
 rw[wA (by simpa using n20)];have sx:(xs.extract (sa+k) (sa+na)).size=na-k:=by rw[b0j (by lia)];exact Nat.add_sub_add_left ..
 have sy:(xs.extract (sa+na) (sa+na+n2)).size=n2:=by rw[b0j (by lia)];exact a3Z ..
 have mx: ∀x∈(xs.extract (sa+k) (sa+na)).toList,∃j,sa+k<=j/\j<sa+na/\xs.getD j d0=x:=fun x hx=>by
  rw[b4x]at hx;obtain⟨j,g1,g2,_,g3⟩:=b4v hx;exact⟨j,g1,g2,g3⟩
 have my: ∀x∈(xs.extract (sa+na) (sa+na+n2)).toList,∃j,sa+na<=j/\j<sa+na+n2/\xs.getD j d0=x:=fun x hx=>by
  rw[b4x]at hx;obtain⟨j,g1,g2,_,g3⟩:=b4v hx;exact⟨j,g1,g2,g3⟩
 have upx: ∀(t n:Nat),n<=xs.size->Ris r xs t n->Up r (xs.extract t n).toList:=fun t n hn ur=>by
  refine a2O.mpr fun i j hi hj ij=>?_;rw[a0P,b0j hn]at hi hj;have e: ∀c (hc:c<(xs.extract t n).toList.length),(xs.extract t n).toList[c]=xs.getD (t+c) d0:=fun c hc=>by
   rw[a0P,b0j hn]at hc;rw[<-b4y hn (by lia),Array.getElem_toList];exact(getD_of (a1R _)).symm
  rw[e,e];exact ur (t+i) (t+j) (by lia) (by lia) (by lia)
 have dk1: ∀_:Unit,sa+k+(na-k-1)=sa+na-1:=fun _=>by rw[<-dk ()];exact(Nat.add_sub_assoc (Nat.sub_pos_of_lt kl) _).symm
 have dk2: ∀_:Unit,sa+k+(na-k+n2)=sa+na+n2:=fun _=>by rw[<-Nat.add_assoc,dk ()]
 have T:Two κ r a₀ (xs.extract (sa+k) (sa+na)) (xs.extract (sa+na) (sa+na+n2)):=by
  refine⟨fun x hx=>?_,fun x hx=>?_,upx _ _ (by lia) fun i j g1 g2 g3=>ua i j (by lia) g2 g3,upx _ _ (by lia) fun i j g1 g2 g3=>ub i j g1 g2 (by lia),fun x hx y hy=>?_,by lia,by lia,fun x hx=>?_,fun y hy=>?_⟩
  ·obtain⟨j,g1,g2,rfl⟩:=mx x hx;exact mem j (by lia)
  ·obtain⟨j,g1,g2,rfl⟩:=my x hx;exact mem j (by lia)
  ·obtain⟨j,g1,g2,rfl⟩:=mx x hx;obtain⟨l,g3,g4,rfl⟩:=my y hy;exact ap j l (by lia) (by lia) (by lia)
  ·obtain⟨j,g1,g2,rfl⟩:=mx x hx;rw[b4y (by lia) (by lia),a8I];show kx r xs (sa+na)<kx r xs j
   by_cases c:j=sa+k
   ·rw[c];exact bk
   ·exact a9R bk (ua (sa+k) j (a3P ..) (a6K g1 (a3T c)) g2)
  ·obtain⟨j,g1,g2,rfl⟩:=my y hy;rw[sx,b4y (by lia) (by lia),show sa+k+(na-k-1)=sa+na-1 from dk1 ()];have:=n2a (j-(sa+na)) (a4H g1 g2)
   rw[a3M g1]at this;exact this
 have fin: ∀m st',Eqv (setPending st P) st'->Gd r (xs.extract (sa+k) (sa+na)) (xs.extract (sa+na) (sa+na+n2)) m->wpS M A E s (do
   modify fun s=>setArr s (m.toList.zipIdx.foldl (fun a (p,j)=>a.setIfInBounds (sa+k+j) p) (arrOf s))
   return (failedOf (<-get)).isNone) Q st':=fun m st' ev gd=>by
  have ea:arrOf st'=xs:=ev.arr.trans hx;have ml:m.toList.length=na-k+n2:=by
   have:=gd.1.length_eq;rw[a0L,a0P (xs:=xs.extract _ _),a0P (xs:=xs.extract _ _),sx,sy]at this;exact this
  refine a0Z (a6U (a0Z (a9K ?_)));rw[ea];have tl:=laid m.toList 0 (sa+k) xs (by rw[ml];lia);rw[a8I,ml]at tl;generalize hys:m.toList.zipIdx.foldl (fun a (p,j)=>a.setIfInBounds (sa+k+j) p) xs=ys at tl⊢;have okf:(failedOf (setArr st' ys)).isNone=true:=by
   show(failedOf st').isNone=true;rw[ev.ok];show(failedOf st).isNone=true
   rw[B.ok];rfl
  rw[okf];have mid:xs.toList=xs.toList.take (sa+k)++((xs.extract (sa+k) (sa+na)).toList++(xs.extract (sa+na) (sa+na+n2)).toList)++xs.toList.drop (sa+k+(na-k+n2)):=by
   rw[b4x,b4x];have e1:xs.toList.take (sa+k)++(xs.toList.take (sa+na)).drop (sa+k)=xs.toList.take (sa+na):=by
    have z:=a2W (sa+k) (xs.toList.take (sa+na));rwa[a6G,a4K (by lia)]at z
   have e2:xs.toList.take (sa+na)++(xs.toList.take (sa+na+n2)).drop (sa+na)=xs.toList.take (sa+na+n2):=by
    have z:=a2W (sa+na) (xs.toList.take (sa+na+n2));rwa[a6G,a4K (by lia)]at z
   rw[<-a1G,e1,e2,dk2 (),a2W]
  have pys:ys.Perm xs:=by
   refine a2H.mpr ?_;rw[tl]
   conv=>rhs;rw[mid]
   exact a6I _ (a5C _ gd.1)
  have lx:xs.toList.length=a₀.size:=by rw[a0P];exact sz
  have mn:min (sa+k) xs.toList.length=sa+k:=a4K (by lia);have out1: ∀j,j<sa+k∨sa+na+n2<=j->ys[j]? =xs[j]? :=fun j hj=>by
   rw[a8c tl j,<-a2C]
   rcases hj with h|h
   ·rw[a0N (by rw[a0L,a0W,mn];exact Nat.lt_add_right _ h),a0N (by rw[a0W,mn];exact h),a9S,wB h]
   ·rw[a0M (by rw[a0L,a0W,ml,mn,dk2 ()];exact h),a5E]
    congr 1
    rw[a0L,a0W,ml,mn,dk2 ()];exact a3M h
  have inn: ∀j,sa+k<=j->j<sa+na+n2-> ∃h:j-(sa+k)<m.toList.length,ys.getD j d0=m.toList[j-(sa+k)]:=fun j g1 g2=>by
   have hl:j-(sa+k)<m.toList.length:=by rw[ml];exact a4H g1 (by rw[dk2 ()];exact g2)
   refine⟨hl,getD_of ?_⟩;rw[a8c tl j,a0N (by rw[a0L,a0W,ml,mn,dk2 ()];exact g2),a0M (by rw[a0W,mn];exact g1),a0W,mn,a0A hl]
  have from1: ∀j,sa+k<=j->j<sa+na+n2-> ∃l,sa+k<=l/\l<sa+na+n2/\ys.getD j d0=xs.getD l d0:=fun j g1 g2=>by
   obtain⟨hl,e⟩:=inn j g1 g2;have mm:ys.getD j d0∈(xs.extract (sa+k) (sa+na)).toList++(xs.extract (sa+na) (sa+na+n2)).toList:=by
    rw[e];exact(List.Perm.mem_iff gd.1).mp (a2Y hl)
   rcases a0Q.mp mm with z|z
   ·obtain⟨l,l1,l2,l3⟩:=mx _ z;exact⟨l,l1,by lia,l3.symm⟩
   ·obtain⟨l,l1,l2,l3⟩:=my _ z;exact⟨l,by lia,l2,l3.symm⟩
  refine a1I (q _ ⟨ev.kind.trans B1.kind,pys.trans pm,by show failedOf st'=none;rw[ev.ok];exact B.ok⟩ ev.pend (fun j hj=>out1 j (by lia)) fun i j g1 g2 g3=>?_);show kx r ys i<kx r ys j;have oe: ∀c,c<sa+k∨sa+na+n2<=c->kx r ys c=kx r xs c:=fun c hc=>a1W r (a3g (out1 c hc));have hd: ∀c l,sa<=c->c<sa+k->sa+k<=l->l<sa+na+nb->kx r xs c<kx r xs l:=fun c l c1 c2 c3 c4=>by
   by_cases c5:l<sa+na
   ·exact ua c l c1 (by lia) c5
   ·have l1:=k2 (c-sa) (a4H c1 c2);rw[a3M c1]at l1;have l1:kx r xs c<kx r xs (sa+na):=l1;by_cases c6:l=sa+na
    ·rw[c6];exact l1
    ·exact a9R l1 (ub (sa+na) l (a0K _) (a6K (Nat.not_lt.mp c5) (a3T c6)) c4)
  have tlb: ∀l c,sa+k<=l->l<sa+na+n2->sa+na+n2<=c->c<sa+na+nb->kx r xs l<kx r xs c:=fun l c c1 c2 c3 c4=>by
   by_cases c5:sa+na<=l
   ·exact ub l c c5 (by lia) c4
   ·have c0:=a1C (a3P ..) c3;have l1:=n2b (c-(sa+na)) (Nat.le_sub_of_add_le' c3) (a4H c0 c4);rw[a3M c0]at l1;have l1:kx r xs (sa+na-1)<kx r xs c:=l1;by_cases c6:l=sa+na-1
    ·rw[c6];exact l1
    ·exact a9R (ua l (sa+na-1) (by lia) (by lia) (by lia)) l1
  by_cases i1:i<sa+k
  ·rw[oe i (.inl i1)];by_cases j1:j<sa+k
   ·rw[oe j (.inl j1)];exact ua i j g1 g2 (by lia)
   ·by_cases j2:j<sa+na+n2
    ·obtain⟨l,l1,l2,l3⟩:=from1 j (by lia) j2;show kx r xs i<r (ys.getD j d0);rw[l3];exact hd i l g1 i1 l1 (by lia)
    ·rw[oe j (.inr (by lia))];exact hd i j g1 i1 (by lia) g3
  ·by_cases i2:i<sa+na+n2
   ·by_cases j2:j<sa+na+n2
    ·obtain⟨h1',e1⟩:=inn i (by lia) i2;obtain⟨h2',e2⟩:=inn j (by lia) j2;show r (ys.getD i d0)<r (ys.getD j d0)
     rw[e1,e2];exact a2O.mp gd.2 _ _ h1' h2' (by lia)
    ·obtain⟨l,l1,l2,l3⟩:=from1 i (by lia) i2;rw[oe j (.inr (by lia))];show r (ys.getD i d0)<kx r xs j
     rw[l3];exact tlb l j l1 l2 (by lia) g3
   ·rw[oe i (.inr (by lia)),oe j (.inr (by lia))];exact ub i j (by lia) g2 g3
 by_cases c:na-k<=n2
 ·rw[wB c];exact a0Z (b9i K B1.kind T fin)
 ·rw[wA c];exact a0Z (b9k K B1.kind T fin)
end
def a9r(r:Keyed->Int)(xs:Array Keyed):Nat->List (Nat×Nat×Nat)->Nat->Prop
 |s,[],e=>s=e
 |s,u::l,e=>u.1=s/\1<=u.2.1/\Ris r xs s (s+u.2.1)/\a9r r xs (s+u.2.1) l e
section
variable{r:Keyed->Int}{xs ys:Array Keyed}
theorem b4z: ∀{l:List (Nat×Nat×Nat)} {s e:Nat},a9r r xs s l e->s+l.length<=e
 | [],s,e,h=>by
  have:s=e:=h;simp;lia
 |u::l,s,e,h=>by
  have:=b4z h.2.2.2;have:=h.2.1;rw[a3E];lia
theorem runs_app: ∀{l l':List (Nat×Nat×Nat)} {s e:Nat},a9r r xs s (l++l') e↔ ∃m,a9r r xs s l m/\a9r r xs m l' e
 | [],l',s,e=>⟨fun h=>⟨s,rfl,h⟩,fun⟨m,h1,h2⟩=>by have:s=m:=h1;subst this;exact h2⟩
 | u::l,l',s,e=>by
  constructor
  ·rintro⟨h1,h2,h3,h4⟩;obtain⟨m,g1,g2⟩:=runs_app.mp h4;exact⟨m,⟨h1,h2,h3,g1⟩,g2⟩
  ·rintro⟨m,⟨h1,h2,h3,g1⟩,g2⟩;exact⟨h1,h2,h3,runs_app.mpr ⟨m,g1,g2⟩⟩
theorem a8d{lo hi:Nat}(o:Out xs ys lo hi): ∀{l:List (Nat×Nat×Nat)} {s e:Nat},a9r r xs s l e->e<=lo∨hi<=s->a9r r ys s l e
 | [],_,_,h,_=>h
 |u::l,s,e,h,d=>by
  have:=b4z h.2.2.2;exact⟨h.1,h.2.1,o.ris h.2.2.1 (by lia),a8d o h.2.2.2 (by lia)⟩
theorem d2d{p:Array (Nat×Nat×Nat)}{i:Nat}(h:i+1<p.size): ∃l1 u v l2,p.toList=l1++u::v::l2/\l1.length=i/\p[i]? =some u/\p[i+1]? =some v:=by
 have hl:p.toList.length=p.size:=a0P;refine⟨p.toList.take i,p[i]'(by lia),p[i+1],p.toList.drop (i+2),?_,by rw[a0W];lia,a1R _,a1R _⟩;have e1:p.toList.drop i=p.toList[i]'(by lia)::p.toList.drop (i+1):=a5G (by lia);have e2:p.toList.drop (i+1)=p.toList[i+1]'(by lia)::p.toList.drop (i+2):=a5G (by lia);rw[Array.getElem_toList]at e1 e2;rw[<-e2,<-e1,a2W]
theorem d2e{p:Array (Nat×Nat×Nat)}{i:Nat}{l1 l2:List (Nat×Nat×Nat)}{u v w:Nat×Nat×Nat}(h:p.toList=l1++u::v::l2)(hl:l1.length=i):((p.setIfInBounds i w).eraseIdxIfInBounds (i+1)).toList=l1++w::l2:=by
 rw[Array.toList_eraseIdxIfInBounds,a9N,h,List.set_append_right _ _ (by lia),hl,a5D,List.eraseIdx_append_of_length_le (by lia),hl,a3Z];rfl
variable{M:Model}{A:Ar}{E:VP}{s:Sh}{κ:SortKind}{a₀:Array Keyed}
theorem a5m{st:SortSt}{i lo:Nat}{Q:Bool->SortSt->Prop}(K:Asks M A s κ r a₀)(B:StOk κ a₀ st)(hi:i+1<(pendingOf st).size)(R:a9r r (arrOf st) 0 (pendingOf st).toList lo)(hlo:lo<=a₀.size)
  (q: ∀st',StOk κ a₀ st'->(pendingOf st').size+1=(pendingOf st).size->Out (arrOf st) (arrOf st') 0 lo->a9r r (arrOf st') 0 (pendingOf st').toList lo->Q true st'):wpS M A E s (mergeAt' i) Q st:=by
 obtain⟨l1,u,v,l2,e,hl,eu,ev⟩:=d2d hi;rw[e]at R;obtain⟨m,R1,R2⟩:=runs_app.mp R;obtain⟨u1,u2,u3,v1,v2,v3,R3⟩:=R2;obtain⟨sa,na,pw⟩:=u;obtain⟨sb,nb,pw2⟩:=v;dsimp only at u1 u2 u3 v1 v2 v3 R3;subst u1;have le:=b4z R3;refine b9m K B eu ev v1 u2 v2 (by lia) u3 (by rw[v1];exact v3) fun st' B' ep o up=>?_;have el:=d2e (w:=(sa,na+nb,pw)) e hl;rw[<-ep]at el;refine q st' B' ?_ (o.wide (a3K _) (by lia)) ?_
 ·have l3:(pendingOf st').toList.length+1=(pendingOf st).toList.length:=by
   rw[el,e];simp;lia
  rwa[a0P,a0P]at l3
 ·rw[el];refine runs_app.mpr ⟨sa,a8d o R1 (.inl (a0K _)),rfl,by show 1<=na+nb;lia,?_,?_⟩
  ·show Ris r (arrOf st') sa (sa+(na+nb));rw[show sa+(na+nb)=sb+nb by lia];exact up
  ·show a9r r (arrOf st') (sa+(na+nb)) l2 lo;rw[show sa+(na+nb)=sa+na+nb by lia];exact a8d o R3 (.inr (by lia))
theorem b9n{f:Nat->Nat}: ∀{l:List (Nat×Nat×Nat)} {s e i:Nat},a9r r xs s l e->a9r r xs s (l.modify i fun u=>(u.1,u.2.1,f u.2.2)) e
 | [],_,_,_,h=>by simpa using h
 |u::l,s,e,0,h=>h
 |u::l,s,e,i+1,h=>⟨h.1,h.2.1,h.2.2.1,b9n h.2.2.2⟩
theorem b9o{st:SortSt}{Q:Unit->SortSt->Prop}(K:Asks M A s κ r a₀)(B:StOk κ a₀ st)(hp:pendingOf st= #[])(h1:1<=a₀.size)
  (q: ∀st',StOk κ a₀ st'->Ris r (arrOf st') 0 a₀.size->Q () st'):wpS M A E s sortRuns' Q st:=by
 have sz:=a3q B.perm;rw[sortRuns'_eq];refine a0Z (a9K ?_);dsimp only;rw[sz];refine a0Z (a5Z (a3H (I:=fun x c st'=> ∃lo,c=(none,lo)/\x<=lo/\lo<=a₀.size/\StOk κ a₀ st'/\a9r r (arrOf st') 0 (pendingOf st').toList lo)
  (Q:=fun c st'=>c=(none,a₀.size)/\StOk κ a₀ st'/\a9r r (arrOf st') 0 (pendingOf st').toList a₀.size) ?step ?stop ⟨0,rfl,a0K _,a3K _,B,by rw[hp];rfl⟩) ?post)
 case stop=>
  rintro c st' ⟨lo,rfl,h1,h2,B',R⟩;have e:lo=a₀.size:=by lia
  subst e;exact⟨rfl,B',R⟩
 case step=>
  rintro x c st1 _ hx ⟨lo,rfl,hxl,hlo,B1,R1⟩;dsimp only;by_cases z:lo≥a₀.size
  ·rw[wB z];have e:lo=a₀.size:=by lia
   subst e;exact a1I ⟨rfl,B1,R1⟩
  rw[wA z];refine a0Z (c7r K B1 (by lia) (by lia) fun n st2 B2 p2 g2 o2 n1 nn up2=>?_);dsimp only;have R2:a9r r (arrOf st2) 0 (pendingOf st2).toList lo:=by rw[p2];exact a8d o2 R1 (.inl (a0K _))
  by_cases mr:n<minRun' a₀.size a₀.size 0
  ·rw[wB mr];refine a0Z (b0P (a6F ⟨rfl,?_⟩));refine a0Z (c3v K B2 (by lia) (by lia) up2 fun st3 B3 p3 g3 o3 up3=>?_);rw[wA (by decide)];have R3:a9r r (arrOf st3) 0 (pendingOf st3).toList lo:=by rw[p3];exact a8d o3 R2 (.inl (a0K _))
   have n1:1<=min (a₀.size-lo) (minRun' a₀.size a₀.size 0):=by lia
   have nn:lo+min (a₀.size-lo) (minRun' a₀.size a₀.size 0)<=a₀.size:=by lia
   generalize min (a₀.size-lo) (minRun' a₀.size a₀.size 0)=m0 at up3 n1 nn⊢;refine a0Z (a9K ?_);cases eb:(pendingOf st3).back? with
   |none=>
    dsimp only;refine a0Z (a6U (a1I ⟨lo+m0,rfl,by lia,by lia,⟨B3.kind,B3.perm,B3.ok⟩,?_⟩));show a9r r (arrOf st3) 0 ((pendingOf st3).push (lo,m0,0)).toList (lo+m0)
    rw[a5O];exact runs_app.mpr ⟨lo,R3,rfl,n1,up3,rfl⟩
   | some u=>
    obtain⟨s1,m1,w1⟩:=u;dsimp only;refine a0Z (a5Z (a3H (I:=fun x c st'=>c=(none,())/\StOk κ a₀ st'/\a9r r (arrOf st') 0 (pendingOf st').toList lo/\Ris r (arrOf st') lo (lo+m0))
     (Q:=fun c st'=>c=(none,())/\StOk κ a₀ st'/\a9r r (arrOf st') 0 (pendingOf st').toList lo/\Ris r (arrOf st') lo (lo+m0)) ?step2 ?stop2 ⟨rfl,B3,R3,up3⟩) ?post2)
    case stop2=>
     rintro c st4 h;exact h
    case step2=>
     rintro y c st4 _ _ ⟨rfl,B4,R4,up4⟩;refine a0Z (a9K ?_);by_cases g:(pendingOf st4).size>1
     ·rw[wB g,a1R (by lia)];generalize(pendingOf st4)[(pendingOf st4).size-2]=u2;obtain⟨a2,b2,older⟩:=u2;dsimp only;by_cases g2:older<=power' a₀.size (2 * s1+m1) (2 * s1+m1+m1+m0) a₀.size
      ·rw[wB g2];exact a1I ⟨rfl,B4,R4,up4⟩
      ·rw[wA g2];refine a0Z (a5m K B4 (by lia) R4 hlo fun st5 B5 _ o5 R5=>?_);exact a1I ⟨rfl,B5,R5,o5.ris up4 (.inr (a0K _))⟩
     ·rw[wA g];exact a1I ⟨rfl,B4,R4,up4⟩
    case post2=>
     rintro c st4 ⟨rfl,B4,R4,up4⟩;dsimp only;refine a0Z (a6U (a0Z (a6U (a1I ⟨lo+m0,rfl,by lia,by lia,⟨B4.kind,B4.perm,B4.ok⟩,?_⟩))));show a9r r (arrOf st4) 0 (((pendingOf st4).modify ((pendingOf st4).size-1) fun x=>(x.fst,x.2.fst,power' a₀.size (2 * s1+m1) (2 * s1+m1+m1+m0) a₀.size)).push (lo,m0,0)).toList (lo+m0)
     rw[a5O,Array.toList_modify];exact runs_app.mpr ⟨lo,b9n (f:=fun _=>power' a₀.size (2 * s1+m1) (2 * s1+m1+m1+m0) a₀.size) R4,rfl,n1,up4,rfl⟩
  ·rw[wA mr];have B3:=B2;have R3:=R2;have up3:=up2;refine a0Z (a9K ?_);cases eb:(pendingOf st2).back? with
   |none=>
    dsimp only;refine a0Z (a6U (a1I ⟨lo+n,rfl,by lia,by lia,⟨B3.kind,B3.perm,B3.ok⟩,?_⟩));show a9r r (arrOf st2) 0 ((pendingOf st2).push (lo,n,0)).toList (lo+n)
    rw[a5O];exact runs_app.mpr ⟨lo,R3,rfl,n1,up3,rfl⟩
   | some u=>
    obtain⟨s1,m1,w1⟩:=u;dsimp only;refine a0Z (a5Z (a3H (I:=fun x c st'=>c=(none,())/\StOk κ a₀ st'/\a9r r (arrOf st') 0 (pendingOf st').toList lo/\Ris r (arrOf st') lo (lo+n))
     (Q:=fun c st'=>c=(none,())/\StOk κ a₀ st'/\a9r r (arrOf st') 0 (pendingOf st').toList lo/\Ris r (arrOf st') lo (lo+n)) ?step2 ?stop2 ⟨rfl,B3,R3,up3⟩) ?post2)
    case stop2=>
     rintro c st4 h;exact h
    case step2=>
     rintro y c st4 _ _ ⟨rfl,B4,R4,up4⟩;refine a0Z (a9K ?_);by_cases g:(pendingOf st4).size>1
     ·rw[wB g,a1R (by lia)];generalize(pendingOf st4)[(pendingOf st4).size-2]=u2;obtain⟨a2,b2,older⟩:=u2;dsimp only;by_cases g2:older<=power' a₀.size (2 * s1+m1) (2 * s1+m1+m1+n) a₀.size
      ·rw[wB g2];exact a1I ⟨rfl,B4,R4,up4⟩
      ·rw[wA g2];refine a0Z (a5m K B4 (by lia) R4 hlo fun st5 B5 _ o5 R5=>?_);exact a1I ⟨rfl,B5,R5,o5.ris up4 (.inr (a0K _))⟩
     ·rw[wA g];exact a1I ⟨rfl,B4,R4,up4⟩
    case post2=>
     rintro c st4 ⟨rfl,B4,R4,up4⟩;dsimp only;refine a0Z (a6U (a0Z (a6U (a1I ⟨lo+n,rfl,by lia,by lia,⟨B4.kind,B4.perm,B4.ok⟩,?_⟩))));show a9r r (arrOf st4) 0 (((pendingOf st4).modify ((pendingOf st4).size-1) fun x=>(x.fst,x.2.fst,power' a₀.size (2 * s1+m1) (2 * s1+m1+m1+n) a₀.size)).push (lo,n,0)).toList (lo+n)
     rw[a5O,Array.toList_modify];exact runs_app.mpr ⟨lo,b9n (f:=fun _=>power' a₀.size (2 * s1+m1) (2 * s1+m1+m1+n) a₀.size) R4,rfl,n1,up4,rfl⟩
 case post=>
  rintro c st1 ⟨rfl,B1,R1⟩;dsimp only;refine a0Z (a5Z (a3H (I:=fun x c st'=>c=(none,())/\StOk κ a₀ st'/\a9r r (arrOf st') 0 (pendingOf st').toList a₀.size/\(pendingOf st').size+x<=a₀.size)
   (Q:=fun c st'=>c=(none,())/\StOk κ a₀ st'/\a9r r (arrOf st') 0 (pendingOf st').toList a₀.size/\(pendingOf st').size<=1) ?step3 ?stop3 ⟨rfl,B1,R1,by have:=b4z R1;rw[a0P]at this;lia⟩) ?post3)
  case stop3=>
   rintro c st2 ⟨hc,B2,R2,hz⟩;exact⟨hc,B2,R2,by lia⟩
  case step3=>
   rintro x c st2 _ hx ⟨rfl,B2,R2,hz⟩;refine a0Z (a9K ?_);by_cases g:(pendingOf st2).size<=1
   ·rw[wB g];exact a1I ⟨rfl,B2,R2,g⟩
   ·rw[wA g];refine a0Z (a5m K B2 ?_ R2 (a0K _) fun st3 B3 z3 o3 R3=>?_)
    ·have key: ∀(c:Prop) [Decidable c],(if c then(pendingOf st2).size-2-1 else(pendingOf st2).size-2)+1<(pendingOf st2).size:=fun c _=>by
      by_cases h:c
      ·rw[wB h];lia
      ·rw[wA h];lia
     exact key _
    ·exact a1I ⟨rfl,B3,R3,by lia⟩
  case post3=>
   rintro c st2 ⟨rfl,B2,R2,hz⟩;refine a1I (q st2 B2 ?_);have hl:(pendingOf st2).toList.length<=1:=by rw[a0P];exact hz
   generalize(pendingOf st2).toList=l at R2 hl
   match l,R2,hl with
   | [],R2,_=>
    have:0=a₀.size:=R2;lia
   | [u],R2,_=>
    have e:0+u.2.1=a₀.size:=R2.2.2.2;rw[<-e];exact R2.2.2.1
end
section
variable{P:Pg}{w:World}{A:Ar}{E:VP}{s:Sh}{a:Ad}{vs ks:Vs}{k:Nat->Int}{κ:SortKind}
noncomputable def ixOf (ks:Vs) (x:Keyed):Nat:=Classical.epsilon fun i=>ks[i]? =some x.1
theorem ix_at(nd:ks.Nodup){i:Nat}{x:Keyed}(h:ks[i]? =some x.1):ixOf ks x=i:=by
 have z:ks[ixOf ks x]? =some x.1:=Classical.epsilon_spec (p:=fun i=>ks[i]? =some x.1) ⟨i,h⟩;exact(a2M (a0B.mp z).1 nd).mp (z.trans h.symm)
theorem c7w{Q:SortSt->Sh->Prop}(hl:ks.length=vs.length)(h1:1<=vs.length)(nd:ks.Nodup)(inj: ∀i j,i<vs.length->j<vs.length->k i=k j->i=j)
  (ask: ∀i j (C:Bool->Sh->Prop),i<ks.length->j<ks.length->C (decide (k i<k j)) s->kas_ask P w A κ ks i j C s)
  (hG: ∀p st',Arr vs.length p->SUp k p vs.length->(arrOf st').map (·.2)=(a2p vs p).toArray->failedOf st'=none->Q st' s):
  wpAny (model P w) A ((sortRuns').run (SortSt.mk' κ (ks.toArray.zip vs.toArray) #[] 7 none)) (fun r s'=>Q r.2 s') E s:=by
 have sz:(ks.toArray.zip vs.toArray).size=vs.length:=by simp[hl]
 have el: ∀i,i<vs.length->(ks.toArray.zip vs.toArray).getD i d0=(ks.getD i Value.none,vs.getD i Value.none):=fun i hi=>kat_item hl i;have kat: ∀i,i<vs.length->ks[i]? =some (ks.getD i Value.none):=fun i hi=>by
  rw[a0I,a0A (by lia)];rfl
 have ix: ∀i,i<vs.length->ixOf ks ((ks.toArray.zip vs.toArray).getD i d0)=i:=fun i hi=>ix_at nd (by rw[el i hi];exact kat i hi);have at0: ∀x∈ks.toArray.zip vs.toArray,∃i,i<vs.length/\x=(ks.toArray.zip vs.toArray).getD i d0:=fun x hx=>by
  obtain⟨i,hi,e⟩:=Array.getElem_of_mem hx;exact⟨i,by lia,(getD_of (a4B.mpr ⟨hi,e⟩)).symm⟩
 have K:Asks (model P w) A s κ (fun x=>k (ixOf ks x)) (ks.toArray.zip vs.toArray):=by
  refine⟨fun x y C hx hy hC=>?_,fun i j hi hj ij z=>?_⟩
  ·obtain⟨i,hi,rfl⟩:=at0 x hx;obtain⟨j,hj,rfl⟩:=at0 y hy;have z:=ask i j C (by lia) (by lia) (by rw[ix i hi,ix j hj]at hC;exact hC);unfold kas_ask at z;rw[el i hi,el j hj];exact z
  ·rw[sz]at hi hj;rw[ix i hi,ix j hj]at z;exact ij (inj i j hi hj z)
 have run:=b9o (E:=E) (st:=SortSt.mk' κ (ks.toArray.zip vs.toArray) #[] 7 none) (Q:=fun _ st'=>Q st' s) K ⟨rfl,b0K _,rfl⟩ rfl (by lia) fun st' B up=>?_
 ·unfold wpS at run;exact a3Q run (fun r s' h=>by obtain⟨rfl,h⟩:=h;exact h) fun _ _ e=>e
 ·have psz:=a3q B.perm;rw[sz]at up psz;have mem: ∀i,i<vs.length->(arrOf st').getD i d0∈ks.toArray.zip vs.toArray:=fun i hi=>b0h B.perm (by lia);have ar:Arr vs.length ((arrOf st').map (ixOf ks)):=by
   refine a2H.mpr ?_;rw[a8S];refine((a2H.mp B.perm).map (ixOf ks)).trans (.of_eq ?_);refine a3S fun i=>?_;rw[a0F,a2C,a7F];by_cases hi:i<vs.length
   ·rw[a6i (by lia),a3C hi];exact a1W some (ix i hi)
   ·rw[a7Z (by lia),a1O (by simp;lia)];rfl
  have pat: ∀i,i<vs.length->((arrOf st').map (ixOf ks)).getD i 0=ixOf ks ((arrOf st').getD i d0):=fun i hi=>by
   rw[a2Q,Array.getElem?_map,a6i (by lia)];rfl
  refine hG ((arrOf st').map (ixOf ks)) st' ar (fun x y xy yn=>?_) ?_ B.ok
  ·rw[pat x (by lia),pat y yn];exact up x y (a3K _) xy yn
  ·apply Array.toList_inj.mp;rw[a8S];show _=a2p vs _
   unfold a2p;rw[a8S,a3X];refine a4E fun x hx=>?_;obtain⟨i,hi,rfl⟩:=at0 x ((a9Q B.perm).mp (a8V.mp hx));show((ks.toArray.zip vs.toArray).getD i d0).2=vs.getD (ixOf ks ((ks.toArray.zip vs.toArray).getD i d0)) Value.none
   rw[ix i hi,el i hi]
theorem d2f{n:Nat}{R:PySem.Fin->Sh->Prop}(ho:s.heap.get? a=some (seqObj "list" vs.toArray n))(few:vs.length<=4000)(nd:vs.Nodup)(inj: ∀i j,i<vs.length->j<vs.length->k i=k j->i=j)
  (ask: ∀h',(∀b o,b≠a->s.heap.get? b=some o->h'.get? b=some o)->2<=vs.length->d5w P w A vs (fun i j=>decide (k i<k j)) {s with heap:=h'})
  (q: ∀p h' c,Arr vs.length p->SUp k p vs.length->h'.get? a=some (seqObj "list" (a2p vs p).toArray c)->(∀b o,b≠a->s.heap.get? b=some o->h'.get? b=some o)->R (.done (.ret .none)) {s with heap:=h'}):
  wpAny (model P w) A (Builtin.«list.sort» ⟨[.ref a],[]⟩) R E s:=by
 have la:a<s.heap.objs.size:=a0U ho
 let h1:=s.heap.update a (Obj.mapSeq fun _=>(#[]:AV))
 obtain⟨e1,ho1⟩: ∃e1,h1.get? a=some (seqObj "list" #[] e1):=⟨_,a7R ho fun _=> #[]⟩
 let h3:=(h1.push (seqObj "tuple" vs.toArray 0)).push (seqObj "list" #[] 0)
 have k1: ∀b o,b≠a->s.heap.get? b=some o->h1.get? b=some o:=fun b o nb e=>(a1Z _ _ (a3T nb)).trans e;have k3: ∀b o,b≠a->s.heap.get? b=some o->h3.get? b=some o:=fun b o nb e=>c1j (k1 b o nb e) _ _;have ho3:h3.get? a=some (seqObj "list" #[] e1):=c1j ho1 _ _;rw[list_sort_plain];refine a0D (listItems_at ho rfl ?_);refine a0D (a7S ho rfl ?_ (by rw[a0V,a0Y];lia) (a3K _));refine a0D (b0R ho1 rfl ?_);refine a0D (wpAny_newTuple ?_ (by show vs.length<=_;rw[a0Y];lia));refine a0D (a8Z ?_ (a3K _));refine a2T ?_;show wpAny (model P w) A _ R E {s with heap:=h3};dsimp only;have fin: ∀(st:SortSt) (p:Array Nat),Arr vs.length p->SUp k p vs.length->(arrOf st).map (·.2)=(a2p vs p).toArray->failedOf st=none-> ∀h4,h4=h3->
   wpAny (model P w) A (do
    let touched:=(<-seqEpoch a) != e1
    Builtin.List.listUpdate (.ref a) fun _=>(arrOf st).map (·.2)
    if let some e:=failedOf st then rule "list.sort.comparison-raised";throw e
    if touched then rule "list.sort.modified";raiseError "ValueError" "list modified during sort"
    ret .none) R E {s with heap:=h4}:=fun st p ar up hout hf h4 e4=>by
  subst e4;rw[hout];have sz:(a2p vs p).toArray.size=vs.length:=by
   rw[a0V,a0C,a0P,ar.size]
  obtain⟨c2,hc2⟩: ∃c2,(h3.update a (Obj.mapSeq fun _=>(a2p vs p).toArray)).get? a=some (seqObj "list" (a2p vs p).toArray c2):=⟨_,a7R ho3 fun _=>(a2p vs p).toArray⟩;refine a0D (b0R ho3 rfl ?_);refine a0D (a7S ho3 rfl ?_ (a3K _) (a1C (a7H sz) (by rw[a0Y];lia)));rw[hf];simp only[bne_self_eq_false,Bool.false_eq_true,if_false];exact a0G (q p _ c2 ar up hc2 fun b o nb e=>(a1Z _ _ (a3T nb)).trans (k3 b o nb e))
 by_cases h2:2<=vs.length
 ·have n2: ¬vs.toArray.size<2:=by rw[a0V];lia
  rw[wA n2,wA n2];refine a0D (a3Q (ask h3 k3 h2) (fun κ s0 hk=>?_) fun _ _ x=>x.elim);obtain⟨rfl,hk⟩:=hk;refine a0D (a3Q (c7w (ks:=vs) (vs:=vs) (k:=k) (Q:=fun st' s'=>s'={s with heap:=h3}/\ ∃p:Array Nat,Arr vs.length p/\SUp k p vs.length/\(arrOf st').map (·.2)=(a2p vs p).toArray/\failedOf st'=none) rfl (by lia) nd inj hk fun p st' a1 a2 a3 a4=>⟨rfl,p,a1,a2,a3,a4⟩) ?_ fun _ _ x=>x);rintro⟨⟨⟩,st⟩ s' ⟨rfl,p,ar,up,hout,hf⟩;exact fin st p ar up hout hf _ rfl
 ·have n2:vs.toArray.size<2:=by rw[a0V];lia
  rw[wB n2,wB n2];refine a0D (a0G (a0D (a0G ?_)));refine fin _ (List.range vs.length).toArray (b0K _) (fun x y xy yn=>by lia) ?_ rfl _ rfl;rw[a9p];exact c7o rfl
end
theorem d6g{H:Hp}{as:As}{ts:LN}(at0:TupsAt H as ts)(nd:ts.Nodup):(as.map Value.ref).Nodup:=by
 refine a2O.mpr fun i j hi hj ij z=>?_;rw[a6E,a6E]at z;rw[a0C]at hi hj;have z:=Value.ref.inj z;have la:=at0.len;have e1:=at0.is i as[i] (ts[i]'(by lia)) (a0A hi) (a0A _);have e2:=at0.is j as[j] (ts[j]'(by lia)) (a0A hj) (a0A _);rw[z,e2]at e1;have e3:ts[j]'(by lia)=ts[i]'(by lia):=by
  have y:=a1X e1;injection y with y
  exact(List.map_inj_right (f:=nv) fun a b h=>a8Y (V.int.inj h)).mp y
 have e4:=(a2M (i:=j) (j:=i) (by lia) nd).mp (by rw[a0A (by lia),a0A (by lia),e3]);lia
def a3s(g:Nsq->Int)(t u:Nsq):Bool:=plt (g t) t (g u) u
theorem a2v(g:Nsq->Int)(xs:LN):Total (a3s g) xs:=by
 refine⟨fun x=>?_,fun x y z h1 h2=>?_,fun x _ y _ ne=>?_⟩
 ·unfold a3s plt;rw[wB rfl,a6c]
 ·unfold a3s plt at h1 h2⊢;by_cases e1:g x=g y
  ·rw[wB e1]at h1;by_cases e2:g y=g z
   ·rw[wB e2]at h2;rw[wB (by lia)];exact c7p _ _ _ h1 h2
   ·rw[wA e2]at h2;have:=a1V h2;rw[wA (by lia)];exact a1A (by lia)
  ·rw[wA e1]at h1;have l1:=a1V h1;by_cases e2:g y=g z
   ·rw[wA (by lia)];exact a1A (by lia)
   ·rw[wA e2]at h2;have l2:=a1V h2;rw[wA (by lia)];exact a1A (by lia)
 ·unfold a3s plt;by_cases e:g x=g y
  ·rw[wB e,wB e.symm];exact b1v x y ne
  ·rw[wA e,wA fun z=>e z.symm]
   rcases Int.lt_or_gt_of_ne e with q|q
   ·exact .inl (a1A q)
   ·exact .inr (a1A q)
def c7x(H:Hp)(g:Nsq->Int)(κ a:Ad)(t:Nsq):Prop:=H κ=some (.tup [.int (g t),.ref a])/\H a=some (.tup (t.map nv))
structure KeysAt(H:Hp)(g:Nsq->Int)(κs as:As)(ts:LN):Prop where
 l1:κs.length=ts.length
 l2:as.length=ts.length
 is: ∀(i:Nat) κ a t,κs[i]? =some κ->as[i]? =some a->ts[i]? =some t->c7x H g κ a t
section
variable{X:Cx}{za:AO}{σ:St}{H:Hp}{s:Sh}{g:Nsq->Int}
theorem b9p{κ a:Ad}{t:Nsq}(I:Inv X za σ H s)(h:c7x H g κ a t): ∃o tk its n,s.heap.get? κ=some o/\o.cls= .type "tuple"/\o.data= .seq #[.int (g t) tk,.ref a] n/\Vals (t.map nv) its/\SeqObj "tuple" s.heap a its:=by
 obtain⟨_,its,r,o,h1,h2,c,h3,_⟩:=(show ObjOk X.prog X.w H s.heap κ (.tup [.int (g t),.ref a])from I.hok κ _ h.1);obtain⟨u1,us,rfl,⟨tk,rfl⟩,r2⟩: ∃u1 us,its=u1::us/\RelV (.int (g t)) u1/\Vals [.ref a] us:=by
  cases r with
  |cons x y=>exact⟨_,_,rfl,x,y⟩
 obtain⟨u2,rfl,ru⟩:=a6y r2;cases ru;obtain⟨its2,r3,p3,_⟩:=I.tuple (SqT.of (K:=X.K) h.2);exact⟨o,tk,its2,c,h1,h2,h3,r3,c3m p3⟩
theorem d9g{A:Ar}{κ a κ' a':Ad}{t u:Nsq}{Q:Bool->Sh->Prop}{E:VP}(hu:A.units+8<cLine)(I:Inv X za σ H s)(h1:c7x H g κ a t)(h2:c7x H g κ' a' u)(q:Q (a3s g t u) s):
  wpAny (model X.prog X.w) A (keyLt' (tuples' true) (.ref κ) (.ref κ')) Q E s:=by
 obtain⟨o1,k1,xs,n1,x1,x2,x3,x4,x5⟩:=b9p I h1;obtain⟨o2,k2,ys,n2,y1,y2,y3,y4,y5⟩:=b9p I h2;refine kat_lt x1 x3 y1 y3 ?_;show KatLex _ _ _ _ _ _ [(Value.int (g t) k1,Value.int (g u) k2),(Value.ref a,Value.ref a')] 0 s;have z:=eqAt_int (A:=A) (s:=s) (i:=g t) (j:=g u) (t:=k1) (u:=k2);refine kat_cons ?_;unfold a3s plt at q;by_cases e:g t=g u
 ·rw[a1A e]at z;rw[wB e]at q;refine z _ _ _ _ (kat_yes (kat_cons ?_));obtain⟨b1,e1,e2⟩:=b6w I 1 (A:=A) (by lia) (a5c (SqT.of (K:=X.K) h1.2)) (a5c (SqT.of (K:=X.K) h2.2)) rfl rfl;refine e1 _ _ _ _ ?_;cases b1 with
  |true=>
   have eq:=dt_natsT.mp (e2.mp rfl);subst eq;rw[a6c]at q;refine kat_yes (kat_nil ?_);exact q
  |false=>
   refine kat_no (kat_one _ _ ?_);have l1:t.length=xs.length:=by simpa using x4.length
   have l2:u.length=ys.length:=by simpa using y4.length
   have rc:=d1k (A:=A) x5 y5 (by lia) (d8m x4 y4);rw[<-l1,<-l2]at rc;exact show wpAny _ _ (richCompare .Lt _ _) _ _ _ from rc _ _ _ _ q
 ·rw[a1J e]at z;rw[wA e]at q;exact z _ _ _ _ (kat_no (d4d _ q))
theorem b3s{g:Nsq->Int}(I:Inv X za σ H s): ∀{κs as:As} {ts:LN},KeysAt H g κs as ts-> ∃fs:Vs,KatTups s.heap (κs.map Value.ref) fs/\fs.length=κs.length/\ ∀f∈fs,∃i t,f= .int i t
 | [],as,ts,_=>⟨[],.nil,rfl,fun _ z=>nomatch z⟩
 |κ::κs,[],ts,h=>by have:=h.l1;have:=h.l2;simp at *;lia
 |κ::κs,a::as,[],h=>by have:=h.l1;simp at this
 | κ::κs,a::as,t::ts,h=>by
  obtain⟨fs,k1,k2,k3⟩:=b3s I (κs:=κs) (as:=as) (ts:=ts) ⟨by simpa using h.l1,by simpa using h.l2,fun i κ a t e1 e2 e3=>h.is (i+1) κ a t (by simpa using e1) (by simpa using e2) (by simpa using e3)⟩;obtain⟨o,tk,its,n,h1,h2,h3,_⟩:=b9p I (h.is 0 κ a t rfl rfl rfl);exact⟨_::fs,.cons h1 h2 h3 rfl k1,by simp[k2],fun f hf=>by
   rcases a1L.mp hf with e|hf
   ·exact⟨_,_,e⟩
   ·exact k3 f hf⟩
theorem d2g{A:Ar}{κs as:As}{ts:LN}(hu:A.units+8<cLine)(I:Inv X za σ H s)(n1:1<=ts.length)(h:KeysAt H g κs as ts):d5w X.prog X.w A (κs.map Value.ref) (fun i j=>a3s g (ts.getD i []) (ts.getD j [])) s:=by
 obtain⟨fs,k1,k2,k3⟩:=b3s I h;have l1:=h.l1;have l2:=h.l2;refine kat_kind (T:= .type "int") k1 (by lia) (fun f hf=>?_) (by decide) ⟨rfl,fun i j C li lj hC=>?_⟩
 ·obtain⟨i,t,rfl⟩:=k3 f hf;exact .now
 ·rw[a0C]at li lj;have at0: ∀{i:Nat},i<κs.length-> ∃κ a,(κs.map Value.ref).getD i Value.none= .ref κ/\c7x H g κ a (ts.getD i []):=fun {i} li=>by
   obtain⟨κ,e1⟩: ∃κ,κs[i]? =some κ:=⟨_,a0A li⟩;obtain⟨a,e2⟩: ∃a,as[i]? =some a:=⟨_,a0A (by lia)⟩;refine⟨κ,a,?_,h.is i κ a _ e1 e2 (a5k (by lia)).1⟩;rw[a0I,a0F,e1];rfl
  obtain⟨κ,a,e1,h1⟩:=at0 li;obtain⟨κ',a',e2,h2⟩:=at0 lj;show wpAny (model X.prog X.w) A (keyLt' _ ((κs.map Value.ref).getD i Value.none) ((κs.map Value.ref).getD j Value.none)) C _ s;rw[e1,e2];exact d9g hu I h1 h2 hC
end
def c3x(g:Nsq->Int):Sp:=fun vs H Q _=> ∃(a:Ad) (t:Nsq),vs=[.ref a]/\H a=some (.tup (t.map nv))/\ ∀κ H',Same H H'->H' κ=some (.tup [.int (g t),.ref a])->Q (.ref κ) H'
section
variable{X:Cx}{za:AO}{σ:St}{kk:Nat}{f:Ad}{fd:Fd}{ps:Ss}{g:Nsq->Int}
theorem d6h{sp:Sp}{H:Hp}{s:Sh}{Q:VK}{us:Vs}{vs:List V}(F:FnOk X.prog X.w X.K X.mg X.base CX0 kk f fd ps sp)(hr:Room kk X.A.in1.in1)(hb:Binds X.K fd ps [])(I:Inv X za σ H s)(r:Vals vs us)(h:sp vs H Q E0):
  wpAny (model X.prog X.w) X.A.in1.in1 (call (.ref f) us) (EP X za σ Q) (fun _ _=>False) s:=by
 have hl:(us++[]).length=ps.length:=by rw[a2I,<-r.length];exact F.len _ _ _ _ h
 have b:=hb s us I.kIn hl;rw[a2I]at b;refine b0M (a5U (F.run X.A.in1.in1 X.stack s H ⟨us,[]⟩ us vs Q E0 hr I.env0.in1.in1 b r h) fun r s' hq=>?_);cases r with
 |error e=>exact hq.elim
 |ok fl=>
  cases fl with
  |ret u=>exact I.after hq
  |next=>exact wE hq
  |brk=>exact wE hq
  |cont=>exact wE hq
theorem Inv.pin2{H:Hp}{s:Sh}{b c:Ad}{o u:Obj}(I:Inv X za σ H s)(f1:FpOk X za H b)(f2:FpOk X za H c)(e1:s.heap.get? b=some o)(e2:s.heap.get? c=some u)(n1: ∀v,o.data≠ .cell v)(n2: ∀v,u.data≠ .cell v):Inv X ((b,o)::(c,u)::za) σ H s:=
 I.pins_of fun p hp=>by
  rcases a1L.mp hp with rfl|hp
  ·exact⟨e1,f1.1,f1.2.1,f1.2.2.1,n1⟩
  ·rcases a1L.mp hp with rfl|hp
   ·exact⟨e2,f2.1,f2.2.1,f2.2.2.1,n2⟩
   ·exact I.pin p (a1E _ hp)
theorem Inv.unpin2{H:Hp}{s:Sh}{b c:Ad}{o u:Obj}(I:Inv X ((b,o)::(c,u)::za) σ H s):Inv X za σ H s:=
 I.pins_of fun p hp=>I.pin p (a1E _ (a1D _ (a1D _ hp)))
theorem FpOk.to{H H':Hp}{b:Ad}(h:FpOk X za H b)(e:H' b=none):FpOk X za H' b:=⟨e,h.2⟩
theorem c7y{E:VP}{kS D:Ad}{e1:Nat}{body:Vl->PUnit->Sem (ForInStep PUnit)}{Q:Sh->Prop}(F:FnOk X.prog X.w X.K X.mg X.base CX0 kk f fd ps (c3x g))(hr:Room kk X.A.in1.in1)(hb:Binds X.K fd ps [])(ne:kS≠D)
  (hbody: ∀x (s:Sh) (C:VP) (Qy:Sh->Prop),wpAny (model X.prog X.w) X.A.in1.in1 (call (.ref f) [x]) C (fun _ _=>False) s->
   (∀k s',C k s'-> ∃its c,s'.heap.get? kS=some (seqObj "list" its c)/\its.size<64/\Qy {s' with heap:=s'.heap.update kS (Obj.mapSeq (·.push k))})->wpAny (model X.prog X.w) X.A.in1.in1 (body x ⟨⟩) (fun r s'=>r= .yield ⟨⟩/\Qy s') E s):
  ∀(r:As) (rt:LN) (H:Hp) (κs:As) (c:Nat) (s:Sh),Inv X za σ H s->TupsAt H r rt->s.heap.get? kS=some (seqObj "list" (κs.map Value.ref).toArray c)->s.heap.get? D=some (seqObj "list" #[] e1)->FpOk X za H kS->FpOk X za H D->κs.length+r.length<64->
   (∀H2 κ2 c2 s2,Inv X za σ H2 s2->Same H H2->KeysAt H2 g κ2 r rt->s2.heap.get? kS=some (seqObj "list" ((κs++κ2).map Value.ref).toArray c2)->s2.heap.get? D=some (seqObj "list" #[] e1)->FpOk X za H2 kS->FpOk X za H2 D->Q s2)->
   wpAny (model X.prog X.w) X.A.in1.in1 (forIn (r.map Value.ref) PUnit.unit body) (fun _ s'=>Q s') E s
 | [],[],H,κs,c,s,I,T,eS,eD,f1,f2,_,q=>by
  rw[b0B,List.forIn_nil];exact a0G (q H [] c s I (Same.refl _) ⟨rfl,rfl,fun i κ a t e=>by simp at e⟩ (by rw[List.append_nil];exact eS) eD f1 f2)
 | [],_::_,H,κs,c,s,I,T,eS,eD,f1,f2,_,q=>by have:=T.len;simp at this
 |_::_,[],H,κs,c,s,I,T,eS,eD,f1,f2,_,q=>by have:=T.len;simp at this
 | a::r,t::rt,H,κs,c,s,I,T,eS,eD,f1,f2,l64,q=>by
  rw[a3E]at l64;rw[a2K,List.forIn_cons];have ha:H a=some (.tup (t.map nv)):=T.is 0 a t rfl rfl;have I1:=I.pin2 f1 f2 eS eD (fun _ z=>nomatch z) (fun _ z=>nomatch z);have go:=d6h (Q:=fun v H'=> ∃κ,v= .ref κ/\Same H H'/\H' κ=some (.tup [.int (g t),.ref a])) F hr hb I1 (us:=[.ref a]) (vs:=[.ref a]) (.cons rfl .nil) ⟨a,t,rfl,ha,fun κ H' gg e=>⟨κ,rfl,gg,e⟩⟩;refine a0D (a3Q (hbody _ s _ (fun s'=> ∃κ H' c',Inv X za σ H' s'/\Same H H'/\H' κ=some (.tup [.int (g t),.ref a])/\s'.heap.get? kS=some (seqObj "list" ((κs++[κ]).map Value.ref).toArray c')/\s'.heap.get? D=some (seqObj "list" #[] e1)/\FpOk X za H' kS/\FpOk X za H' D) go fun k s' hk=>?_) (fun x s' hx=>?_) fun _ _ z=>z)
  ·obtain⟨v,H',I',rv,κ,rfl,gg,eκ⟩:=hk;cases rv;obtain⟨p1,p2,p3,p4,_⟩:=I'.pin (kS,_) (a1E _ (a0T ..));obtain⟨d1,d2,d3,d4,_⟩:=I'.pin (D,_) (a1E _ (a1D _ (a0T ..)));obtain⟨c',hc'⟩: ∃c',(s'.heap.update kS (Obj.mapSeq (·.push (Value.ref κ)))).get? kS=some (seqObj "list" ((κs++[κ]).map Value.ref).toArray c'):=by
    have ea:(List.map Value.ref κs).toArray.push (.ref κ)=((κs++[κ]).map Value.ref).toArray:=by simp
    rw[<-ea];exact⟨_,a7R p1 (·.push (Value.ref κ))⟩
   refine⟨_,_,p1,by rw[a0V,a0C];lia,κ,H',c',?_,gg,eκ,hc',?_,f1.to p2,f2.to d2⟩
   ·obtain⟨_,w1,w2,w3,w4,w5⟩:=f1;exact I'.unpin2.turned (t':=s'.toks) (fun b o nb e=>(a1Z _ _ (a3T nb)).trans e) p2 w1 w3 w4 w5
   ·exact(a1Z _ _ ne).trans d1
  ·obtain⟨rfl,κ,H',c',I',gg,eκ,eS',eD',g1,g2⟩:=hx;show wpAny _ _ (forIn (r.map Value.ref) PUnit.unit body) _ E s';refine c7y F hr hb ne hbody r rt H' (κs++[κ]) c' s' I' ⟨by simpa using T.len,fun i b u e1 e2=>gg _ _ (T.is (i+1) b u (by simpa using e1) (by simpa using e2))⟩ eS' eD' g1 g2 (by rw[List.length_append];show κs.length+1+r.length<64;lia) fun H2 κ2 c2 s2 I2 gg2 K2 eS2 eD2 h1 h2=>?_;refine q H2 (κ::κ2) c2 s2 I2 (gg.trans gg2) ⟨by simp[K2.l1],by simp[K2.l2],fun i κ' b u e1 e2 e3=>?_⟩ (by rw[List.append_assoc]at eS2;exact eS2) eD2 h1 h2;cases i with
   |zero=>
    cases e1;cases e2;cases e3;exact⟨gg2 _ _ eκ,(gg.trans gg2) _ _ ha⟩
   |succ i=>exact K2.is i κ' b u (by simpa using e1) (by simpa using e2) (by simpa using e3)
end
section
variable{X:Cx}{za:AO}{σ:St}{H:Hp}{s:Sh}{kk:Nat}{f D:Ad}{fd:Fd}{ps:Ss}{g:Nsq->Int}{as:As}{ts:LN}{E:VP}
theorem c3y{R:PySem.Fin->Sh->Prop}{n:Nat}(F:FnOk X.prog X.w X.K X.mg X.base CX0 kk f fd ps (c3x g))(hr:Room kk X.A.in1.in1)(hb:Binds X.K fd ps [])(hu:X.A.units+64<cLine)(I:Inv X za σ H s)(T:TupsAt H as ts)(nd:ts.Nodup)(h64:ts.length<64)
  (ho:s.heap.get? D=some (seqObj "list" (as.map Value.ref).toArray n)) (fD:FpOk X za H D)
  (q: ∀H2 p s2 c,Inv X za σ H2 s2->Same H H2->Arr ts.length p->SUp (fun i=>a4f (a3s g) ts (ts.getD i [])) p ts.length->s2.heap.get? D=some (seqObj "list" (a2p (as.map Value.ref) p).toArray c)->FpOk X za H2 D->R (.done (.ret .none)) s2):
  wpAny (model X.prog X.w) X.A.in1.in1 (ksk_tree D (.ref f) false) R E s:=by
 have la:=T.len;have lv:(as.map Value.ref).length=ts.length:=by rw[a0C,la]
 have lD:D<s.heap.objs.size:=a0U ho;obtain⟨d0,d1,d2,d3,d4,d5⟩:=fD
 let h1:=s.heap.update D (Obj.mapSeq fun _=>(#[]:AV))
 obtain⟨e1,ho1⟩: ∃e1,h1.get? D=some (seqObj "list" #[] e1):=⟨_,a7R ho fun _=> #[]⟩;have I1:Inv X za σ H {s with heap:=h1}:=I.turned (t':=s.toks) (fun b o nb e=>(a1Z _ _ (a3T nb)).trans e) d0 d1 d3 d4 d5
 let h2:=h1.push (seqObj "tuple" (as.map Value.ref).toArray 0)
 have I3:Inv X za σ H {s with heap:=h2.push (seqObj "list" #[] 0)}:=I1.kept (t':=s.toks) fun b o e=>c1j e _ _;have ho3:(h2.push (seqObj "list" #[] 0)).get? D=some (seqObj "list" #[] e1):=c1j ho1 _ _;have hk3:(h2.push (seqObj "list" #[] 0)).get? h2.objs.size=some (seqObj "list" ((([]:As)).map Value.ref).toArray 0):=a0X _ rfl;have lk:s.heap.objs.size<=h2.objs.size:=by
  show _<=(h1.push _).objs.size;rw[size_push'];show _<=(s.heap.update D _).objs.size+1;rw[Heap.size_update];exact a7E _
 have fk:FpOk X za H h2.objs.size:=I.fpOk lk (I.hok.fresh lk);have ne:h2.objs.size≠D:=a5A (a1N lD lk);unfold ksk_tree;refine a0D (listItems_at ho rfl ?_);refine a0D (a7S ho rfl ?_ (by rw[a0V,a0Y];lia) (a3K _));refine a0D (b0R ho1 rfl ?_);refine a0D (wpAny_newTuple ?_ (by show(as.map Value.ref).length<=_;rw[a0Y];lia));refine a0D (a8Z ?_ (a3K _));refine a2T ?_;show wpAny (model X.prog X.w) X.A.in1.in1 (ksk_rest D (.ref f) false (as.map Value.ref).toArray e1 (.ref h2.objs.size)) R E {s with heap:=h2.push (seqObj "list" #[] 0)};unfold ksk_rest;refine a0D (a6F ?_);rw[List.forIn_toArray];refine a0D (c7y F hr hb ne (fun x s0 C Qy hx hC=>?_) as ts H [] 0 _ I3 T hk3 ho3 fk ⟨d0,d1,d2,d3,d4,d5⟩ (by simp;lia) fun H2 κs c2 s2 I2 gg K2 eS eD f1 f2=>?_)
 ·refine a0D (a5X (a3Q hx (fun k s' hk=>?_) fun _ _ z=>z.elim));obtain⟨its,c,e,l,qy⟩:=hC k s' hk;refine a0D (a7S e rfl ?_ (by rw[a0Y];lia) (by show(its.push k).size<=_;rw[a4L,a0Y];lia));exact a0G ⟨rfl,qy⟩
 rw[a9F]at eS;have lκ:(κs.map Value.ref).length=(as.map Value.ref).length:=by rw[a0C,lv,K2.l1]
 refine a0D (listItems_at eS rfl ?_);have fin: ∀(st:SortSt) (p:Array Nat),Arr ts.length p->SUp (fun i=>a4f (a3s g) ts (ts.getD i [])) p ts.length->(arrOf st).map (·.2)=(a2p (as.map Value.ref) p).toArray->failedOf st=none->
   wpAny (model X.prog X.w) X.A.in1.in1 (ksk_tail D false e1 (.ref h2.objs.size) st) R E s2:=fun st p ar up hout hf=>by
  have sz:(a2p (as.map Value.ref) p).toArray.size=ts.length:=by
   rw[a0V,a0C,a0P,ar.size]
  unfold ksk_tail
  try dsimp only
  rw[hout];have I4:Inv X za σ H2 {s2 with heap:=s2.heap.update h2.objs.size (Obj.mapSeq fun _=>(#[]:AV))}:=by
   obtain⟨w0,w1,w2,w3,w4,w5⟩:=f1;exact I2.turned (t':=s2.toks) (fun b o nb e=>(a1Z _ _ (a3T nb)).trans e) w0 w1 w3 w4 w5
  have eD4:(s2.heap.update h2.objs.size (Obj.mapSeq fun _=>(#[]:AV))).get? D=some (seqObj "list" #[] e1):=(a1Z _ _ ne).trans eD;obtain⟨c5,hc5⟩: ∃c5,((s2.heap.update h2.objs.size (Obj.mapSeq fun _=>(#[]:AV))).update D (Obj.mapSeq fun _=>(a2p (as.map Value.ref) p).toArray)).get? D=some (seqObj "list" (a2p (as.map Value.ref) p).toArray c5):=⟨_,a7R eD4 fun _=>(a2p (as.map Value.ref) p).toArray⟩;refine a0D (a7S eS rfl ?_ (by rw[a0V,a0Y];lia) (a3K _));refine a0D (wpAny_letGo ?_);refine a0D (b0R eD4 rfl ?_);refine a0D (a7S eD4 rfl ?_ (a3K _) (by show(a2p (as.map Value.ref) p).toArray.size<=_;rw[sz,a0Y];lia));rw[hf];simp only[bne_self_eq_false,Bool.false_eq_true,if_false];refine a0G (q H2 p _ c5 ?_ gg ar up hc5 f2);obtain⟨w0,w1,w2,w3,w4,w5⟩:=f2;exact I4.turned (t':=s2.toks) (fun b o nb e=>(a1Z _ _ (a3T nb)).trans e) w0 w1 w3 w4 w5
 unfold ksk_end;simp only[Bool.false_eq_true,if_false];by_cases h2':2<=ts.length
 ·have n2: ¬(as.map Value.ref).toArray.size<2:=by rw[a0V];lia
  rw[wA n2,wA n2];have To:=a2v g ts;have inj:=c1m (d:=([]:Nsq)) To nd;refine a0D (a3Q (d2g (A:=X.A.in1.in1) (by show X.A.units+1+1+8<cLine;lia) I2 (by lia) K2) (fun κ s0 hk=>?_) fun _ _ x=>x.elim);obtain⟨rfl,hk⟩:=hk;have lκ':κs.length=ts.length:=K2.l1;have ndκ:(κs.map Value.ref).Nodup:=by
   refine a2O.mpr fun i j hi hj ij z=>?_;rw[a6E,a6E]at z;rw[a0C]at hi hj;have z:=Value.ref.inj z;have e1:=K2.is i κs[i] (as[i]'(by lia)) (ts[i]'(by lia)) (a0A hi) (a0A _) (a0A _);have e2:=K2.is j κs[j] (as[j]'(by lia)) (ts[j]'(by lia)) (a0A hj) (a0A _) (a0A _);obtain⟨e1,e1'⟩:=e1;obtain⟨e2,e2'⟩:=e2;rw[z,e2]at e1;have ea:as[j]'(by lia)=as[i]'(by lia):=by
    have y:=a1X e1;injection y with y
    injection y with _ y
    injection y with y
    exact V.ref.inj y
   rw[ea]at e2';have et:ts[j]'(by lia)=ts[i]'(by lia):=by
    have y:=a1X (e2'.symm.trans e1');injection y with y
    exact(List.map_inj_right (f:=nv) fun a b h=>a8Y (V.int.inj h)).mp y
   have e4:=(a2M (i:=j) (j:=i) (by lia) nd).mp (by rw[a0A (by lia),a0A (by lia),et]);lia
  refine a0D (a3Q (c7w (ks:=κs.map Value.ref) (vs:=as.map Value.ref) (k:=fun i=>a4f (a3s g) ts (ts.getD i [])) (Q:=fun st' s'=>s'=s0/\ ∃p:Array Nat,Arr ts.length p/\SUp (fun i=>a4f (a3s g) ts (ts.getD i [])) p ts.length/\(arrOf st').map (·.2)=(a2p (as.map Value.ref) p).toArray/\failedOf st'=none) lκ (by lia) ndκ (by rw[lv];exact inj) (fun i j C li lj hC=>hk i j C (by lia) (by lia) (by
   have e:=To.asks (a5k (d:=([]:Nsq)) (show i<ts.length by lia)).2 (a5k (d:=([]:Nsq)) (show j<ts.length by lia)).2;show C (a3s g (ts.getD i []) (ts.getD j [])) _
   rw[<-e];exact hC)) fun p st' a1 a2 a3 a4=>⟨rfl,p,by rw[<-lv];exact a1,by rw[<-lv];exact a2,a3,a4⟩) ?_ fun _ _ x=>x)
  rintro⟨⟨⟩,st⟩ s' ⟨rfl,p,ar,up,hout,hf⟩;exact fin st p ar up hout hf
 ·have n2:(as.map Value.ref).toArray.size<2:=by rw[a0V];lia
  rw[wB n2,wB n2];refine a0D (a0G (a0D (a0G ?_)));refine fin _ (List.range ts.length).toArray (b0K _) (fun x y xy yn=>by lia) ?_ rfl;rw[<-lv,a9p];exact c7o lκ
end
section
variable{X:Cx}{za:AO}{σ:St}{H:Hp}{s:Sh}{d:Ad}{kvs:List (List Key×V)}{ts:LN}
theorem b7o(I:Inv X za σ H s)(h:H d=some (.dT kvs))(e:kvs.map (·.1)=ts.map nk): ∃as es ep,Lies s.heap d es ep/\(d==sysModules)=false/\TupsAt H as ts/\(∀(i:Nat) (en:DictEntry),es[i]? =some en-> ∃a,as[i]? =some a/\en.key= .ref a)/\es.size=ts.length/\ts.Nodup/\ts.length<=sizeLine:=by
 obtain⟨z,nm,ys,rel,o,es,ep,e1,e2,e3,e4,nd⟩:=(show ObjOk X.prog X.w H s.heap d (.dT kvs)from I.hok d _ h);have l1:kvs.length=ys.length:=a4Z rel;have l2:kvs.length=ts.length:=by rw[<-a0C (f:=(·.1)) (as:=kvs),e,a0C]
 have le:es.size=ys.length:=a9H e4;have at1: ∀(i:Nat) (t:Nsq),ts[i]? =some t-> ∃k v y u,kvs[i]? =some (k,v)/\ys[i]? =some (k,y,u)/\k=nk t/\H y=some (.tup (t.map nv)):=fun i t et=>by
  have li:=(a0B.mp et).1;obtain⟨⟨k,v⟩,ek⟩: ∃p,kvs[i]? =some p:=⟨_,a0A (by lia)⟩;obtain⟨⟨k',y,u⟩,ey,p1,p2,p3⟩:=a7x rel ek;have kk:k=nk t:=by
   have z1:(kvs.map (·.1))[i]? =some k:=by rw[a0F,ek];rfl
   rw[e,a0F,et]at z1;exact(a1X z1).symm
  have p1':k=k':=p1;subst p1';refine⟨k,v,y,u,ek,ey,kk,?_⟩;have p2':H y=some (.tup (k.map kV)):=p2;rw[kk,a7a]at p2';exact p2'
 refine⟨ys.map (·.2.1),es,ep,⟨o,e1,e2,e3⟩,nm,⟨by rw[a0C];lia,fun i b t eb et=>?_⟩,fun i en ee=>?_,by lia,?_,by lia⟩
 ·obtain⟨k,v,y,u,_,ey,_,hy⟩:=at1 i t et;rw[a0F,ey]at eb;cases eb;exact hy
 ·rw[entry_at e4]at ee;obtain⟨q,eq,rfl⟩:=a0O.mp ee;exact⟨q.2.1,by rw[a0F,eq];rfl,rfl⟩
 ·have z1:(ys.map (·.1))=ts.map nk:=by
   rw[<-e];refine a3S fun i=>?_;rw[a0F,a0F];cases ek:kvs[i]? with
   |none=>rw[a1O (by rw[<-l1];exact List.getElem?_eq_none_iff.mp ek)];rfl
   |some p=>
    obtain⟨q,ey,p1,_⟩:=a7x rel ek;rw[ey];exact a1W some p1.symm
  rw[z1]at nd;exact(a5Q.mp nd).imp fun h z=>h (a1W nk z)
theorem b3t{as:As}{es:Array DictEntry}{acc:AV}(is: ∀(i:Nat) (en:DictEntry),es[i]? =some en-> ∃a,as[i]? =some a/\en.key= .ref a)(ln:as.length=es.size)(it:ItemsOf (fun i v=> ∃en,es[i]? =some en/\v=en.key) acc es.size):acc.toList=as.map Value.ref:=by
 refine a3S fun i=>?_;by_cases h:i<es.size
 ·obtain⟨v,ev⟩: ∃v,acc[i]? =some v:=⟨_,a1R (by rw[it.1];exact h)⟩;obtain⟨en,e1,e2⟩:=it.2 i v ev;obtain⟨a,ea,ek⟩:=is i en e1;rw[a2C,ev,a0F,ea,e2,ek];rfl
 ·rw[a1O (by rw[a0P,it.1];lia),a1O (by rw[a0C];lia)]
theorem a6l: ∀l:As,Vals (l.map V.ref) (l.map Value.ref)
 | []=> .nil
 |x::l=> .cons rfl (a6l l)
end
section
variable{X:Cx}
def c7z(g:Nsq->Int):List V->Hp->VK->Prop:=fun xs H Q=> ∃d kvs ts,xs=[V.ref d]/\H d=some (.dT kvs)/\kvs.map (·.1)=ts.map nk/\ts.length<64/\
 ∀D bs us H',Same H H'->H D=none->H' D=some (.lst (bs.map V.ref))->TupsAt H' bs us->us.Perm ts->us.Pairwise (fun x y=>a3s g x y=true)->Q (.ref D) H'
theorem b1x{as:As}{p:Array Nat}(ar:Arr as.length p):a2p (as.map Value.ref) p=(p.toList.map fun i=>as.getD i 0).map Value.ref:=by
 unfold a2p;rw[a3X];refine a4E fun i hi=>?_;have li:i<as.length:=by
  have m:=(a2H.mp ar).mem_iff.mp hi;simpa using m
 show(as.map Value.ref).getD i Value.none=Value.ref (as.getD i 0);rw[a0I,a0I,a0F,a0A li];rfl
theorem b7p{kk:Nat}{f:Ad}{fd:Fd}{ps:Ss}{g:Nsq->Int}{za:AO}{σ:St}{H:Hp}{s:Sh}{Q:VK}{d:Ad}(hc:X.calm=true)(hu:X.A.units+64<cLine)(F:FnOk X.prog X.w X.K X.mg X.base CX0 kk f fd ps (c3x g))(hr:Room kk X.A.in1.in1)(hb:Binds X.K fd ps [])(I:Inv X za σ H s)
  (h:c7z g [.ref d] H Q):wpAny (model X.prog X.w) X.A (call (.builtin "sorted") [.ref d] [(Str.ofString "key",.ref f)]) (EP X za σ Q) X.xe s:=by
 obtain⟨d',kvs,ts,e0,hd,e,h64,q⟩:=h;cases e0;obtain⟨as,es,ep,L,nm,T,is,le,nd,fit⟩:=b7o I hd e;refine call_function_entry_kw kind_sorted plain_sorted entry_sorted (ksk_s1 _ _) ?_;unfold Builtin.«sorted»;refine a0D (m:=checkCount "sorted" 1 1 _) (a0G ?_);refine a0D (kdu_collect (A:=X.A.in1) (srcK nm) (by simpa using I.ok.hd hc) L (by lia) fun h1 tk acc keep it=>?_);have ea:=b3t is (by rw[T.len,le]) it;rw[ea];have I1:Inv X za σ H {s with heap:=h1,toks:=tk}:=I.kept keep;refine a0D (a8Z ?_ (by rw[a0C,T.len,a0Y];lia));have eD:(h1.push (seqObj "list" (as.map Value.ref).toArray 0)).get? h1.objs.size=some (seqObj "list" (as.map Value.ref).toArray 0):=a0X _ rfl;have I2:Inv X za σ H {s with heap:=h1.push (seqObj "list" (as.map Value.ref).toArray 0),toks:=tk}:=I1.kept (t':=tk) fun b o z=>a0H _ z;have hD:H h1.objs.size=none:=I1.hok.fresh (a0K _);have fD:FpOk X za H h1.objs.size:=I1.fpOk (a0K _) hD;refine a0D (a2T (wpAny_call_entry_kw slot_list_sort ⟨_,eD,rfl⟩ b0H (c3y (s:={s with heap:=h1.push (seqObj "list" (as.map Value.ref).toArray 0),toks:=tk}) F hr hb hu I2 T nd h64 eD fD fun H2 p s2 c Iz gg ar up e2 f2=>⟨_,rfl,?_⟩) (ksk_l1 _ _)));have arA:Arr as.length p:=by rw[T.len];exact ar
 rw[b1x arA]at e2;have T2:=(T.same gg).pick ar;obtain⟨w0,w1,w2,w3,w4,w5⟩:=f2;have few:((p.toList.map fun i=>as.getD i 0).map V.ref).length<=sizeLine:=by
  rw[a0C,a0C,a0P,ar.size];exact fit
 have I5:=Iz.track (o:= .lst ((p.toList.map fun i=>as.getD i 0).map V.ref)) w0 ⟨few,_,c,a6l _,e2⟩ (a1C I1.sz (a0K _)) w1 w4 w5;have k5:=a0c w0 (.lst ((p.toList.map fun i=>as.getD i 0).map V.ref));exact a0G ⟨_,rfl,.ref h1.objs.size,_,I5,rfl,q _ _ _ _ (gg.trans k5) hD a0a (T2.same k5) (c1l ar) (a9q (a2v g ts) ar up)⟩
def d9h(g:Nsq->Int)(te:TE):TE:=fun σ H Q=>te σ H fun x H1=> ∃d,x= .ref d/\c7z g [.ref d] H1 Q
theorem d2h{kk:Nat}{ps:Ss}{g:Nsq->Int}{fx:Str}{e:Expr}{te:TE}{p p2 kp pos:Pos}(hc:X.calm=true)(hu:X.A.units+64<cLine)(cl:a0u X.prog X.w X.K X.mg X.base fx kk ps (c3x g))(hr:Room (kk+2) X.A)(hg:Gl X "sorted")(hm:X.mg "sorted"=none)(hgf:Gl X fx)(he:PE X e te)
  (hdf:(fx==("__debug__":Str))=false:=by decide) (hs:starEach [e] X.env=[(false,eval e X.env)]:=by rfl):PE X (.Call (.Name "sorted" p) [e] [⟨some "key",.Name fx p2,kp⟩] pos) (d9h g te):=by
 intro za s σ H Q I h;obtain⟨f,fd,F,hmf,hk,hb⟩:=cl;refine a4M (b3d I hg hm boot_sorted ?_);refine callWith_kw ?_ (by rw[hs];rfl) (by rw[hs];rfl);have ha:PA X [e] (a8v te c0r):=a0g he a0i hs;refine thn (ha pos za s σ H (fun vs H1=>match vs with| [x]=> ∃d,x= .ref d/\c7z g [.ref d] H1 Q|_=>False) I h) fun us s1 ⟨vs,H1,I1,r,q⟩=>?_
 match vs,r,q with
 | [x],r,q=>
  obtain⟨d,rfl,q⟩:=q;obtain⟨u,rfl,ru⟩:=a6y r;cases ru;refine kws_cons (b4f I1 hgf hmf (kws_nil ?_) hdf);exact b7p hc hu F hr.in1.in1 hb I1 q
end
end L2
namespace L2
open PySem PySem.Spec PyProof.Rows
section
variable{X:Cx}{za:AO}{σ:St}{H:Hp}{s:Sh}{d:Ad}{kvs:List (List Key×V)}{ts:LN}{o:Obj}
theorem Inv.freeze(I:Inv X za σ H s)(h:H d=some (.dT kvs))(e:s.heap.get? d=some o):Inv X za σ (upd H d (.frz o (.dT kvs))) s:=by
 obtain⟨z,nm,ys,rel,o',es,ep,e1,e2,e3,e4,nd⟩:=(show ObjOk X.prog X.w H s.heap d (.dT kvs)from I.hok d _ h);refine I.write (x:=d) (e:=d) (h':=s.heap) (t':=s.toks) (by rw[h];exact True.intro) (.inl rfl) (fun _ _ _ q=>q) ⟨o,e⟩ ⟨e,z,nm,ys,Paired.mapP rel fun p q r=>⟨r.1,?_,r.2.2⟩,o',es,ep,e1,e2,e3,e4,nd⟩;rw[a0f (nE r.2.1 h)];exact r.2.1
theorem b5a(I:Inv X za σ H s)(h:H d=some (.frz o (.dT kvs)))(e:kvs.map (·.1)=ts.map nk): ∃as es ep,s.heap.get? d=some o/\o.ExactDict/\o.data= .dict es ep/\(d==sysModules)=false/\TupsAt H as ts/\(∀(i:Nat) (en:DictEntry),es[i]? =some en-> ∃a,as[i]? =some a/\en.key= .ref a)/\es.size=ts.length:=by
 obtain⟨e0,z,nm,ys,rel,o',es,ep,e1,e2,e3,e4,nd⟩:=(show ObjOk X.prog X.w H s.heap d (.frz o (.dT kvs))from I.hok d _ h);rw[e0]at e1;cases e1;have l1:kvs.length=ys.length:=a4Z rel;have l2:kvs.length=ts.length:=by rw[<-a0C (f:=(·.1)) (as:=kvs),e,a0C]
 have le:es.size=ys.length:=a9H e4;refine⟨ys.map (·.2.1),es,ep,e0,e2,e3,nm,⟨by rw[a0C];lia,fun i b t eb et=>?_⟩,fun i en ee=>?_,by lia⟩
 ·have li:=(a0B.mp et).1;obtain⟨⟨k,v⟩,ek⟩: ∃p,kvs[i]? =some p:=⟨_,a0A (by lia)⟩;obtain⟨⟨k',y,u⟩,ey,p1,p2,p3⟩:=a7x rel ek;have kk:k=nk t:=by
   have z1:(kvs.map (·.1))[i]? =some k:=by rw[a0F,ek];rfl
   rw[e,a0F,et]at z1;exact(a1X z1).symm
  rw[a0F,ey]at eb;cases eb;have p2':H y=some (.tup (k.map kV)):=p2;rw[kk,a7a]at p2';exact p2'
 ·rw[entry_at e4]at ee;obtain⟨q,eq,rfl⟩:=a0O.mp ee;exact⟨q.2.1,by rw[a0F,eq];rfl,rfl⟩
end
def Itd(d:Ad)(o:Obj):It:=
  ⟨fun i H=> ∃(kvs:List (List Key×V)) (ts:LN) (t:Nsq),H d=some (.frz o (.dT kvs))/\kvs.map (·.1)=ts.map nk/\ts[i]? =some t,
   fun i H x H'=>H'=H/\ ∃a,x= .ref a/\ ∀(kvs:List (List Key×V)) (ts:LN),H d=some (.frz o (.dT kvs))->kvs.map (·.1)=ts.map nk-> ∃t:Nsq,ts[i]? =some t/\H a=some (.tup (t.map nv)),
   fun i H=> ∃kvs,∃ts:LN,H d=some (.frz o (.dT kvs))/\kvs.map (·.1)=ts.map nk/\ts.length<=i⟩
theorem d6i{ts us:LN}(h:ts.map nk=us.map nk):ts=us:=a8x (fun a b e=>c1d e) h
theorem c8a{P:Pg}{w:World}{K:W.Frag}{tg:Expr}{d it:Ad}{o:Obj}{es:Array DictEntry}{ep:Nat}(ne:d≠it)(od:o.data= .dict es ep)(ox:o.ExactDict):Turn P w K tg (Itd d o) [it] it (fun i h=>h.get? it=some (a6h d i es.size ep)) where
 mem:=by simp
 obj:=fun i h st b hb=>by
  have e:b=it:=by simpa using hb
  subst e;exact⟨_,st,fun v z=>by
   have z':Data.fields _=Data.cell v:=z;cases z'⟩
 keep:=fun i h h' st k=>k it (by simp) _ st
 item:=by
  intro X hP hw hK hc i za s σ H E I hf st hg;subst hP hw hK;obtain⟨kvs,ts,t,h1,h2,h3⟩:=hg;obtain⟨as,es',ep',e1,e2,e3,nm,T,is,le⟩:=b5a I h1 h2;rw[od]at e3;cases e3;obtain⟨f0,f1,f2,f3,f4,f5⟩:=hf it (by simp);have li:=(a0B.mp h3).1;obtain⟨en,ee⟩: ∃en,es[i]? =some en:=⟨_,a1R (by lia)⟩;obtain⟨a,ea,ek⟩:=is i en ee;refine b7j st ⟨o,e1,ox,od⟩ ee fun h' st' sb=>?_;have I1:Inv X za σ H {s with heap:=h'}:=I.turned (t':=s.toks) (fun b o hb e=>(sb.2 b hb).trans e) f0 f1 f3 f4 f5;refine⟨_,rfl,d0o (s:={s with heap:=h'}) (n:="dict_keyiterator") st' rfl rfl (by decide) ⟨.ref a,H,I1,ek,⟨rfl,a,rfl,fun kvs' ts' g1 g2=>?_⟩,st',fun b hb=>(hf b hb).1⟩⟩;rw[h1]at g1;cases g1;have tt:=d6i (h2.symm.trans g2);subst tt;exact⟨t,h3,T.is i a t ea h3⟩
 done:=by
  intro X hP hw hK hc i za s σ H E I hf st hg;subst hP hw hK;obtain⟨kvs,ts,h1,h2,h3⟩:=hg;obtain⟨as,es',ep',e1,e2,e3,nm,T,is,le⟩:=b5a I h1 h2;rw[od]at e3;cases e3;obtain⟨f0,f1,f2,f3,f4,f5⟩:=hf it (by simp);exact c1i (I.ok.hd hc) st ⟨o,e1,ox,od⟩ (a7Z (by lia)) fun h' eb=>⟨rfl,I.turned (t':=s.toks) (fun b o hb e=>eb b o hb e) f0 f1 f3 f4 f5⟩
 self:=fun _ i s Q E st q=>by
  have ty:s.TypeIs (.ref it) "dict_keyiterator":=⟨_,st,rfl⟩;refine a5P ty a4T (a2N a4T ty a8R ?_ (a8L _));exact show wpAny _ _ (ret (.ref it)) _ _ s from a0G ⟨_,rfl,"dict_keyiterator",_,ty,a2X.lookup,q⟩
section
variable{X:Cx}{tg:Expr}
def d9i(H:Hp)(d:Ad)(o:Obj)(kvs:List (List Key×V))(H2:Hp):Prop:=(H d=some (.frz o (.dT kvs))/\H2=H)∨(H d=some (.dT kvs)/\H2=upd H d (.frz o (.dT kvs)))
def iDict(td:TE):TI:=fun σ H R=>td σ H fun x H1=> ∃d kvs,∃ts:LN,x= .ref d/\kvs.map (·.1)=ts.map nk/\(H1 d=some (.dT kvs)∨ ∃o,H1 d=some (.frz o (.dT kvs)))/\ ∀o H2,d9i H1 d o kvs H2->R (Itd d o) H2
theorem c8b{l:Expr}{tl:TE}(hl:PE X l tl):PI X tg l (iDict tl):=by
 intro za s σ H R I h;refine thn (hl za s σ H _ I h) fun v s1 ⟨x,H1,I1,r1,q1⟩=>?_;obtain⟨d,kvs,ts,e,ek,w,q⟩:=q1;subst e;cases r1;have go: ∀(H2:Hp) (o:Obj),Inv X za σ H2 s1->H2 d=some (.frz o (.dT kvs))->R (Itd d o) H2->wpAny (model X.prog X.w) X.A (pyIter (.ref d)) (PIE X za σ tg R) X.xe s1:=fun H2 o I2 hd r=>by
  obtain⟨as,es,ep,e1,e2,e3,nm,T,is,le⟩:=b5a I2 hd ek;refine b7k nm ⟨o,e1,e2,e3⟩ ?_;refine⟨s1.heap.objs.size,[s1.heap.objs.size],_,_,H2,rfl,I2.kept (t':=s1.toks) fun b o e=>a0H _ e,c8a (a1M (a0U e1)) e3 e2,a0X _ rfl,fun b hb=>?_,r⟩;have e:b=s1.heap.objs.size:=by simpa using hb
  subst e;exact I2.fpOk (a0K _) (I2.hok.fresh (a0K _))
 rcases w with hd|⟨o,hd⟩
 ·obtain⟨_,_,_,_,o,_,_,e1,_⟩:=(show ObjOk X.prog X.w H1 s1.heap d (.dT kvs)from I1.hok d _ hd);exact go _ o (I1.freeze hd e1) a0a (q o _ (.inr ⟨hd,rfl⟩))
 ·exact go H1 o I1 hd (q o _ (.inl ⟨hd,rfl⟩))
end
section
variable{d:Ad}{o:Obj}{kvs:List (List Key×V)}{ts:LN}{vs:Ss}{g:TG}{tt:TT}{te:TE}{σ:St}{H:Hp}{Fin:List V->Hp->Prop}
theorem c8c(hk:kvs.map (·.1)=ts.map nk)(Pv:Nat->List V->Hp->Prop)(hz:ts.length<=sizeLine)(h0:Pv 0 [] H)(hl: ∀i ys H,i<=ts.length->Pv i ys H->H d=some (.frz o (.dT kvs))/\ys.length<=i)
  (hs: ∀i a t ys H,ts[i]? =some t->H a=some (.tup (t.map nv))->Pv i ys H->g (.ref a) (a4c vs σ) H fun σ2 H2=>b8y (a4c vs σ) σ2/\tt σ2 H2 fun b H3=>if b=true then te σ2 H3 fun y H4=>Pv (i+1) (ys++[y]) H4 else Pv (i+1) ys H3)
  (hd: ∀ys H,Pv ts.length ys H->Fin ys H):b8z vs g tt te σ (Itd d o) H Fin:=by
 refine⟨fun i m ys H=>m=ts.length-i/\i<=ts.length/\Pv i ys H,⟨ts.length,by simp,Nat.zero_le _,h0⟩,?_⟩;rintro i m ys H ⟨rfl,hi,p⟩;obtain⟨q,hy⟩:=hl i ys H hi p;by_cases hlt:i<ts.length
 ·refine .inr ⟨⟨kvs,ts,ts[i],q,hk,by simp[hlt]⟩,by lia,Pv (i+1),fun zs H' p'=>⟨ts.length-(i+1),Nat.sub_succ_lt_self _ _ hlt,rfl,hlt,p'⟩,fun v H' y=>?_⟩;obtain⟨e,a,ea,y⟩:=y;subst e ea;obtain⟨t,et,ha⟩:=y kvs ts q hk;exact hs i a t ys _ et ha p
 ·have e:i=ts.length:=by lia
  subst e;exact .inl ⟨⟨kvs,ts,q,hk,a0K _⟩,by lia,hd ys H p⟩
end
section
variable{d:Ad}{o:Obj}{kvs:List (List Key×V)}{ts:LN}{g:TG}{tb:TS}{D:Ends}{σ:St}{H:Hp}
theorem d2i(hk:kvs.map (·.1)=ts.map nk)(Pv:Nat->St->Hp->Prop)(h0:Pv 0 σ H)(hl: ∀i σ H,i<=ts.length->Pv i σ H->H d=some (.frz o (.dT kvs)))
  (hs: ∀i a t σ H,ts[i]? =some t->H a=some (.tup (t.map nv))->Pv i σ H->g (.ref a) σ H fun σ2 H2=>tb {D with nx:=Pv (i+1),ct:=Pv (i+1),bk:=D.nx} σ2 H2) (hd: ∀σ H,Pv ts.length σ H->D.nx σ H):
  ∃W:Nat->Nat->St->Hp->Prop,(∃m,W 0 m σ H)/\ ∀i m σ H,W i m σ H->
   ((Itd d o).stop i H/\D.nx σ H)∨((Itd d o).go i H/\ ∃N:St->Hp->Prop,(∀σ' H',N σ' H'-> ∃m',m'<m/\W (i+1) m' σ' H')/\ ∀x H',(Itd d o).yld i H x H'->g x σ H' fun σ2 H2=>tb {D with nx:=N,ct:=N,bk:=D.nx} σ2 H2):=by
 refine⟨fun i m σ H=>m=ts.length-i/\i<=ts.length/\Pv i σ H,⟨ts.length,by simp,Nat.zero_le _,h0⟩,?_⟩;rintro i m σ H ⟨rfl,hi,p⟩;have q:=hl i σ H hi p;by_cases hlt:i<ts.length
 ·refine .inr ⟨⟨kvs,ts,ts[i],q,hk,by simp[hlt]⟩,Pv (i+1),fun σ' H' p'=>⟨ts.length-(i+1),Nat.sub_succ_lt_self _ _ hlt,rfl,hlt,p'⟩,fun x H' y=>?_⟩;obtain⟨e,a,ea,y⟩:=y;subst e ea;obtain⟨t,et,ha⟩:=y kvs ts q hk;exact hs i a t σ _ et ha p
 ·have e:i=ts.length:=by lia
  subst e;exact .inl ⟨⟨kvs,ts,q,hk,a0K _⟩,hd σ H p⟩
end
section
variable{X:Cx}{za:AO}{σ:St}{H:Hp}{s:Sh}{h':Heap}{t':Nat}
theorem Inv.turnedN{ch:As}(I:Inv X za σ H s)(k: ∀b o,b∉ch->s.heap.get? b=some o->h'.get? b=some o)(hf: ∀b∈ch,FpOk X za H b):Inv X za σ H {s with heap:=h',toks:=t'}:=by
 have nt: ∀b u,H b=some u->b∉ch:=fun b u e hb=>by rw[(hf b hb).1]at e;cases e
 refine I.step (h':=h') (H':=H) (g':=s.gens) (t':=t') (d':=s.drawn) (ch:=ch) (fun b hb=>?_) (fun b o _ _ nc e _=>k b o nc e) (fun b o _ _ nc e _=>⟨o.slots,k b o nc e⟩) (fun b o _ _ n=>n) (fun b o nc e=>⟨o,k b o nc e⟩)
  (fun b xs q=>q) (fun b o u q=>q) (fun b ps q=>⟨#[],by rw[q];simp⟩) (fun m hm=>?_) (fun b u q=>?_) I.bare
 ·obtain⟨_,f1,_,f3,f4,f5⟩:=hf b hb;exact⟨f3,f1,f4,f5⟩
 ·exact hm.at' fun o e=>k _ o (fun hb=>(hf _ hb).2.1 rfl) e
 ·refine(I.hok b u q).stay (fun c o hc e=>k c o ?_ e) (fun _ z=>z) fun _ _ z=>z
  rcases hc with z|z
  ·rw[z];exact nt b u q
  ·exact nt c _ z
end
structure ZipL(h:Heap)(z TI TO i1 i2 t1 t2:Ad)(f0:Vl)(i:Nat):Prop where
 zip:IsZip h z TI TO f0
 ins:IsPair h TI (.ref i1) (.ref i2)
 out: ∃a b,IsPair h TO a b
 one:h.IsListIter i1 t1 i
 two:h.IsListIter i2 t2 i
theorem c3z{n t1 t2:Nat}(h1:t1<n)(h2:t2<n):ZipApart (n+4) (n+2) (n+3) n (n+1) t1 t2:=by
 constructor<;>(intro h;have h':(_:Nat)=_:=h;lia)
theorem c1v{z TO i1 i2 c:Ad}(h:c∉[z,TO,i1,i2]):c≠z/\c≠TO/\c≠i1/\c≠i2:=by
 simp only[List.mem_cons,List.not_mem_nil,or_false,not_or]at h;exact h
def d9j(K:W.Frag)(t1 t2:Ad):It:=
  ⟨fun i H=> ∃xs ys x y,SqL K H t1 xs/\SqL K H t2 ys/\xs[i]? =some x/\ys[i]? =some y,
   fun i H v H'=> ∃T x y,v= .ref T/\H T=none/\H'=upd H T (.tup [x,y])/\(∀xs,SqL K H t1 xs->xs[i]? =some x)/\ ∀ys,SqL K H t2 ys->ys[i]? =some y,
   fun i H=> ∃xs ys,SqL K H t1 xs/\SqL K H t2 ys/\(xs.length<=i∨ys.length<=i)⟩
theorem c8d{P:Pg}{w:World}{K:W.Frag}{elts:List Expr}{x1:Nat}{pos:Pos}{z TI TO i1 i2 t1 t2:Ad}(D:ZipApart z TI TO i1 i2 t1 t2):
  Turn P w K (.Tuple elts x1 pos) (d9j K t1 t2) [z,TI,TO,i1,i2] z (fun i h=>ZipL h z TI TO i1 i2 t1 t2 .none i) where
 mem:=a0T ..
 obj:=fun i h Z b hb=>by
  obtain⟨a0,b0,out⟩:=Z.out;simp only[List.mem_cons,List.not_mem_nil,or_false]at hb
  rcases hb with rfl|rfl|rfl|rfl|rfl
  ·exact⟨_,Z.zip,fun v q=>by cases q⟩
  ·exact⟨_,Z.ins,fun v q=>by cases q⟩
  ·exact⟨_,out,fun v q=>by cases q⟩
  ·obtain⟨o,e,c,d⟩:=Z.one;exact⟨o,e,fun v z=>by rw[d]at z;cases z⟩
  ·obtain⟨o,e,c,d⟩:=Z.two;exact⟨o,e,fun v z=>by rw[d]at z;cases z⟩
 keep:=fun i h h' Z k=>⟨k z (by simp) _ Z.zip,k TI (by simp) _ Z.ins,let⟨a,b,o⟩:=Z.out;⟨a,b,k TO (by simp) _ o⟩,Z.one.at fun o e=>k i1 (by simp) o e,Z.two.at fun o e=>k i2 (by simp) o e⟩
 item:=by
  intro X hP hw hK hc i za s σ H E I hf Z hg;subst hP hw hK;obtain⟨xs,ys,x,y,q1,q2,hx,hy⟩:=hg;obtain⟨its,rv,p1,_⟩:=I.list q1;obtain⟨its2,rv2,p2,_⟩:=I.list q2;obtain⟨u,hu,ru⟩:=rv.get hx;obtain⟨v,hv,rv'⟩:=rv2.get hy;obtain⟨a00,b00,out0⟩:=Z.out;refine wpAny_pyNext_zip_item D Z.zip Z.ins out0 Z.one Z.two p1.isList p2.isList (x:=u) (y:=v) (by simpa using hu) (by simpa using hv) fun h1 c1 c2 c3 c4 pr _ k0=>?_;have k1: ∀c o,c∉[z,TO,i1,i2]->s.heap.get? c=some o->h1.get? c=some o:=fun c o nc e=>let⟨n1,n2,n3,n4⟩:=c1v nc;k0 c o n1 n2 n3 n4 e
  have Z1:ZipL h1 z TI TO i1 i2 t1 t2 (rawInt s.heap.objs.size) (i+1):=⟨c1,k0 _ _ D.TIz D.TITO D.TIi1 D.TIi2 Z.ins,⟨_,_,c2⟩,c3,c4⟩;have sub: ∀b∈[z,TO,i1,i2],b∈[z,TI,TO,i1,i2]:=fun b hb=>by simp only[List.mem_cons,List.not_mem_nil,or_false]at hb⊢;rcases hb with e|e|e|e<;>simp[e]
  have I1:Inv X za σ H {s with heap:=h1}:=I.turnedN (t':=s.toks) k1 fun b hb=>hf b (sub b hb);have nT:H s.heap.objs.size=none:=I.hok.fresh (a0K _);have ok:ObjOk X.prog X.w (upd H s.heap.objs.size (.tup [x,y])) h1 s.heap.objs.size (.tup [x,y]):=⟨by show 2<=sizeLine;decide,[u,v],.cons ru (.cons rv' .nil),⟨_,pr,rfl,_,rfl,rfl⟩⟩;have I2:Inv X za σ (upd H s.heap.objs.size (.tup [x,y])) {s with heap:=h1}:=Inv.trackNew I I1 ok;refine⟨_,rfl,wpAny_letOwnedTupleGo_zip Z1.zip fun h2 z2 sb=>?_⟩;obtain⟨a0,b0,out⟩:=Z1.out;have old: ∀b∈[z,TI,TO,i1,i2],b≠s.heap.objs.size:=fun b hb=>by
   obtain⟨a1,b1,out1⟩:=Z.out;simp only[List.mem_cons,List.not_mem_nil,or_false]at hb
   rcases hb with rfl|rfl|rfl|rfl|rfl
   ·exact a1M (a0U Z.zip)
   ·exact a1M (a0U Z.ins)
   ·exact a1M (a0U out1)
   ·obtain⟨o,e,_⟩:=Z.one;exact a1M (a0U e)
   ·obtain⟨o,e,_⟩:=Z.two;exact a1M (a0U e)
  have none2: ∀b∈[z,TI,TO,i1,i2],upd H s.heap.objs.size (.tup [x,y]) b=none:=fun b hb=>by rw[a0f (old b hb)];exact(hf b hb).1
  obtain⟨f0,f1,f2,f3,f4,f5⟩:=hf z (a0T ..);have I3:Inv X za σ (upd H s.heap.objs.size (.tup [x,y])) {s with heap:=h2}:=I2.turned (t':=s.toks) (fun b o nb e=>sb.extBut b o nb e) (none2 z (a0T ..)) f1 f3 f4 f5;refine⟨.ref s.heap.objs.size,_,I3,rfl,⟨_,x,y,rfl,nT,rfl,fun xs' h=>?_,fun ys' h=>?_⟩,⟨z2,sb.extBut _ _ D.TIz Z1.ins,⟨a0,b0,sb.extBut _ _ D.TOz out⟩,Z1.one.at fun o e=>sb.extBut _ _ D.i1z e,Z1.two.at fun o e=>sb.extBut _ _ D.i2z e⟩,none2⟩
  ·rw[I.list_inj h q1];exact hx
  ·rw[I.list_inj h q2];exact hy
 done:=by
  intro X hP hw hK hc i za s σ H E I hf Z hg;subst hP hw hK;obtain⟨xs,ys,q1,q2,he⟩:=hg;obtain⟨its,rv,p1,_⟩:=I.list q1;obtain⟨its2,rv2,p2,_⟩:=I.list q2;have l1:=rv.length;have l2:=rv2.length;have sub: ∀b∈[z,TO,i1,i2],b∈[z,TI,TO,i1,i2]:=fun b hb=>by simp only[List.mem_cons,List.not_mem_nil,or_false]at hb⊢;rcases hb with e|e|e|e<;>simp[e]
  obtain⟨a00,b00,out0⟩:=Z.out;refine wpAny_pyNext_zip_end (I.ok.hd hc) D Z.zip Z.ins out0 Z.one Z.two p1.isList p2.isList ?_ fun h1 k0=>⟨rfl,I.turnedN (t':=s.toks) (fun c o nc e=>let⟨n1,n2,n3,n4⟩:=c1v nc;k0 c o n1 n2 n3 n4 e) fun b hb=>hf b (sub b hb)⟩
  rcases he with h|h
  ·exact .inl (by simp;lia)
  ·exact .inr (by simp;lia)
 self:=fun _ _ _ _ _ Z q=>wpAny_pyIter_zip Z.zip q
section
variable{X:Cx}
def iZipL(K:W.Frag)(ta:TA):TI:=fun σ H R=>ta σ H fun vs H1=> ∃t1 t2 xs ys,vs=[.ref t1,.ref t2]/\SqL K H1 t1 xs/\SqL K H1 t2 ys/\R (d9j K t1 t2) H1
theorem c8e{elts:List Expr}{x1:Nat}{tp:Pos}{a b:Expr}{ta:TA}{p pos:Pos}(hg:Gl X "zip")(hm:X.mg "zip"=none)(ha:PA X [a,b] ta)(hs:starEach [a,b] X.env=[(false,eval a X.env),(false,eval b X.env)]:=by rfl)
  (hs2:starEach [b] X.env=[(false,eval b X.env)]:=by rfl):PI X (.Tuple elts x1 tp) (.Call (.Name "zip" p) [a,b] [] pos) (iZipL X.K ta):=by
 intro za s σ H R I h;refine Call_ (b3d I hg hm PyProof.Rows.boot_zip (a4X (thn (ha pos za s σ H _ I h) fun us s1 ⟨vs,H1,I1,r1,q1⟩=>?_) (by rw[hs,hs2]) (by rw[hs2];rfl)));obtain⟨t1,t2,xs,ys,e,q1,q2,q⟩:=q1;subst e;obtain⟨u1,us,rfl,ru1,r2⟩: ∃u1 us',us=u1::us'/\RelV (.ref t1) u1/\Vals [.ref t2] us':=by cases r1 with|cons a b=>exact⟨_,_,rfl,a,b⟩
 obtain⟨u2,rfl,ru2⟩:=a6y r2;cases ru1;cases ru2;obtain⟨its,rv,p1,_⟩:=I1.list q1;obtain⟨its2,rv2,p2,_⟩:=I1.list q2;have lt1:t1<s1.heap.objs.size:=let⟨_,e,_⟩:=p1.isList;a0U e
 have lt2:t2<s1.heap.objs.size:=let⟨_,e,_⟩:=p2.isList;a0U e
 refine call_zip_2 p1.isList p2.isList fun h2 c1 c2 c3 c4 c5 _ all=>?_;have Z:ZipL h2 (s1.heap.objs.size+4) (s1.heap.objs.size+2) (s1.heap.objs.size+3) s1.heap.objs.size (s1.heap.objs.size+1) t1 t2 .none 0:=⟨c1,c2,⟨_,_,c3⟩,c4,c5⟩;refine wpAny_pyIter_zip Z.zip ?_;have I2:Inv X za σ H1 {s1 with heap:=h2}:=I1.kept (t':=s1.toks) all;have D:ZipApart (s1.heap.objs.size+4) (s1.heap.objs.size+2) (s1.heap.objs.size+3) s1.heap.objs.size (s1.heap.objs.size+1) t1 t2:=c3z lt1 lt2;refine⟨_,_,_,_,H1,rfl,I2,c8d D,Z,fun b hb=>?_,q⟩;have le:s1.heap.objs.size<=b:=by
  simp only[List.mem_cons,List.not_mem_nil,or_false]at hb
  rcases hb with e|e|e|e|e<;>(rw[e];first|exact a0K _|exact a3P _ _)
 exact I1.fpOk le (I1.hok.fresh le)
end
theorem c1w{K:W.Frag}{t1 t2:Ad}{xs ys:List V}{g:TG}{tb:TS}{D:Ends}{σ:St}{H:Hp}(Pv:Nat->St->Hp->Prop)(h0:Pv 0 σ H)(hl: ∀i σ H,Pv i σ H->SqL K H t1 xs/\SqL K H t2 ys)
  (hs: ∀i x y T σ H,xs[i]? =some x->ys[i]? =some y->H T=none->Pv i σ H->g (.ref T) σ (upd H T (.tup [x,y])) fun σ2 H2=>tb {D with nx:=Pv (i+1),ct:=Pv (i+1),bk:=D.nx} σ2 H2) (hd: ∀σ H,Pv (min xs.length ys.length) σ H->D.nx σ H):
  ∃W:Nat->Nat->St->Hp->Prop,(∃m,W 0 m σ H)/\ ∀i m σ H,W i m σ H->
   ((d9j K t1 t2).stop i H/\D.nx σ H)∨((d9j K t1 t2).go i H/\ ∃N:St->Hp->Prop,(∀σ' H',N σ' H'-> ∃m',m'<m/\W (i+1) m' σ' H')/\ ∀x H',(d9j K t1 t2).yld i H x H'->g x σ H' fun σ2 H2=>tb {D with nx:=N,ct:=N,bk:=D.nx} σ2 H2):=by
 refine⟨fun i m σ H=>m=min xs.length ys.length-i/\i<=min xs.length ys.length/\Pv i σ H,⟨min xs.length ys.length,by simp,Nat.zero_le _,h0⟩,?_⟩;rintro i m σ H ⟨rfl,hi,p⟩;obtain⟨q1,q2⟩:=hl i σ H p;by_cases lt:i<min xs.length ys.length
 ·have l1:i<xs.length:=by lia
  have l2:i<ys.length:=by lia
  refine .inr ⟨⟨xs,ys,xs[i],ys[i],q1,q2,a0A l1,a0A l2⟩,Pv (i+1),fun σ' H' p'=>⟨min xs.length ys.length-(i+1),by lia,rfl,lt,p'⟩,fun v H' z=>?_⟩;obtain⟨T,x,y,rfl,hT,rfl,hx,hy⟩:=z;exact hs i x y T σ H (hx xs q1) (hy ys q2) hT p
 ·have e:i=min xs.length ys.length:=by lia
  exact .inl ⟨⟨xs,ys,q1,q2,by lia⟩,hd σ H (e▸p)⟩
def Ite(K:W.Frag)(l:Ad):It:=
  ⟨fun i H=> ∃xs x,SqL K H l xs/\xs[i]? =some x,
   fun i H v H'=> ∃T x,v= .ref T/\H T=none/\H'=upd H T (.tup [.int (i:Nat),x])/\ ∀xs,SqL K H l xs->xs[i]? =some x,
   fun i H=> ∃xs,SqL K H l xs/\xs.length<=i⟩
def d9k(e it l:Ad)(i:Nat)(h:Heap):Prop:=(∃old,IsEnum h e it (i:Nat) old)/\h.IsListIter it l i
theorem c8f{P:Pg}{w:World}{K:W.Frag}{elts:List Expr}{x1:Nat}{pos:Pos}{e it l:Ad}(ne:e≠it):Turn P w K (.Tuple elts x1 pos) (Ite K l) [e,it] e (fun i h=>d9k e it l i h) where
 mem:=a0T ..
 obj:=fun i h Z b hb=>by
  obtain⟨⟨old,h1⟩,o,h2,h3,h4⟩:=Z;simp only[List.mem_cons,List.not_mem_nil,or_false]at hb
  rcases hb with rfl|rfl
  ·exact⟨_,h1,fun v q=>by cases q⟩
  ·exact⟨_,h2,fun v q=>by rw[h4]at q;cases q⟩
 keep:=fun i h h' Z k=>by
  obtain⟨⟨old,h1⟩,o,h2,h3,h4⟩:=Z;exact⟨⟨old,k e (by simp) _ h1⟩,o,k it (by simp) _ h2,h3,h4⟩
 item:=by
  intro X hP hw hK hc i za s σ H E I hf Z hg;subst hP hw hK;obtain⟨xs,x,q1,hx⟩:=hg;obtain⟨⟨old,h1⟩,h2⟩:=Z;obtain⟨its,rv,pl,_⟩:=I.list q1;obtain⟨u,hu,ru⟩:=rv.get hx;refine wpAny_pyNext_enum_item h1 h2 pl.isList (x:=u) (by simpa using hu) ne fun h' ho hi' hT hs k=>?_;have I1:Inv X za σ H {s with heap:=h',toks:=s.toks+1}:=I.turnedN (ch:=[e,it]) (t':=s.toks+1) (fun b o nb eb=>k b o (fun z=>nb (by simp[z])) (fun z=>nb (by simp[z])) eb) hf;have nT:H s.heap.objs.size=none:=I.hok.fresh (a0K _);have ok:ObjOk X.prog X.w (upd H s.heap.objs.size (.tup [.int (i:Nat),x])) h' s.heap.objs.size (.tup [.int (i:Nat),x]):=⟨by show 2<=sizeLine;decide,[_,u],.cons ⟨_,rfl⟩ (.cons ru .nil),⟨_,hT,rfl,_,rfl,rfl⟩⟩;have I2:Inv X za σ (upd H s.heap.objs.size (.tup [.int (i:Nat),x])) {s with heap:=h',toks:=s.toks+1}:=Inv.trackNew I I1 ok;refine⟨_,rfl,wpAny_letOwnedTupleGo_enum ho fun h3 he3 sb=>?_⟩;have le:e<s.heap.objs.size:=a0U h1;have li:it<s.heap.objs.size:=by obtain⟨_,z,_⟩:=h2;exact a0U z
  have none2: ∀b∈[e,it],upd H s.heap.objs.size (.tup [.int (i:Nat),x]) b=none:=fun b hb=>by
   have nb:b≠s.heap.objs.size:=by
    simp only[List.mem_cons,List.not_mem_nil,or_false]at hb
    rcases hb with rfl|rfl
    ·exact a1M le
    ·exact a1M li
   rw[a0f nb];exact(hf b hb).1
  obtain⟨f0,f1,f2,f3,f4,f5⟩:=hf e (a0T ..);have I3:Inv X za σ (upd H s.heap.objs.size (.tup [.int (i:Nat),x])) {s with heap:=h3,toks:=s.toks+1}:=I2.turned (t':=s.toks+1) (fun b o nb e=>sb.extBut b o nb e) (none2 e (a0T ..)) f1 f3 f4 f5;refine⟨.ref s.heap.objs.size,_,I3,rfl,⟨_,x,rfl,nT,rfl,fun xs' h=>?_⟩,⟨⟨_,he3⟩,?_⟩,none2⟩
  ·rw[I.list_inj h q1];exact hx
  ·obtain⟨o,z1,z2,z3⟩:=hi';exact⟨o,sb.extBut _ _ (a3T ne) z1,z2,z3⟩
 done:=by
  intro X hP hw hK hc i za s σ H E I hf Z hg;subst hP hw hK;obtain⟨xs,q1,he⟩:=hg;obtain⟨⟨old,h1⟩,h2⟩:=Z;obtain⟨its,rv,pl,_⟩:=I.list q1;have l1:=rv.length;refine wpAny_pyNext_enum_end (I.ok.hd hc) h1 h2 pl.isList (by simp;lia) fun h' k=>⟨rfl,?_⟩;exact I.turnedN (ch:=[it]) (t':=s.toks) (fun b o nb eb=>k b o (fun z=>nb (by simp[z])) eb) fun b hb=>hf b (by rw[List.mem_singleton.mp hb];simp)
 self:=fun _ _ _ _ _ Z q=>by
  obtain⟨⟨old,h1⟩,_⟩:=Z;exact wpAny_pyIter_enum h1 q
section
variable{X:Cx}
def iEnum(K:W.Frag)(ta:TA):TI:=fun σ H R=>ta σ H fun vs H1=> ∃l xs,vs=[.ref l]/\SqL K H1 l xs/\R (Ite K l) H1
theorem c8g{elts:List Expr}{x1:Nat}{tp:Pos}{a:Expr}{ta:TA}{p pos:Pos}(hg:Gl X "enumerate")(hm:X.mg "enumerate"=none)(ha:PA X [a] ta)(hs:starEach [a] X.env=[(false,eval a X.env)]:=by rfl):PI X (.Tuple elts x1 tp) (.Call (.Name "enumerate" p) [a] [] pos) (iEnum X.K ta):=by
 intro za s σ H R I h;refine Call_ (b3d I hg hm PyProof.Rows.boot_enumerate (a4X (thn (ha pos za s σ H _ I h) fun us s1 ⟨vs,H1,I1,r1,q1⟩=>?_) (by rw[hs];rfl) (by rfl)));obtain⟨l,xs,e,q1,q⟩:=q1;subst e;obtain⟨u1,rfl,ru1⟩:=a6y r1;cases ru1;obtain⟨its,rv,pl,_⟩:=I1.list q1;have pl':=pl.isList;refine call_enumerate_list pl' fun h' he hi sz k=>wpAny_pyIter_enum he ?_;have I2:Inv X za σ H1 {s1 with heap:=h'}:=I1.kept (t':=s1.toks) k;refine⟨_,_,_,_,H1,rfl,I2,c8f (l:=l) (a5A (a3U _)),⟨⟨_,he⟩,hi⟩,fun b hb=>?_,q⟩;have le:s1.heap.objs.size<=b:=by
  simp only[List.mem_cons,List.not_mem_nil,or_false]at hb
  rcases hb with e|e<;>(rw[e];first|exact a0K _|exact a3P _ _)
 exact I1.fpOk le (I1.hok.fresh le)
end
section
variable{K:W.Frag}{l:Ad}{xs:List V}{g:TG}{tb:TS}{D:Ends}{σ:St}{H:Hp}
theorem c1x(Pv:Nat->St->Hp->Prop)(h0:Pv 0 σ H)(hl: ∀i σ H,i<=xs.length->Pv i σ H->SqL K H l xs)
  (hs: ∀i T x σ H,xs[i]? =some x->H T=none->Pv i σ H->g (.ref T) σ (upd H T (.tup [.int (i:Nat),x])) fun σ2 H2=>tb {D with nx:=Pv (i+1),ct:=Pv (i+1),bk:=D.nx} σ2 H2) (hd: ∀σ H,Pv xs.length σ H->D.nx σ H):
  ∃W:Nat->Nat->St->Hp->Prop,(∃m,W 0 m σ H)/\ ∀i m σ H,W i m σ H->
   ((Ite K l).stop i H/\D.nx σ H)∨((Ite K l).go i H/\ ∃N:St->Hp->Prop,(∀σ' H',N σ' H'-> ∃m',m'<m/\W (i+1) m' σ' H')/\ ∀x H',(Ite K l).yld i H x H'->g x σ H' fun σ2 H2=>tb {D with nx:=N,ct:=N,bk:=D.nx} σ2 H2):=by
 refine⟨fun i m σ H=>m=xs.length-i/\i<=xs.length/\Pv i σ H,⟨xs.length,by simp,Nat.zero_le _,h0⟩,?_⟩;rintro i m σ H ⟨rfl,hi,p⟩;have q:=hl i σ H hi p;by_cases hlt:i<xs.length
 ·refine .inr ⟨⟨xs,xs[i],q,by simp[hlt]⟩,Pv (i+1),fun σ' H' p'=>⟨xs.length-(i+1),Nat.sub_succ_lt_self _ _ hlt,rfl,hlt,p'⟩,fun v H' y=>?_⟩;obtain⟨T,x,rfl,nT,rfl,y⟩:=y;exact hs i T x σ _ (y xs q) nT p
 ·have e:i=xs.length:=by lia
  subst e;exact .inl ⟨⟨xs,q,a0K _⟩,hd σ H p⟩
end
open PySem PySem.Spec PySem.W PyProof.Rows
section
variable{X:Cx}
def c8h:List V->Hp->VK->Prop:=fun xs H Q=> ∃d kvs ts,xs=[V.ref d]/\H d=some (.dT kvs)/\kvs.map (·.1)=ts.map nk/\(∀t∈ts,t≠[])/\ts.length<=4000/\
 ∀D bs us,H D=none->TupsAt H bs us->us.Perm ts->us.Pairwise (fun x y=>ltl x y=true)->Q (.ref D) (upd H D (.lst (bs.map V.ref)))
theorem c4a(hc:X.calm=true):a7r X (.builtin "sorted") c8h:=by
 intro za s σ H xs us Q I rr h;obtain⟨d,kvs,ts,rfl,hd,e,ne,few,q⟩:=h;obtain⟨u,rfl,ru⟩:=a6y rr;cases ru;obtain⟨as,es,ep,L,nm,at0,is,le,nd,fit⟩:=b7o I hd e;refine a6Z kind_sorted plain_sorted entry_sorted (args_sorted1 _) ?_;unfold Builtin.«sorted»;refine a0D (m:=checkCount "sorted" 1 1 _) (a0G ?_);refine a0D (kdu_collect (A:=X.A.in1) (srcK nm) (by simpa using I.ok.hd hc) L (by rw[sizeLine_eq];lia) fun h1 tk acc keep it=>?_);have ea:=b3t is (by rw[at0.len,le]) it;rw[ea];have ln:(as.map Value.ref).length=ts.length:=by rw[a0C,at0.len]
 refine a0D (a8Z ?_ (by rw[ln,a0Y];lia));have T:=c7q ts;have inj:=c1m (d:=([]:Nsq)) T nd;have nda:=d6g at0 nd;have eD:(h1.push (seqObj "list" (as.map Value.ref).toArray 0)).get? h1.objs.size=some (seqObj "list" (as.map Value.ref).toArray 0):=a0X _ rfl;have lt1: ∀{b:Ad} {o:Obj},s.heap.get? b=some o->b≠h1.objs.size:=fun z=>a1M (a0U (keep _ _ z));refine a0D (a2T (a2N slot_list_sort ⟨_,eD,rfl⟩ b0H (d2f (s:={s with heap:=h1.push (seqObj "list" (as.map Value.ref).toArray 0),toks:=tk}) (k:=fun i=>a4f ltl ts (ts.getD i [])) eD (by rw[ln];exact few) nda (fun i j hi hj z=>inj i j (by lia) (by lia) z) (fun h' kp h2=>?_) fun p h' c ar up e kp=>⟨_,rfl,?_⟩) (args_list_sort _)))
 ·have I1:Inv X za σ H {s with heap:=h',toks:=tk}:=I.kept fun b o z=>kp b o (lt1 z) (a0H _ (keep b o z));have z:=d2b (P:=X.prog) (w:=X.w) (A:=X.A.in1.in1) (s:={s with heap:=h',toks:=tk}) ln (by lia) (fun i v t e1 e2=>by
   rw[a0F]at e1;obtain⟨a,ea,rfl⟩:=a0O.mp e1;exact⟨tup_n I1.hok (at0.is i a t ea e2),ne t (a0E e2)⟩)
  refine a3Q z (fun κ s' hk=>⟨hk.1,fun i j C li lj hC=>hk.2 i j C li lj ?_⟩) fun _ _ x=>x;have e:=T.asks (a5k (d:=([]:Nsq)) (show i<ts.length by lia)).2 (a5k (d:=([]:Nsq)) (show j<ts.length by lia)).2;show C (ltl (ts.getD i []) (ts.getD j [])) _;rw[<-e];exact hC
 ·rw[ln]at ar up;have I1:Inv X za σ H {s with heap:=h',toks:=tk}:=I.kept fun b o z=>kp b o (lt1 z) (a0H _ (keep b o z));have I0:Inv X za σ H {s with heap:=h1,toks:=tk}:=I.kept keep;have hD:H h1.objs.size=none:=I0.hok.fresh (a0K _);have at1:=at0.pick ar;obtain⟨f0,f1,f2,f3,f4,f5⟩:=I0.fpOk (b:=h1.objs.size) (H':=H) (a0K _) hD;have arA:Arr as.length p:=by rw[at0.len];exact ar
  rw[b1x arA]at e;have fw:((p.toList.map fun i=>as.getD i 0).map V.ref).length<=sizeLine:=by
   rw[a0C,a0C,a0P,ar.size];exact fit
  exact a0G ⟨_,rfl,.ref h1.objs.size,_,I1.track (o:= .lst ((p.toList.map fun i=>as.getD i 0).map V.ref)) hD ⟨fw,_,c,a6l _,e⟩ I0.sz f1 f4 f5,rfl,q _ _ _ hD at1 (c1l ar) (a9q T ar up)⟩
end
theorem b7q(l:Ad)(items:AV)(n:Nat)(dd:Option Ad)(sl:Array (Option Vl))(x:Vl)(e:Vl->Bool)(j:Nat)(hj:j<items.size)(hit:e items[j]=true)(hno: ∀m (hm:m<items.size),m<j->e items[m]=false):
  Meets (Builtin.«tuple.index» ⟨[.ref l,x],[]⟩)
   (fun A R s=>s.heap.get? l=some {cls:= .type "tuple",dict:=dd,data:= .seq items n,slots:=sl}/\(∀y,y∈items->SeqAt.EqAt A.in1 s y x (e y))/\R (.ok (.ret (.int j s.toks))) {s with toks:=s.toks+1}):=
 .of_wp fun prog w A R s h=>by
  obtain⟨hp,g,d,tk,os⟩:=s;obtain⟨hl,he,h⟩:=h;unfold Builtin.«tuple.index»;simp only[Std.Legacy.Range.forIn_eq_forIn_range'];have es: ∀k:Nat,([:k]:Std.Legacy.Range).size=k:=fun k=>by simp[Std.Legacy.Range.size]
  wp_walk using a3Y hl,wpAny_forIn_list _ (fun rest b s'=>s'=⟨hp,g,d,tk,os⟩/\b=(none,())/\ ∃i,i<=j/\rest=List.range' i (items.size-i)) _
  case h=>exact⟨rfl,rfl,0,a3K _,by rw[es,a9T];rfl⟩
  case turn=>
   rintro i rest b s' ⟨rfl,rfl,i0,hi,hr⟩;have e0:items.size-i0=(items.size-(i0+1))+1:=by lia
   rw[e0,List.range'_succ]at hr;injection hr with h1 h2
   subst h1;have li:i<items.size:=by lia
   rw[a1R li];refine a0D (he _ (Array.getElem_mem li) prog w _ _ ?_);by_cases c:i=j
   ·subst c;rw[hit];exact a0D (a0D (wpAny_mkInt (a0G (a0G (a0G ⟨_,rfl,h⟩)))))
   ·rw[hno i li (by lia)];exact a0G ⟨rfl,rfl,i+1,by lia,h2⟩
  case fin=>
   rintro b s' ⟨rfl,rfl,i,hi,hr⟩;have z:=a1W List.length hr;rw[List.length_range']at z;simp at z;lia
section
variable{X:Cx}
def d6j(K:W.Frag):V->List V->Hp->VK->Prop:=fun x vs H Q=> ∃(l:Ad) (ns:Zs) (i:Int),x= .ref l/\vs=[.int i]/\SqT K H l (ns.map V.int)/\i∈ns/\Q (.int (ns.idxOf i:Nat)) H
theorem c8i:MtR X "tuple.index" (d6j X.K):=by
 intro za s σ H x vs v us Q I rx rv h;obtain⟨l,ns,i,rfl,rfl,hl,hi,q⟩:=h;cases rx;obtain⟨u,rfl,t,rfl⟩:=rv.one;obtain⟨its,r,pl,hz⟩:=I.tuple hl;obtain⟨⟨c1,d1,k1,s1⟩,e,ec,n,ed⟩:=pl;simp only at ec ed;subst ec ed;have ia:IntsAre its ns:=c3g r;have il:=ia.length;have hj:ns.idxOf i<ns.length:=a4N.mpr hi;refine a7I F.slot_tuple_index ⟨_,e,rfl⟩ F.entry_tuple_index (F.args_tuple_index_2 _ _) (b7q l its.toArray n d1 s1 (.int i t) (isInt i) (ns.idxOf i) (by simp only[List.size_toArray];lia) ?_ ?_)
  ⟨e,fun y hy=>(eq_isInt i t ia y (by simpa using hy)).at _ _,⟨.int (ns.idxOf i:Nat),H,I.tok _,⟨_,rfl⟩,q⟩⟩
 ·show isInt i its[ns.idxOf i]=true;rw[isInt_at i ia _ (by lia) hj];simp
 ·intro k hk1 hk2;show isInt i its[k]=false;rw[isInt_at i ia _ (by lia) (by lia)];exact ne_of_lt_idxOf hk2 _
end
def tBMT(r:V->List V->Hp->VK->Prop)(to:TE)(t:TA):TE:=fun σ H Q=>to σ H fun x H1=>(∃p xs,x= .ref p/\H1 p=some (.tup xs))/\t σ H1 fun ys H2=>r x ys H2 Q
theorem d9l{X:Cx}{o e:Expr}{es:List Expr}{to:TE}{t:TA}{name:Str}{apos cpos:Pos}{id:String}{r:V->List V->Hp->VK->Prop}(slot:Slot "tuple" name id)(hty:typeOf (.builtin id)=pure (.type "method_descriptor"))(hm:MtR X id r)(ho:PE X o to)(ha:PA X (e::es) t)
  (hbase:attributeBase o name X.env (eval o X.env)=eval o X.env:=by rfl)
  (hfew:((backTo cpos (starEach (e::es) X.env)).all (fun x=> !x.1)&&(backToKw cpos (keywordEach [] X.env)).all (fun x=>x.1.isSome)&&decide ((e::es).length+([]:List Keyword).length+(if([]:List Keyword).isEmpty then 0 else 1)<30))=true:=by rfl)
  (hline:(apos.endLine==cpos.line)=true:=by rfl) (hs:starEach (e::es) X.env=(false,eval e X.env)::starEach es X.env:=by rfl) (hp:(backTo cpos (starEach es X.env)).any (·.1)=false:=by rfl):
  PE X (.Call (.Attribute o name apos) (e::es) [] cpos) (tBMT r to t):=by
 intro za s σ H Q I h;refine wpAny_Call_method_late hbase hfew hline rfl (thn (ho za s σ H _ I h) fun v s1 ⟨x,H1,I1,r1,⟨p,xs,ex,hx⟩,q1⟩=>?_);subst ex;cases(show v=Value.ref p from r1);obtain⟨_,_,_,ob,e1,e2,_,_,e3⟩:=(show ObjOk X.prog X.w H1 s1.heap p (.tup xs)from I1.hok p _ hx);refine⟨"tuple",id,F.plainAttrs_tuple,slot,hty,⟨ob,e1,e2⟩,fun a ea=>?_,?_⟩
 ·cases ea;exact⟨ob,e1,e3⟩
 have hA:=ha cpos za s1 σ H1 _ I1 q1;rw[hs]at hA⊢;refine a7X (show(false || (backTo cpos (starEach es X.env)).any fun x=>x.1)=false by rw[hp];rfl) (Calls.evalArgs_plain ?_);exact thn hA fun us s2 ⟨vs,H2,I2,r2,q2⟩=>hm za s2 σ H2 (.ref p) vs (.ref p) us Q I2 rfl r2 q2
end L2
namespace L2
open PySem PySem.Spec PyProof.Rows
def NoAs(K:W.Frag)(C:Ad):Ss->Prop
 | []=>True
 |f::fs=>PySem.W.findIn K (.ref C) f=some none/\NoAs K C fs
structure OwnC(K:W.Frag)(C:Ad)(fs:Ss):Prop where
 cl:Cls K C
 na:NoAs K C fs
theorem NoAs.get{K:W.Frag}{C:Ad}{f:Str}: ∀{fs:Ss},NoAs K C fs->f∈fs->NoAttr K C f
 | [],_,h=>nomatch h
 | g::fs,n,h=>by
  rcases a1L.mp h with e|e
  ·subst e;exact n.1
  ·exact NoAs.get n.2 e
theorem OwnC.no{K:W.Frag}{C:Ad}{fs:Ss}(o:OwnC K C fs){f:Str}(h:fs.contains f=true:=by rfl):NoAttr K C f:=o.na.get (a1K.mp h)
theorem NoAs.nil{K:W.Frag}{C:Ad}:NoAs K C []:=True.intro
theorem NoAs.cons{K:W.Frag}{C:Ad}{f:Str}{fs:Ss}(h:PySem.W.findIn K (.ref C) f=some none)(n:NoAs K C fs):NoAs K C (f::fs):=⟨h,n⟩
abbrev b9q(K:W.Frag)(C:Ad)(m q:Str)(st:Stmt)(f:Ad)(fd:Fd):Prop:=PySem.W.findIn K (.ref C) m=some (some (.ref f))/\PySem.W.isFn K (.ref f)=true/\Fun K m q st f fd
def a2h(P:Pg)(w:World)(K:W.Frag)(mg:SV)(base:Heap)(C:Ad)(m:Str)(k:Nat)(ps:Ss)(sp:Sp):Prop:=
 ∃f fd,FnOk P w K mg base CX0 k f fd ps sp/\Meth K C m f/\Binds K fd ps []
def c8j(P:Pg)(w:World)(K:W.Frag)(mg:SV)(base:Heap)(x:Str)(C:Ad)(k:Nat)(ps:Ss)(sp:Sp):Prop:=
 ∃f fd,FnOk P w K mg base CX0 k f fd ps sp/\Mk K C f/\mg x=some (.ref C)/\Binds K fd ps []
theorem a1f{X:Cx}{o e:Expr}{es:List Expr}{ta:TE}{t:TA}{C:Ad}{m:Str}{k:Nat}{ps:Ss}{sp:Sp}{apos pos:Pos}{pl:Sem Bool}(he:PE X o ta)(c:Cls X.K C)(hm:a2h X.prog X.w X.K X.mg X.base C m k ps sp)(hr:Room k X.A)(ha:PA X (e::es) t)
  (hst:starEach (e::es) X.env=(false,eval e X.env)::starEach es X.env:=by rfl) (hpl:(backTo pos (starEach es X.env)).any (·.1)=false:=by rfl)
  (ht:eval (.Call (.Attribute o m apos) (e::es) [] pos) X.env=(do
   let ov <-eval o X.env
   standAt apos.atName
   let(f,first) <-holding [ov] (getMethod ov m pl)
   callWith pos f first (backTo pos (starEach (e::es) X.env)) (backToKw pos (keywordEach [] X.env))):=by rfl):
  PE X (.Call (.Attribute o m apos) (e::es) [] pos) (d0t C m sp [] E0 ta t):=by
 obtain⟨f,fd,F,M,b⟩:=hm;exact d5b he c M F hr b .nil c5t ha hst hpl ht
theorem a5e{X:Cx}{o:Expr}{ta:TE}{C:Ad}{m:Str}{k:Nat}{ps:Ss}{sp:Sp}{apos pos:Pos}{pl:Sem Bool}(he:PE X o ta)(c:Cls X.K C)(hm:a2h X.prog X.w X.K X.mg X.base C m k ps sp)(hr:Room k X.A)
  (ht:eval (.Call (.Attribute o m apos) [] [] pos) X.env=(do
   let ov <-eval o X.env
   standAt apos.atName
   let(f,first) <-holding [ov] (getMethod ov m pl)
   callWith pos f first (backTo pos (starEach [] X.env)) (backToKw pos (keywordEach [] X.env))):=by rfl):
  PE X (.Call (.Attribute o m apos) [] [] pos) (d0t C m sp [] E0 ta c0r):=by
 obtain⟨f,fd,F,M,b⟩:=hm;exact d0u he c M F hr b .nil c5t ht
theorem c1y{X:Cx}{x:Str}{e:Expr}{es:List Expr}{t:TA}{C:Ad}{k:Nat}{ps:Ss}{sp:Sp}{p pos:Pos}(c:c8j X.prog X.w X.K X.mg X.base x C k ps sp)(hr:Room (k+1) X.A)(hg:Gl X x)(ha:PA X (e::es) t)
  (hd:(x==("__debug__":Str))=false:=by decide) (hs:starEach (e::es) X.env=(false,eval e X.env)::starEach es X.env:=by rfl) (hp:(backTo pos (starEach es X.env)).any (·.1)=false:=by rfl):
  PE X (.Call (.Name x p) (e::es) [] pos) (d7v C sp [] E0 t):=by
 obtain⟨f,fd,F,M,m,b⟩:=c;exact d5c M F hr hg m b .nil c5t ha hd hs hp
section
variable{X:Cx}
theorem c1z: ∀{bs:List Bool} {its:Vs},Vals (bs.map V.bl) its->its=bs.map Value.bool
 | [],_,h=>by cases h;rfl
 | b::bs,_,h=>by
  cases h with
  |cons r t=>
   obtain rfl:=r;rw[c1z t];rfl
def d6k:Vl->Bool
 | .bool b=>b
 |_=>false
def d6l(K:W.Frag):V->List V->Hp->VK->Prop:=fun x vs H Q=> ∃(l:Ad) (bs:List Bool),x= .ref l/\vs=[.bl true]/\SqL K H l (bs.map V.bl)/\true∈bs/\Q (.int (bs.idxOf true:Nat)) H
theorem c8k:MtR X "list.index" (d6l X.K):=by
 intro za s σ H x vs v us Q I rx rv h;obtain⟨l,bs,rfl,rfl,hl,hi,q⟩:=h;cases rx;obtain⟨u,rfl,ru⟩:=rv.one;obtain rfl:u=Value.bool true:=ru;obtain⟨its,r,⟨⟨c1,d1,k1,s1⟩,n,e,ec,ed,ek⟩,hz⟩:=I.list hl;simp only at ec ed ek;subst ec ed ek;have ib:=c1z r;subst ib;have hj:bs.idxOf true<bs.length:=a4N.mpr hi;rw[a0C,a0Y]at hz;refine a7I F.slot_list_index ⟨_,e,rfl⟩ F.entry_list_index (F.args_list_index_2 _ _) (SeqAt.list_indexAt l (bs.map Value.bool).toArray n none s1 (.bool true) d6k (bs.idxOf true) (by simp only[List.size_toArray,List.length_map];exact hj) (by lia) ?_ ?_)
  ⟨e,fun y hy=>?_,⟨.int (bs.idxOf true:Nat),H,I.tok _,⟨_,rfl⟩,q⟩⟩
 ·simp[d6k,List.getElem_idxOf hj]
 ·intro k hk1 hk2;have hk:k<bs.length:=by lia
  have z:bs[k]≠true:=fun e=>by
   have y:=List.not_of_lt_findIdx (p:=(· ==true)) (xs:=bs) (i:=k) hk2;rw[e]at y;cases y
  simp only[List.getElem_toArray,List.getElem_map];exact a5S.mpr z
 ·obtain⟨b,_,rfl⟩:=a0R.mp (show y∈bs.map Value.bool by simpa using hy);have z:=SeqAt.EqAt.bool_bool (A:=X.A.in1) (s:=s) b true;rw[show(b==true)=d6k (.bool b) by cases b<;>rfl]at z;exact z
end
end L2
namespace My
open PySem L2 PyProof.Rows
def top(i:Nat):Stmt:=PySem.Challenge.pw_cascade_k56_whole_only_what_is_ahead.main.body.getD i (.Pass ⟨0,0,0,0⟩)
abbrev sWall:Stmt:=top 0
abbrev sLed:Stmt:=top 5
abbrev a7k:Stmt:=top 7
abbrev a3x:Stmt:=top 8
abbrev b5b:Stmt:=top 10
abbrev b5c:Stmt:=top 11
abbrev b5d:Stmt:=top 12
abbrev b0k:Stmt:=top 13
abbrev a1h:Stmt:=top 14
abbrev c8l:Stmt:=top 16
abbrev b5e:Stmt:=top 17
abbrev b1y:Stmt:=top 19
abbrev a9b:Stmt:=top 20
abbrev a6v:Stmt:=top 21
abbrev b7r:Stmt:=top 22
abbrev a5n:Stmt:=top 24
abbrev a6w:Stmt:=top 25
abbrev a5o:Stmt:=top 26
abbrev b0l:Stmt:=top 27
abbrev a2w:Stmt:=top 28
abbrev b5f:Stmt:=top 29
abbrev d6m:Stmt:=top 30
abbrev a5p:Stmt:=top 31
abbrev a4w:Stmt:=top 33
abbrev a4h:Stmt:=top 34
abbrev a1q:Stmt:=top 35
abbrev a9c:Stmt:=top 40
abbrev b5g:Stmt:=top 41
abbrev a5q:Stmt:=top 42
abbrev b9r:Stmt:=top 43
abbrev d7f:Stmt:=top 44
def a2z:Stmt->List Stmt
 | .ClassDef _ _ _ b _ _ _ _ _ _ _=>b
 |_=>[]
abbrev a3h:Stmt:=(a2z (top 37)).getD 0 (.Pass ⟨0,0,0,0⟩)
abbrev a2r:Stmt:=(a2z (top 37)).getD 1 (.Pass ⟨0,0,0,0⟩)
abbrev a3k:Stmt:=(a2z (top 37)).getD 2 (.Pass ⟨0,0,0,0⟩)
abbrev a1t:Stmt:=(a2z (top 37)).getD 3 (.Pass ⟨0,0,0,0⟩)
abbrev a3l:Stmt:=(a2z (top 37)).getD 4 (.Pass ⟨0,0,0,0⟩)
abbrev a3m:Stmt:=(a2z (top 37)).getD 5 (.Pass ⟨0,0,0,0⟩)
abbrev a3i:Stmt:=(a2z (top 37)).getD 6 (.Pass ⟨0,0,0,0⟩)
abbrev a2k:Stmt:=(a2z (top 37)).getD 7 (.Pass ⟨0,0,0,0⟩)
abbrev b0m:Stmt:=(a2z (top 38)).getD 0 (.Pass ⟨0,0,0,0⟩)
abbrev b1z:Stmt:=(a2z (top 38)).getD 1 (.Pass ⟨0,0,0,0⟩)
abbrev a9d:Stmt:=(a2z (top 38)).getD 2 (.Pass ⟨0,0,0,0⟩)
abbrev a6m:Stmt:=(a2z (top 38)).getD 3 (.Pass ⟨0,0,0,0⟩)
abbrev a9e:Stmt:=(a2z (top 38)).getD 5 (.Pass ⟨0,0,0,0⟩)
abbrev b2a:Stmt:=(a2z (top 38)).getD 6 (.Pass ⟨0,0,0,0⟩)
abbrev a8e:Stmt:=(a2z (top 38)).getD 7 (.Pass ⟨0,0,0,0⟩)
theorem rD:FnScope ["machine","room","word","letter"] ["machine","room","word"] (a0e sLed):={}
theorem b7s:FnScope ["things","most"] ["things","most"] (a0e a7k):={}
theorem kA:FnScope ["start","letters","step","most","words","wave","following","thing","letter","found"] ["start","letters","step","most"] (a0e a3x):={}
theorem c8m:FnScope ["rooms"] ["rooms"] (a0e b5b):={}
theorem qR:FnScope ["sets","once","rooms"] ["sets"] (a0e b5c):={}
theorem d2j:FnScope ["one","other"] ["one","other"] (a0e b5d):={}
theorem c8n:FnScope ["machine","rooms","word"] ["machine","rooms","word"] (a0e b0k):={}
theorem b5h:FnScope ["machine","rooms"] ["machine","rooms"] (a0e a1h):={}
theorem d6n:FnScope ["rooms"] ["rooms"] (a0e c8l):={}
theorem d2k:FnScope ["one","other"] ["one","other"] (a0e b5e):={}
theorem qU:FnScope ["machine","words"] ["machine"] (a0e b1y):={}
theorem rA:FnScope ["machine","singles"] ["machine"] (a0e a9b):={}
theorem b9s:FnScope ["part","sets"] ["part","sets"] (a0e a6v):={}
theorem rC:FnScope ["machine","rooms","within"] ["machine","rooms"] (a0e b7r):={}
theorem kU:FnScope ["machine","words","rooms"] ["machine"] (a0e a5n):={}
theorem b9t:FnScope ["words","rooms"] ["words","rooms"] (a0e a6w):={}
theorem kE:FnScope ["words","found","rooms","sets"] ["words"] (a0e a5o):={}
theorem c8o:FnScope ["words","sets","waiting"] ["words","sets","waiting"] (a0e b0l):={}
theorem jX:FnScope ["words","waiting","told","free"] ["words","waiting"] (a0e a2w):={}
theorem qB:FnScope ["machine","words","told","sets","face","ways"] ["machine"] (a0e b5f):={}
theorem d9m:FnScope ["machine","level","k","j"] ["machine","level","k","j"] (a0e d6m):={}
theorem b7t:FnScope ["machine","level","k"] ["machine","level","k"] (a0e a5p):={}
theorem kZ:FnScope ["machine","level","k","letter","there","ends"] ["machine","level","k","letter"] (a0e a4w):={}
theorem jN:FnScope ["machine","level","found","k","letter","turn"] ["machine","level"] (a0e a4h):={}
theorem qQ:FnScope ["machine","level","makers"] ["machine","level"] (a0e a1q):={}
theorem b9u:FnScope ["_law_script","_law_k"] ["_law_script","_law_k"] (a0e a9c):={}
theorem kB:FnScope ["_law_cell","_law_rooms","_law_number","_law_turn_here","_law_k","_law_other","_law_kept"] ["_law_cell","_law_rooms"] (a0e b5g):={}
theorem qD:FnScope ["_law_script","_law_rooms","_law_many"] ["_law_script"] (a0e a5q):={}
theorem kW:FnScope ["_law_parts","_law_cells","_law_cell","_law_step","_law_found","_law_word","_law_number","_law_many","_law_k"] ["_law_parts","_law_cells","_law_cell","_law_step"] (a0e b9r):={}
theorem qJ:FnScope ["_law_script","_law_machine_here","_law_some","_law_parts","_law_cells","_law_cell","_law_n","_law_one","_law_other","_law_letter","_law_found"] ["_law_script"] (a0e d7f):={}
theorem kJ:FnScope ["self","machine","level","k","rooms"] ["self","machine","level"] (a0e a3h):={}
theorem a6n:FnScope ["self"] ["self"] (a0e a2r):={}
theorem a8f:FnScope ["self","here","pair"] ["self","here","pair"] (a0e a3k):={}
theorem a6o:FnScope ["self","here","rooms"] ["self","here","rooms"] (a0e a1t):={}
theorem jY:FnScope ["self","here","there","letter","still_turn","end"] ["self","here","there","letter"] (a0e a3l):={}
theorem a8g:FnScope ["self","deed","turning"] ["self","deed","turning"] (a0e a3m):={}
theorem a7l:FnScope ["self","deed","turning","bringing"] ["self","deed","turning","bringing"] (a0e a3i):={}
theorem a5w:FnScope ["self","deed","pair"] ["self","deed","pair"] (a0e a2k):={}
theorem c8p:FnScope ["self","machine"] ["self","machine"] (a0e b0m):={}
theorem qE:FnScope ["self","found","number","step"] ["self"] (a0e b1z):={}
theorem jR:FnScope ["self","row","pairs","place","step","turning"] ["self","row"] (a0e a9d):={}
theorem kM:FnScope ["self","pairs","row","step","pair"] ["self","pairs"] (a0e a6m):={}
theorem jK:FnScope ["self","pairs","letter","here","there","ends","step","pair","end"] ["self","pairs","letter"] (a0e a9e):={}
theorem c4b:FnScope ["self","row","letter"] ["self","row","letter"] (a0e b2a):={}
theorem kK:FnScope ["self","n","ahead","letter","part","step","pairs","sets","deed","turning"] ["self","n","ahead","letter"] (a0e a8e):={}
def c2a(K:W.Frag):Sp:=fun vs H Q _=> ∃(a:Ad) (ns:Zs) (k:Int),vs=[.ref a,.int k]/\0<=k/\SqL K H a (ns.map V.int)/\ ∀c,Q (.int c) H
variable{P:Pg}{w:World}{K:W.Frag}{mg:SV}{base:Heap}{f:Ad}{fd:Fd}
theorem c4c(F:Fun K "_law_cell_at" "_law_cell_at" a9c f fd)(jC:mg "len"=none):FnOk P w K mg base CX0 1 f fd ["_law_script","_law_k"] (c2a K):=by
 refine F.ok b9u (fun vs H Q E h=>?_) (fun cdv A outer s H vs Q E hr h=>?_)
 ·obtain⟨a,ns,k,rfl,_⟩:=h;rfl
 obtain⟨a,ns,k,rfl,h0,hS,q⟩:=h;refine⟨_,(a0d (a4l (a1p c5h (pv 1) (a0t a0n rfl jC a4C (a0g (pv 0) a0i)) (a2e _)) (a0h (a0s (a0w a1j (pv 0) (pv 1) (fun _ _=>rfl)))) a1v) (a0h (a0s a0l))),?_⟩;refine⟨_,rfl,_,rfl,a,_,rfl,.inl hS,_,_,rfl,rfl,_,rfl,?_⟩;refine c5v (fun c=>?_) (fun c=>?_)
 ·have c':k<((ns.map V.int).length:Nat):=a1V c;rw[a0C]at c';have hk:k.toNat<ns.length:=by lia
  have e:k=((k.toNat:Nat):Int):=by lia
  refine⟨_,rfl,_,rfl,a,_,_,.int (ns.getD k.toNat 0),rfl,rfl,hS,?_,q _⟩;rw[e];exact d8i hk
 ·exact q _
structure Mach(H:Hp)(m:Ad)(ts:LN)(n:Nat):Prop where
 refs: ∃rs:As,H m=some (.tup (rs.map V.ref))/\rs.length=ts.length/\ ∀(i:Nat) r t,rs[i]? =some r->ts[i]? =some t->H r=some (.tup (t.map nv))
 some1:1<=ts.length
 few:ts.length<=4
 n1:1<=n
 n5:n<=5
 each: ∀t∈ts,t.length=n/\ ∀x∈t,x<n
theorem Mach.same{H H':Hp}{m:Ad}{ts:LN}{n:Nat}(M:Mach H m ts n)(g:Same H H'):Mach H' m ts n:=
 ⟨let⟨rs,h1,h2,h3⟩:=M.refs;⟨rs,g _ _ h1,h2,fun i r t e1 e2=>g _ _ (h3 i r t e1 e2)⟩,M.some1,M.few,M.n1,M.n5,M.each⟩
theorem Mach.at{H:Hp}{m:Ad}{ts:LN}{n:Nat}(M:Mach H m ts n){l:Nat}(hl:l<ts.length):
  ∃(rs:As) (r:Ad),H m=some (.tup (rs.map V.ref))/\rs.length=ts.length/\atI (rs.map V.ref) (l:Int)=some (.ref r)/\H r=some (.tup ((ts.getD l []).map nv))/\(ts.getD l []).length=n/\ ∀x∈ts.getD l [],x<n:=by
 obtain⟨rs,h1,h2,h3⟩:=M.refs;have hr:l<rs.length:=by lia
 have e:ts.getD l []=ts[l]:=by rw[a0I,a0A hl];rfl
 rw[e];obtain⟨q1,q2⟩:=M.each ts[l] (a2Y hl);exact⟨rs,rs[l],h1,h2,a1x (by rw[a0F,a0A hr];rfl),h3 l _ _ (by simp[hr]) (by simp[hl]),q1,q2⟩
def a5x(ts:LN)(r:Nat)(word:Nsq):Nat:=word.foldl (fun r l=>(ts.getD l []).getD r 0) r
theorem c8q(ts:LN)(r:Nat)(word:Nsq)(l:Nat):a5x ts r (word++[l])=(ts.getD l []).getD (a5x ts r word) 0:=by
 unfold a5x;rw[a4D];rfl
theorem a5r{H:Hp}{m:Ad}{ts:LN}{n:Nat}(M:Mach H m ts n): ∀(word:Nsq) (r:Nat),r<n->(∀l∈word,l<ts.length)->a5x ts r word<n
 | [],_,hr,_=>hr
 |l::word,r,hr,h=>by
  obtain⟨_,_,_,_,_,_,h5,h6⟩:=M.at (h l (a0T ..));exact a5r M word _ (b1n h6 (by lia)) fun x hx=>h x (a1D _ hx)
def c4d(ts:LN)(n:Nat)(word:Nsq):Nsq:=(List.range n).map fun r=>a5x ts r word
theorem c8r(ts:LN)(n:Nat)(word:Nsq):(c4d ts n word).length=n:=by simp[c4d]
def d4h:Sp:=fun vs H Q _=> ∃(c:Int) (n:Nat),vs=[.int c,nv n]/\1<=n/\n<=5/\
 ∀(ys:Nsq) r H',Same H H'->H' r=some (.tup (ys.map nv))->ys.length=n->(∀y∈ys,y<n)->Q (.ref r) H'
def b7u(K:W.Frag):Sp:=fun vs H Q _=> ∃(a:Ad) (ns:Zs),vs=[.ref a]/\SqL K H a (ns.map V.int)/\ ∀m ts n H',Same H H'->Mach H' m ts n->Q (.ref m) H'
def c2b(H:Hp)(c:Int)(n:Nat)(σ:L2.St)(H':Hp):Prop:=Same H H'/\ ∃(l:Ad) (ys:Nsq) (num:Int) (o1 o2 o3:Option V),σ=[some (.int c),some (nv n),some (.int num),some (.ref l),o1,o2,o3]/\
 H' l=some (.lst (ys.map nv))/\H l=none/\ys.length=n/\ ∀y∈ys,y<n
theorem d6o(F:Fun K "_law_turn" "_law_turn" b5g f fd)(jD:mg "range"=none)(jE:mg "tuple"=none)(qS:mg "list"=none):FnOk P w K mg base CX0 1 f fd ["_law_cell","_law_rooms"] d4h:=by
 refine F.ok kB (fun vs H Q E h=>?_) (fun cdv A outer s H vs Q E hr h=>?_)
 ·obtain⟨c,n,rfl,_⟩:=h;rfl
 obtain⟨c,n,rfl,h1,h5,q⟩:=h;refine⟨_,(a0d (a0p (i:=2) kB.nd rfl (Or.inl rfl) (a1w a7g (pv 0) a0l)) (a0d (a0p (i:=3) kB.nd rfl (Or.inl rfl) (a1i (b4k rfl) rfl qS boot_list (a0g (a1i b1i rfl jD boot_range (a0g (pv 1) a0i)) a0i))) (a0d (a3o a2J rfl (a2s rfl jD (a0g (pv 1) a0i)) (a1c (i:=4) kB.nd rfl (Or.inl rfl)) (a0d (a0p (i:=5) kB.nd rfl (Or.inl rfl) (a1w a5a (pv 2) (pv 1))) (a0d (a0p (i:=2) kB.nd rfl (Or.inl rfl) (a1w a7g (pv 2) (pv 1))) (a0h (a4l (a1p c5h (a1w a5a (pv 0) a0l) a0l (a2e _)) (a0h (c0o (pv 5) (c0n (pv 3) (pv 4) b0a))) (a0h (a4l (a1p c5h (a1w a5a (pv 0) a0l) a0l (a2e _)) (a0d (a0p (i:=6) kB.nd rfl (Or.inl rfl) (a0w a1j (pv 3) (pv 4) (fun _ _=>rfl))) (a0d (c0o (a0w a1j (pv 3) (pv 5) (fun _ _=>rfl)) (c0n (pv 3) (pv 4) b0a)) (a0h (c0o (pv 6) (c0n (pv 3) (pv 5) b0a))))) (a0h (a4l (PW.pt (b3g (a1p d4v (a1w a5a (pv 0) a0l) a0l (a2e _)) (a8t (a1p c5h (pv 4) a0l (a2e _))))) (a0h (c0o (a1w a5a (pv 2) (pv 1)) (c0n (pv 3) (pv 5) b0a))) a1v))))))))) (a0d (c1a (a4l (a1p d4v (a1w a5a (pv 0) a0l) a0l (a2e _)) (a0h (a0p (i:=3) kB.nd rfl (Or.inl rfl) (a1w d8a (a2t (a0g (a1w a5a (a1w a7g (pv 0) a0l) (pv 1)) a0i)) (pv 1)))) a1v)) (a0h (a0s (a1i a1d rfl jE a6V (a0g (pv 3) a0i)))))))),?_⟩;have np:(0:Int)<(n:Int):=by lia
 refine⟨_,rfl,_,_,rfl,rfl,⟨by decide,by decide⟩,?_⟩;refine⟨_,rfl,(n:Int),rfl,fun p1 hp1=>⟨p1,(n:Int),rfl,a0a,by lia,by lia,fun l hl=>?_⟩⟩;have g1:=(a0c hp1 (.rng 0 (n:Int))).trans (a0c hl (.lst (a5b (n:Int).toNat)));have s1: ∀num,c2b H c n [some (.int c),some (nv n),some (.int num),some (.ref l),none,none,none] (upd (upd H p1 (.rng 0 (n:Int))) l (.lst (a5b (n:Int).toNat))):=
  fun num=>⟨g1,l,List.range n,num,none,none,none,rfl,by rw[a0a];rfl,(a0c hp1 _).free hl,by simp,fun y hy=>List.mem_range.mp hy⟩
 refine⟨_,rfl,(n:Int),rfl,by lia,by lia,a7q (fun i σ H'=>c2b H c n σ H') (s1 _) (fun i σ H' hi p=>?_) (fun σ H' p=>?_)⟩
 ·obtain⟨g,l,ys,num,o1,o2,o3,rfl,el,hl,hyl,hy⟩:=p;have hi':i<n:=by lia
  have e0:(0+(i:Int))=((i:Nat):Int):=by lia
  obtain⟨m1,m2⟩:=mod_nv num h1;obtain⟨m3,m4⟩:=mod_nv (num/ (n:Int)) h1;refine⟨_,rfl,_,rfl,_,_,rfl,rfl,np,?_⟩
  try dsimp only
  rw[m1];generalize(num%(n:Int)).toNat=k at m2;refine⟨_,rfl,_,rfl,_,_,rfl,rfl,⟨by lia,by lia⟩,?_⟩;refine⟨_,rfl,_,_,rfl,rfl,(by decide:(0:Int)<6),_,_,rfl,rfl,_,rfl,c5v (fun c1=>?_) (fun c1=>?_)⟩
  ·refine⟨_,rfl,_,rfl,_,rfl,l,_,_,i,rfl,rfl,el,(by rw[e0,a0C];exact b4l (by lia)),?_⟩
   try dsimp only
   rw[c1b];exact⟨a1e g hl,l,_,_,_,_,_,rfl,a0a,hl,by rw[a5L,hyl],c1c hy m2⟩
  refine⟨_,rfl,_,_,rfl,rfl,(by decide:(0:Int)<6),_,_,rfl,rfl,_,rfl,c5v (fun c2=>?_) (fun c2=>?_)⟩
  ·refine⟨_,rfl,_,rfl,l,_,_,_,rfl,rfl,SqL.of el,(by rw[e0];exact b2x (by lia)),?_⟩;refine⟨_,rfl,_,rfl,l,_,_,_,rfl,rfl,SqL.of el,b2x (by lia),_,rfl,_,rfl,l,_,_,i,rfl,rfl,el,(by rw[e0,a0C];exact b4l (by lia)),?_⟩;try dsimp only
   rw[c1b];refine⟨_,rfl,_,rfl,_,rfl,l,_,_,k,rfl,rfl,a0a,(by rw[a0C,a5L];exact b4l (by lia)),?_⟩;try dsimp only
   rw[c1b,d4r];exact⟨a1e g hl,l,_,_,_,_,_,rfl,a0a,hl,by rw[a5L,a5L,hyl],c1c (c1c hy (b1n hy (by lia))) (b1n hy (by lia))⟩
  have stay: ∀o1 o2 o3,c2b H c n [some (.int c),some (nv n),some (.int (num/ (n:Int))),some (.ref l),o1,o2,o3] H':=fun o1 o2 o3=>⟨g,l,ys,_,o1,o2,o3,rfl,el,hl,hyl,hy⟩;refine⟨_,rfl,_,_,rfl,rfl,(by decide:(0:Int)<6),rfl,_,rfl,c5v (fun c3=>?_) (fun c3=>a9l (stay _ _ _))⟩;refine⟨_,rfl,_,_,rfl,rfl,_,rfl,c5v (fun c4=>?_) (fun c4=>stay _ _ _)⟩;refine⟨_,rfl,_,rfl,_,_,rfl,rfl,np,?_⟩
  try dsimp only
  rw[m3];refine⟨_,rfl,_,rfl,l,_,_,k,rfl,rfl,el,(by rw[a0C];exact b4l (by lia)),?_⟩
  try dsimp only
  rw[c1b];exact⟨a1e g hl,l,_,_,_,_,_,rfl,a0a,hl,by rw[a5L,hyl],c1c hy m4⟩
 ·obtain⟨g,l,ys,num,o1,o2,o3,rfl,el,hl,hyl,hy⟩:=p;refine⟨c2b H c n,?_,fun σ4 H4 p4=>?_⟩
  ·refine⟨_,rfl,_,_,rfl,rfl,(by decide:(0:Int)<6),rfl,_,rfl,c5v (fun c5=>?_) (fun c5=>⟨g,l,ys,num,o1,o2,o3,rfl,el,hl,hyl,hy⟩)⟩;obtain⟨m1,m2⟩:=mod_nv (c/6) h1;refine⟨_,rfl,_,_,rfl,rfl,⟨by decide,by decide⟩,_,rfl,_,_,rfl,rfl,np,by show 1<=sizeLine;decide,fun l2 hl2=>?_⟩;have e1:(n:Int).toNat=n:=a1U n;refine⟨_,rfl,l2,_,_,rfl,rfl,a0a,by lia,by lia,by rw[e1,a0Y];show 1 * n<=_;lia,fun l3 hl3=>?_⟩;have e2:(List.replicate (n:Int).toNat [V.int (c/6%(n:Int))]).flatten=(List.replicate n (c/6%(n:Int)).toNat).map nv:=by
    rw[e1,m1,List.map_replicate]
    induction n with
    |zero=>rfl
    |succ n _=>simp[List.replicate_succ]
   refine⟨g.trans ((a0c hl2 _).trans (a0c hl3 _)),l3,List.replicate n (c/6%(n:Int)).toNat,num,_,_,_,rfl,?_,?_,by simp,fun y hy=>?_⟩
   ·rw[a0a];exact a1W (fun z=>some (HO.lst z)) e2
   ·exact(g.trans (a0c hl2 _)).free hl3
   ·rw[List.eq_of_mem_replicate hy];exact m2
  ·obtain⟨g4,l4,ys4,num,o1,o2,o3,rfl,el4,hl4,hyl4,hy4⟩:=p4;exact⟨_,rfl,l4,_,rfl,.inl ⟨SqL.of el4,fun t ht=>q ys4 t _ (g4.trans (a0c ht _)) a0a hyl4 hy4⟩⟩
theorem c4e(F:Fun K "_law_machine" "_law_machine" a5q f fd)(jS:a0u P w K mg base "_law_cell_at" 1 ["_law_script","_law_k"] (c2a K))(qK:a0u P w K mg base "_law_turn" 1 ["_law_cell","_law_rooms"] d4h)
  (jD:mg "range"=none) (jE:mg "tuple"=none):FnOk P w K mg base CX0 3 f fd ["_law_script"] (b7u K):=by
 refine F.ok qD (fun vs H Q E h=>?_) (fun cdv A outer s H vs Q E hr h=>?_)
 ·obtain⟨a,ns,rfl,_⟩:=h;rfl
 obtain⟨a,ns,rfl,hS,q⟩:=h;refine⟨_,(a0d (a0p (i:=1) qD.nd rfl (Or.inr rfl) (a1w a7b a0l (a1w a5a (a0m jS hr.m rfl (a0v (a0b (pv 0) (a0b a0l a0o rfl) rfl))) a0l))) (a0d (a0p (i:=2) qD.nd rfl (Or.inl rfl) (a1w a7b a0l (a1w a5a (a0m jS hr.m rfl (a0v (a0b (pv 0) (a0b a0l a0o rfl) rfl))) a0l))) (a0h (a0s (a1i a1d rfl jE a6V (a0g (a1m (CompSc.to (N:=["_law_script","_law_rooms","_law_many"]) (osc:=a0e a5q) (vs:=["_law_k"]) {}) rfl rfl (a2s rfl jD (a0g (pv 2) a0i)) (fun _ _ _ _=>a2q) (fun _ _ _ _=>(a0m qK hr.m rfl (a0v (a0b (a0m jS hr.m rfl (a0v (a0b (pv 1) (a0b (a1w a7b a0l (pv 0)) a0o rfl) rfl))) (a0b (pv 2) a0o rfl) rfl))))) a0i)))))),?_⟩;refine⟨_,rfl,a,ns,0,rfl,Int.le_refl 0,hS,fun c=>⟨_,_,rfl,rfl,(by decide:(0:Int)<5),_,_,rfl,rfl,?_⟩⟩;obtain⟨n,en,n1,n5⟩: ∃n:Nat,(1+c%5:Int)=(n:Int)/\1<=n/\n<=5:=⟨(1+c%5).toNat,by lia,by lia,by lia⟩
 try dsimp only
 rw[en];refine⟨_,rfl,a,ns,1,rfl,by decide,hS,fun c'=>⟨_,_,rfl,rfl,(by decide:(0:Int)<4),_,_,rfl,rfl,?_⟩⟩;obtain⟨k,ek,k1,k4⟩: ∃n:Nat,(1+c'%4:Int)=(n:Int)/\1<=n/\n<=4:=⟨(1+c'%4).toNat,by lia,by lia,by lia⟩
 try dsimp only
 rw[ek];refine⟨_,rfl,(k:Int),rfl,by lia,by lia,a4a (fun i zs H'=>Same H H'/\ ∃(rs:As) (ts:LN),zs=rs.map V.ref/\rs.length=i/\ts.length=i/\(∀(j:Nat) r t,rs[j]? =some r->ts[j]? =some t->H' r=some (.tup (t.map nv)))/\ ∀t∈ts,t.length=n/\ ∀x∈t,x<n)
  (small (by lia)) ⟨Same.refl _,[],[],rfl,rfl,rfl,(fun j r t e=>wC e (by simp)),(fun t ht=>wC ht (by simp))⟩ (fun i zs H' _ p=>?_) (fun i zs H' hi p=>?_) (fun zs H' p l hl=>?_)⟩
 ·obtain⟨_,rs,ts,rfl,e,_⟩:=p;rw[a0C];lia
 ·obtain⟨g,rs,ts,rfl,hrl,htl,hrt,ht⟩:=p;refine⟨a1l,a4r ?_⟩;refine⟨_,rfl,_,rfl,_,_,rfl,rfl,a,ns,_,rfl,by lia,g.seq hS,fun c=>⟨_,rfl,c,n,rfl,n1,n5,fun ys r H2 g2 e2 hyl hy=>?_⟩⟩;refine⟨g.trans g2,rs++[r],ts++[ys],by simp,by simp[hrl],by simp[htl],fun j r' t' e3 e4=>?_,fun t ht'=>?_⟩
  ·by_cases hj:j<i
   ·rw[a0N (by lia)]at e3 e4;exact g2 _ _ (hrt j r' t' e3 e4)
   ·have hj':j=i:=by
     have:=(a0B.mp e3).1;rw[a0L,hrl]at this;have:j<i+1:=this
     lia
    subst hj';rw[a0M (by lia),hrl,a5D]at e3;rw[a0M (by lia),htl,a5D]at e4;cases e3;cases e4;exact e2
  ·rcases a0Q.mp ht' with z|z
   ·exact ht t z
   ·have e:t=ys:=by simpa using z
    rw[e];exact⟨hyl,hy⟩
 ·obtain⟨g,rs,ts,rfl,hrl,htl,hrt,ht⟩:=p;have g1:=a0c hl (.lst (rs.map V.ref));refine⟨l,_,rfl,.inl ⟨SqL.of a0a,fun m hm=>?_⟩⟩;have g2:=g1.trans (a0c hm (.tup (rs.map V.ref)));have hk:(k:Int).toNat=k:=a1U k;exact q m ts n _ (g.trans g2) ⟨⟨rs,a0a,by lia,fun i r t e1 e2=>g2 _ _ (hrt i r t e1 e2)⟩,by lia,by lia,n1,n5,ht⟩
def d9n(K:W.Frag):Sp:=fun vs H Q _=> ∃(m b:Ad) (ts:LN) (n r:Nat) (word:Nsq),vs=[.ref m,nv r,.ref b]/\Mach H m ts n/\r<n/\SqL K H b (word.map nv)/\(∀l∈word,l<ts.length)/\Q (nv (a5x ts r word)) H
theorem d9o(F:Fun K "led" "led" sLed f fd):FnOk P w K mg base CX0 1 f fd ["machine","room","word"] (d9n K):=by
 refine F.ok rD (fun vs H Q E h=>?_) (fun cdv A outer s H vs Q E hr h=>?_)
 ·obtain⟨m,b,ts,n,r,word,rfl,_⟩:=h;rfl
 obtain⟨m,b,ts,n,r,word,rfl,M,hr',hS,hw,q⟩:=h;refine⟨_,(a0d (a3o a2J rfl (a2a (pv 2)) (a1c (i:=3) rD.nd rfl (Or.inl rfl)) (a0h (a0p (i:=1) rD.nd rfl (Or.inl rfl) (a0w a0x (a0w a0x (pv 0) (pv 3) (fun _ _=>rfl)) (pv 1) (fun _ _=>rfl))))) (a0h (a0s (pv 1)))),?_⟩;refine⟨_,rfl,b,rfl,⟨_,hS⟩,a4n (xs:=word.map nv) (fun i σ H'=>H'=H/\ ∃o,σ=[some (.ref m),some (nv (a5x ts r (word.take i))),some (.ref b),o]) ⟨rfl,none,rfl⟩ (fun i σ H' _ p=>by obtain⟨rfl,_⟩:=p;exact hS) (fun i x σ H' hx p=>?_) (fun σ H' p=>?_)⟩
 ·obtain⟨rfl,o,rfl⟩:=p;rw[a0F]at hx;cases e:word[i]? with
  |none=>rw[e]at hx;cases hx
  | some l=>
   rw[e]at hx;cases hx;obtain⟨rs,rr,h1,h2,h3,h4,h5,h6⟩:=M.at (hw l (a0E e));refine⟨_,rfl,_,rfl,m,_,_,_,rfl,rfl,SqT.of h1,h3,_,rfl,rr,_,_,_,rfl,rfl,SqT.of h4,b2x ?_,rfl,some (nv l),?_⟩
   ·rw[h5];exact a5r M _ _ hr' fun x hx=>hw x (a4R hx)
   ·rw[a2L,e];show _=[some (.ref m),some (nv (a5x ts r (word.take i++[l]))),some (.ref b),some (nv l)];rw[c8q];rfl
 ·obtain⟨rfl,o,rfl⟩:=p;refine⟨_,rfl,?_⟩;rw[a0C,a2B];exact q
def a9s(ts:LN)(rooms word:Nsq):Nsq:=rooms.map fun r=>a5x ts r word
theorem c4f{n:Nat}{xs:Nsq}(n5:n<=5)(h: ∀x∈xs,x<n):a2u xs=(List.range n).filter fun i=>xs.contains i:=by
 unfold a2u;have e:List.range 5=List.range n++(List.range (5-n)).map (n+ ·):=by rw[<-List.range_add];congr 1;lia
 rw[e,a6L];have no:((List.range (5-n)).map (n+ ·)).filter (fun i=>xs.contains i)=[]:=by
  rw[List.filter_eq_nil_iff];intro y hy z;obtain⟨k,_,rfl⟩:=a0R.mp hy;have:=h _ (a1K.mp z);lia
 rw[no,a2I]
theorem b0n{xs:Nsq}{x:Nat}(h:x∈a2u xs):x∈xs:=a1K.mp (a0S.mp h).2
theorem c2c{xs:Nsq}{x:Nat}(h:x∈xs)(h5:x<5):x∈a2u xs:=a0S.mpr ⟨a1Q.mpr h5,a1K.mpr h⟩
theorem d2l(xs:Nsq):(a2u xs).length<=5:=a1C (a1Y _ _) (by simp)
theorem in_nv(i:Nat)(xs:Nsq):inV (nv i) (xs.map nv)=xs.contains i:=by
 unfold inV;rw[b0I]
 induction xs with
 |nil=>rfl
 | cons x xs ih=>
  rw[a7N,List.contains_cons,ih]
  congr 1
  show eqV (.int (x:Int)) (.int (i:Int))=(i==x);by_cases h:x=i
  ·subst h;show((x:Int)==(x:Int))=(x==x);simp
  ·have h2: ¬(x:Int)=(i:Int):=by lia
   have h3: ¬i=x:=by lia
   show((x:Int)==(i:Int))=(i==x);rw[a3J.mpr h2,a3J.mpr h3]
theorem d6p(xs:Nsq):(xs.map nv).all a6a=true:=by
 rw[List.all_map,a6C];intro x _;rfl
def a5f(K:W.Frag):Sp:=fun vs H Q _=> ∃(m p b:Ad) (ts:LN) (n:Nat) (rooms word:Nsq),vs=[.ref m,.ref p,.ref b]/\Mach H m ts n/\SqT K H p (rooms.map nv)/\rooms.length<=5/\(∀r∈rooms,r<n)/\SqL K H b (word.map nv)/\(∀l∈word,l<ts.length)/\
 d8h H ((a2u (a9s ts rooms word)).map nv) Q
theorem c4g(F:Fun K "carried" "carried" b0k f fd)(rE:a0u P w K mg base "led" 1 ["machine","room","word"] (d9n K))(jE:mg "tuple"=none)(kF:mg "sorted"=none)(rF:mg "set"=none):FnOk P w K mg base CX0 3 f fd ["machine","rooms","word"] (a5f K):=by
 refine F.ok c8n (fun vs H Q E h=>?_) (fun cdv A outer s H vs Q E hr h=>?_)
 ·obtain⟨m,p,b,ts,n,rooms,word,rfl,_⟩:=h;rfl
 obtain⟨m,p,b,ts,n,rooms,word,rfl,M,hR,hl5,hr',hS,hw,q⟩:=h;refine⟨_,(a0h (a0s (a1i a1d rfl jE a6V (a0g (a0t (c3r rfl) rfl kF boot_sorted (a0g (a1i (c6w rfl) rfl rF PyProof.Rows.boot_set (a0g (a1m (CompSc.to (N:=["machine","rooms","word"]) (osc:=a0e b0k) (vs:=["room"]) {}) rfl rfl (c5c (pv 1)) (fun _ _ _ _=>a2q) (fun _ _ _ _=>(a0m rE hr.m rfl (a0v (a0b (pv 1) (a0b (pv 0) (a0b (pv 3) a0o rfl) rfl) rfl))))) a0i)) a0i)) a0i)))),?_⟩;have n5:=M.n5;refine⟨_,rfl,p,rfl,⟨_,hR⟩,b9a (f:=fun v=>match v with| .int i=>nv (a5x ts i.toNat word)|v=>v) (by rw[a0C];exact small (by lia)) hR (fun v Q hv q=>?_) (fun l hl=>?_)⟩
 ·obtain⟨r,h1,rfl⟩:=a0R.mp hv;exact⟨_,rfl,_,rfl,_,rfl,m,b,ts,n,r,word,rfl,M,hr' r h1,hS,hw,q⟩
 ·have e:(rooms.map nv).map (fun v=>match v with| .int i=>nv (a5x ts i.toNat word)|v=>v)=(a9s ts rooms word).map nv:=by
   unfold a9s;rw[a3X,a3X];rfl
  try dsimp only
  rw[e];have g1:=a0c hl (.lst ((a9s ts rooms word).map nv));refine⟨l,_,rfl,SqL.of a0a,fun x hx=>?_,fun a ha=>⟨a,_,rfl,a0a,fun o ho=>?_⟩⟩
  ·obtain⟨r,h1,rfl⟩:=a0R.mp hx;have:=a5r M word r (hr' r h1) hw;lia
  ·try dsimp only
   rw[b7c];exact⟨o,_,rfl,.inl ⟨SqL.of a0a,fun t ht=>q t _ (g1.trans ((a0c ha _).trans ((a0c ho _).trans (a0c ht _)))) a0a⟩⟩
def a6p(P:Pg)(w:World)(K:W.Frag)(mg:SV)(base:Heap):Sp:=fun vs H Q _=> ∃(a st:Ad) (fd:Fd) (ps:Ss) (x0:Nsq) (L:Nat) (U:LN) (g:Nsq->Nat->List Nat),
 vs=[.ref a,nv L,.ref st,.non]/\H a=some (.tup (x0.map nv))/\H st=some (b4n st fd)/\x0∈U/\(∀x∈U,∀l,l<L->g x l∈U)/\U.length<=4000/\L<=4000/\FnOk P w K mg base CX0 5 st fd ps (a9o (Same H) U L g)/\Binds K fd ps []/\
 ∀D ws as H',Same H H'->WordsAt H' D ws as->(∀b∈D::as,H b=none)->Told g L x0 ws->Q (.ref D) H'
theorem b2z(F:Fun K "refuse_more" "refuse_more" a7k f fd)(jC:mg "len"=none):FnOk P w K mg base CX0 1 f fd ["things","most"] b0g:=by
 refine F.ok b7s (fun vs H Q E h=>?_) (fun cdv A outer s H vs Q E hr h=>?_)
 ·obtain⟨d,rfl,_⟩:=h;rfl
 obtain⟨d,rfl,q⟩:=h;refine⟨_,(a0h (a4l (PW.pt (b3g (a1p c5i (pv 1) b3c (a2e _)) (a8t (a1p d4w (a0t c6i rfl jC a4C (a0g (pv 0) a0i)) (pv 1) (a2e _))))) (a0h d0m) a1v)),?_⟩;exact⟨_,rfl,rfl,_,rfl,q⟩
theorem c4h{fdv cv:Vl}(F:DefAt K "reached" a3x f fd fdv cv)(kN:a0u P w K mg base "refuse_more" 1 ["things","most"] b0g)(jD:mg "range"=none):FnOk P w K mg base CX0 8 f fd ["start","letters","step","most"] (a6p P w K mg base):=by
 refine F.fnOk kA (fun vs H Q E h=>?_) (fun A outer s H vs Q E h hr=>?_)
 ·obtain⟨a,st,fd,ps,x0,L,U,g,rfl,_⟩:=h;rfl
 obtain⟨a,st,sd,ps,x0,L,U,g,rfl,ha,hst,h0,hU,few,fewL,hF,hB,q⟩:=h;have hu1:=a7s hr;exact⟨_,c3u hr.m ha hst h0 hU few fewL hF hB q,(a0d (a0p (i:=4) kA.nd rfl (Or.inl rfl) (d2a hu1 (pv 0) (a2t a0i))) (a0d (a3f (a0m kN hr.m rfl (a0v (a0b (pv 4) (a0b (pv 3) a0o rfl) rfl)))) (a0d (a0p (i:=5) kA.nd rfl (Or.inl rfl) (a2t (a0g (pv 0) a0i))) (a0d (c0p a2J (c0q (pv 5) (fun _=>rfl)) (a0d (a0p (i:=6) kA.nd rfl (Or.inl rfl) (a2t a0i)) (a0d (a3o a2J rfl (a2a (pv 5)) (a1c (i:=7) kA.nd rfl (Or.inl rfl)) (a0h (a3o a2J rfl (a2s rfl jD (a0g (pv 1) a0i)) (a1c (i:=8) kA.nd rfl (Or.inl rfl)) (a0d (a0p (i:=9) kA.nd rfl (Or.inl rfl) (d1t 2 (pv 2) (a0v (a0b (pv 7) (a0b (pv 8) a0o rfl) rfl)))) (a0h (a4l (b3e (b1e hu1 (pv 9) (pv 4))) (a0d (b1f hu1 (pv 4) (pv 9) (a1w b4m (a5j hu1 (pv 4) (pv 7) (fun _ _=>rfl)) (a2t (a0g (pv 8) a0i))) rfl) (a0d (a3f (a0m kN hr.m rfl (a0v (a0b (pv 4) (a0b (pv 3) a0o rfl) rfl)))) (a0h (a3f (a6z a1P a2D a2E a2b (pv 6) (a0g (pv 9) a0i)))))) a1v)))))) (a0h (a0p (i:=5) kA.nd rfl (Or.inl rfl) (pv 6)))))) (a0h (a0s (pv 4)))))))⟩
def tabsL:List (Str×Pos×Ad):=[("sets_reached.<locals>.<lambda>",(⟨49,40,49,93⟩:Pos),101),("level_group.<locals>.<lambda>",(⟨121,61,121,110⟩:Pos),200)]
theorem d6q:(tabsL.map (·.2.2)).Nodup:=by decide
def Tabs(H:Hp):Prop:= ∀q∈tabsL,TabOk q.1 q.2.1 H q.2.2
theorem _root_.L2.TabOk.most{qual:Str}{pos:Pos}{H H':Hp}{T:Ad}(t:TabOk qual pos H T)(g: ∀b u,(∀kvs,u≠HO.dT kvs)->(∀xs,u≠HO.lst xs)->H b=some u->H' b=some u):TabOk qual pos H' T:=by
 rcases t with t|⟨cc,t1,t2⟩
 ·exact .inl (g _ _ (fun _ e=>nomatch e) (fun _ e=>nomatch e) t)
 ·exact .inr ⟨cc,g _ _ (fun _ e=>nomatch e) (fun _ e=>nomatch e) t1,g _ _ (fun _ e=>nomatch e) (fun _ e=>nomatch e) t2⟩
theorem Tabs.same{H H':Hp}(t:Tabs H)(g:Same H H'):Tabs H':=fun q hq=>(t q hq).same g
theorem Tabs.most{H H':Hp}(t:Tabs H)(g: ∀b u,(∀kvs,u≠HO.dT kvs)->(∀xs,u≠HO.lst xs)->H b=some u->H' b=some u):Tabs H':=fun q hq=>(t q hq).most g
def KeepsBut(T:Ad)(H H':Hp):Prop:= ∀b o,b≠T->H b=some o->H' b=some o
theorem KeepsBut.keeps{T:Ad}{H H':Hp}{ps:AV}(g:KeepsBut T H H')(hT:H T=some (.tbl ps)):Keeps H H':=fun b o hb=>by
 obtain⟨z,nt⟩:=b7h hb;exact g b o (a8s z hT fun e=>nt _ e) z
theorem c2d: ∀{l:List (Str×Pos×Ad)} {p q:Str×Pos×Ad},(l.map (·.2.2)).Nodup->p∈l->q∈l->p.2.2=q.2.2->p=q
 | [],_,_,_,hp,_,_=>nomatch hp
 | r::l,p,q,nd,hp,hq,e=>by
  obtain⟨n1,n2⟩:=a3F.mp nd
  rcases a1L.mp hp with ep|hp
  ·rcases a1L.mp hq with eq|hq
   ·rw[ep,eq]
   ·exact wC (a0R.mpr ⟨q,hq,by rw[<-ep];exact e.symm⟩) n1
  ·rcases a1L.mp hq with eq|hq
   ·exact wC (a0R.mpr ⟨p,hp,by rw[<-eq];exact e⟩) n1
   ·exact c2d n2 hp hq e
theorem Tabs.but{qual:Str}{pos:Pos}{T:Ad}{H H':Hp}{ps:AV}(hq:(qual,pos,T)∈tabsL)(t:Tabs H)(hT:H T=some (.tbl ps))(g:KeepsBut T H H')(h1:TabOk qual pos H' T):Tabs H':=fun q' hq'=>by
 by_cases e:q'.2.2=T
 ·have:=c2d d6q hq' hq e;subst this;exact h1
 ·rcases t q' hq' with t|⟨cc,t1,t2⟩
  ·exact .inl (g _ _ e t)
  ·exact .inr ⟨cc,g _ _ e t1,g _ _ (nE t2 hT) t2⟩
theorem d9p{H:Hp}{T fl cc:Ad}(pos:Pos)(qual:Str)(hT:H T=some (.tbl #[]))(hfl:H fl=none)(hcc:H cc=none)(ne:fl≠cc)(lo:HO):KeepsBut T H (upd (upd (upd H T (.tbl (a4e pos cc))) cc (a7i cc qual)) fl lo)/\
  (upd (upd (upd H T (.tbl (a4e pos cc))) cc (a7i cc qual)) fl lo) T=some (.tbl (a4e pos cc))/\(upd (upd (upd H T (.tbl (a4e pos cc))) cc (a7i cc qual)) fl lo) cc=some (a7i cc qual):=by
 refine⟨fun b o nb z=>?_,?_,?_⟩
 ·rw[a0f (a0j z hfl),a0f (a0j z hcc),a0f nb];exact z
 ·rw[a0f (a0j hT hfl),a0f (a0j hT hcc),a0a]
 ·rw[a0f (a3T ne),a0a]
def a0k(ts:LN)(x:Nsq)(l:Nat):Nsq:=a2u (a9s ts x [l])
def a1n(n:Nat):LN:=((List.range 32).map a1b).filter fun x=>x.all fun r=>decide (r<n)
def a5s(T:Ad)(pos:Pos):Sp:=fun vs H Q _=> ∃(m p:Ad) (ts:LN) (n:Nat) (rooms:Nsq),vs=[.ref m,.ref p]/\Mach H m ts n/\H p=some (.tup (rooms.map nv))/\rooms∈a1n n/\Tabs H/\
 ∀D ws as H',Keeps H H'->Tabs H'->WordsAt H' D ws as->(∀b∈D::as,noT H b=none)->Told (a0k ts) ts.length rooms ws->Q (.ref D) H'
theorem mem_setsU{n:Nat}{x:Nsq}:x∈a1n n↔a2u x=x/\ ∀r∈x,r<n:=by
 unfold a1n;rw[a0S,a0R,a6C];constructor
 ·rintro⟨⟨k,hk,rfl⟩,h⟩;refine⟨?_,fun r hr=>a1V (h r hr)⟩;have z: ∀k:Fin 32,a2u (a1b k)=a1b k:=by decide+kernel
  exact z ⟨k,a1Q.mp hk⟩
 ·rintro⟨h1,h2⟩;refine⟨⟨b1q 0 (a2u x),a1Q.mpr ?_,by rw[b7c,h1];exact h1⟩,fun r hr=>a1A (h2 r hr)⟩;have z: ∀(ns:Nsq) (k:Nat),(∀n∈ns,n<5)->k<32->b1q k ns<32:=by
   intro ns
   induction ns with
   |nil=>intro k _ hk;exact hk
   |cons n ns ih=>intro k h hk;exact ih _ (fun y hy=>h y (a1D _ hy)) (c6n ⟨k,hk⟩ ⟨n,h n (a0T ..)⟩)
  exact z _ 0 (fun n hn=>a1Q.mp (a0S.mp hn).1) (by decide)
theorem b7v(xs:Nsq):a2u (a2u xs)=a2u xs:=by
 unfold a2u;refine a5T fun i hi=>?_;rw[a3D,a1K,a1K,a0S,a1K];exact⟨fun h=>h.2,fun h=>⟨hi,h⟩⟩
theorem Mach.noT{H:Hp}{m:Ad}{ts:LN}{n:Nat}(M:Mach H m ts n):Mach (L2.noT H) m ts n:=
 ⟨let⟨rs,h1,h2,h3⟩:=M.refs;⟨rs,nU h1,h2,fun i r t e1 e2=>nU (h3 i r t e1 e2)⟩,M.some1,M.few,M.n1,M.n5,M.each⟩
theorem Mach.keeps{H H':Hp}{m:Ad}{ts:LN}{n:Nat}(M:Mach H m ts n)(g:Keeps H H'):Mach H' m ts n:=M.noT.same g
theorem Mach.drop{H:Hp}{m c:Ad}{ts:LN}{n:Nat}{φ:Heap->Prop}(M:Mach H m ts n)(hc:H c=some (.ext φ)):Mach (L2.drop H c) m ts n:=by
 obtain⟨rs,h1,h2,h3⟩:=M.refs;refine⟨⟨rs,?_,h2,fun i r t e1 e2=>?_⟩,M.some1,M.few,M.n1,M.n5,M.each⟩
 ·rw[a1a (nE h1 hc)];exact h1
 ·have z:=h3 i r t e1 e2;rw[a1a (nE z hc)];exact z
theorem c2e{fl c m cc:Ad}{oc:Obj}{ts:LN}{n:Nat}{Hc:Hp}{pm ct:Vl}{params:Arguments}{body:Expr}{scope:Scope}{fx a1 a2:Expr}{kw:List Keyword}{lp cp rp:Pos}(e:a2i a1h=[.Return (some (.Call fx [a1,a2,.Lambda params body scope lp] kw cp)) rp])
  (jH:a0u P w K mg base "carried" 3 ["machine","rooms","word"] (a5f K)) (M:Mach Hc m ts n) (h1:Hc fl=some (b4n fl (a4m "sets_reached.<locals>.<lambda>" params body scope "machine" c pm (.ref cc) ct))) (h2:Hc c=some (a4d c m oc)) (h3:Hc cc=some (a7i cc "sets_reached.<locals>.<lambda>")):
  FnOk P w K mg base CX0 5 fl (a4m "sets_reached.<locals>.<lambda>" params body scope "machine" c pm (.ref cc) ct) ["here","letter"] (a9o (Same Hc) (a1n n) ts.length (a0k ts))/\Binds K (a4m "sets_reached.<locals>.<lambda>" params body scope "machine" c pm (.ref cc) ct) ["here","letter"] []:=by
 cases e;refine⟨d3x (k:=4) (m:=m) (oc:=oc) ⟨rfl,rfl,rfl,by decide+kernel,by decide+kernel,rfl,by decide+kernel⟩ (fun vs H Q E h=>?_) (fun vs H Q E h=>?_) (fun A outer s H vs Q E hr h=>?_),.all fun us hl=>match us,hl with| [_,_],_=>rfl⟩
 ·obtain⟨t,x,l,rfl,_⟩:=h;rfl
 ·obtain⟨t,x,l,rfl,g,_⟩:=h;exact⟨g _ _ h1,g _ _ h2,g _ _ h3⟩
 ·obtain⟨t,x,l,rfl,g,ht,hx,hl,q⟩:=h;refine⟨_,(a0m jH hr.m rfl (a0v (a0b (pv 2) (a0b (pv 0) (a0b (a2t (a0g (pv 1) a0i)) a0o rfl) rfl) rfl))),?_⟩;obtain⟨x1,x2⟩:=mem_setsU.mp hx;have hc:=g _ _ h2;refine⟨_,rfl,_,rfl,_,rfl,by show 1<=sizeLine;decide,fun b hb=>?_⟩;have kb:=a0c hb (.lst [nv l]);have M1:=((M.same g).drop hc).same kb;have ht1:(upd (L2.drop H c) b (.lst [nv l])) t=some (.tup (x.map nv)):=kb _ _ (by rw[a1a (nE ht hc)];exact ht);refine⟨m,t,b,ts,n,x,[l],rfl,M1,SqT.of ht1,by rw[<-x1];exact d2l x,x2,SqL.of a0a,fun z hz=>by rw[a0J.mp hz];exact hl,fun r H3 g3 e3 free=>q r _ (fun y o ho=>?_) ?_⟩
  ·by_cases hy:y=c
   ·subst hy;rw[hc]at ho;cases ho;exact a0a
   ·rw[a0f hy];exact g3 _ _ (kb _ _ (by rw[a1a hy];exact ho))
  ·rw[a0f (a0j e3 free)];exact e3
theorem b2b{cd T:Ad}(F:DefAt K "sets_reached" a1h f fd .none (.ref cd))(hC:PySem.W.CodeHd base cd T)(bm:b4o mg base)(hq:(("sets_reached.<locals>.<lambda>":Str),(⟨49,40,49,93⟩:Pos),T)∈tabsL)(jH:a0u P w K mg base "carried" 3 ["machine","rooms","word"] (a5f K))
  (kR:b4q P w K mg base "reached" 8 ["start","letters","step","most"] (a6p P w K mg base) [.non]) (jC:mg "len"=none):FnOk P w K mg base CX0 10 f fd ["machine","rooms"] (a5s T (⟨49,40,49,93⟩:Pos)):=by
 refine F.fnOk b5h (fun vs H Q E h=>?_) (fun A outer s H vs Q E h hr=>?_)
 ·obtain⟨m,p,ts,n,rooms,rfl,_⟩:=h;rfl
 obtain⟨m,p,ts,n,rooms,rfl,M,hp,hU,hT,q⟩:=h;refine⟨_,?_,(a0h (a0s (b7i kR hr.m rfl (j:=0) rfl rfl rfl rfl (a0v (a0b (pv 1) (a0b (a0t a0n rfl jC a4C (a0g (pv 0) a0i)) (a0b (d4b (qual:="sets_reached.<locals>.<lambda>") rfl hC bm (fun _ _ _ _ _=>rfl) rfl rfl) a0o rfl) rfl) rfl)))))⟩;obtain⟨rs,hm,hrl,_⟩:=M.refs;refine⟨_,rfl,_,rfl,m,_,rfl,.inr (SqT.of hm),?_⟩
 try dsimp only
 rw[a0C,hrl];have go: ∀(fl cc:Ad) (ct:Vl) (H1:Hp) (tps:AV),H T=some (.tbl tps)->KeepsBut T H H1->H1 T=some (.tbl (a4e (⟨49,40,49,93⟩:Pos) cc))->H1 cc=some (a7i cc "sets_reached.<locals>.<lambda>")-> ∀(params:Arguments) (body:Expr) (scope:Scope) (pm:Vl) (c:Ad),H1 fl=some (b4n fl (a4m "sets_reached.<locals>.<lambda>" params body scope "machine" c pm (.ref cc) ct))->
   ∀oc,H1 c=none->(FnOk P w K mg base CX0 5 fl (a4m "sets_reached.<locals>.<lambda>" params body scope "machine" c pm (.ref cc) ct) ["here","letter"] (a9o (Same (upd H1 c (a4d c m oc))) (a1n n) ts.length (a0k ts)))->Binds K (a4m "sets_reached.<locals>.<lambda>" params body scope "machine" c pm (.ref cc) ct) ["here","letter"] []->
   a6p P w K mg base [.ref p,nv ts.length,.ref fl,.non] (upd H1 c (a4d c m oc)) (fun r H2=>H2 c=some (a4d c m oc)/\Q r (L2.drop H2 c)) E0:=fun fl cc ct H1 tps hT0 kb h1 h2 params body scope pm c h3 oc hc hF hB=>by
  have k1:=kb.keeps hT0;have kc:=a0c hc (a4d c m oc);have n5:=M.n5;refine⟨p,fl,_,_,rooms,ts.length,a1n n,a0k ts,rfl,kc _ _ (k1 _ _ (nU hp)),kc _ _ h3,hU,fun x hx l hl=>?_,?_,?_,hF,hB,fun D ws as H2 g2 W nw TT=>⟨g2 _ _ a0a,q D ws as _ (fun b o hb=>?_) (hT.but hq hT0 (fun b o nb hb=>?_) (.inr ⟨cc,?_,?_⟩)) ⟨W.len,?_,fun j a r e1 e2=>?_⟩ (fun b hb=>?_) TT⟩⟩
  ·obtain⟨x1,x2⟩:=mem_setsU.mp hx;refine mem_setsU.mpr ⟨b7v _,fun r hr=>?_⟩;obtain⟨y,h4,rfl⟩:=a0R.mp (b0n hr);exact a5r M [l] y (x2 y h4) fun z hz=>by rw[a0J.mp hz];exact hl
  ·exact a1C (a1Y _ _) (by rw[a0C,a2A];decide)
  ·have:=M.few;lia
  ·have z:=k1 b o hb;rw[a1a (a0j z hc)];exact g2 _ _ (kc _ _ z)
  ·have z:=kb b o nb hb;rw[a1a (a0j z hc)];exact g2 _ _ (kc _ _ z)
  ·rw[a1a (a0j h1 hc)];exact g2 _ _ (kc _ _ h1)
  ·rw[a1a (a0j h2 hc)];exact g2 _ _ (kc _ _ h2)
  ·rw[a1a (nE W.dict (g2 _ _ a0a))];exact W.dict
  ·have z:=W.list j a r e1 e2;rw[a1a (nE z (g2 _ _ a0a))];exact z
  ·have z:=nw b hb;cases y:L2.noT H b with
   |none=>rfl
   |some o=>
    have z2:=kc _ _ (k1 _ _ y);rw[z]at z2;cases z2
 rcases hT _ hq with hT1|⟨cc,hT1,hcc⟩
 ·refine .inl ⟨hT1,fun fl cc ct hfl hcc ne=>⟨m,rfl,fun oc hc=>?_⟩⟩;obtain⟨k1,hT2,hc1⟩:=d9p (⟨49,40,49,93⟩:Pos) "sets_reached.<locals>.<lambda>" hT1 hfl hcc ne _;have kc:=a0c hc (a4d (s.heap.objs.size+1) m oc);obtain⟨F1,F2⟩:=c2e rfl jH ((M.keeps (k1.keeps hT1)).same kc) (kc _ _ a0a) a0a (kc _ _ hc1);exact go fl cc ct _ _ hT1 k1 hT2 hc1 _ _ _ _ _ a0a oc hc F1 F2
 ·refine .inr ⟨cc,hT1,hcc,fun fl ct hfl=>⟨m,rfl,fun oc hc=>?_⟩⟩;have k1: ∀lo,Same H (upd H fl lo):=fun lo=>a0c hfl lo;have kc:=a0c hc (a4d (s.heap.objs.size+1) m oc);obtain⟨F1,F2⟩:=c2e rfl jH ((M.same (k1 _)).same kc) (kc _ _ a0a) a0a (kc _ _ (k1 _ _ _ hcc));exact go fl cc ct _ _ hT1 (fun b o _ hb=>k1 _ _ _ hb) (k1 _ _ _ hT1) (k1 _ _ _ hcc) _ _ _ _ _ a0a oc hc F1 F2
def b5i:Sp:=fun vs H Q _=> ∃n:Nat,vs=[nv n]/\n<=1000/\d8h H ((List.range n).map nv) Q
theorem d2m(F:Fun K "still" "still" c8l f fd)(jE:mg "tuple"=none)(jD:mg "range"=none):FnOk P w K mg base CX0 1 f fd ["rooms"] b5i:=by
 refine F.ok d6n (fun vs H Q E h=>?_) (fun cdv A outer s H vs Q E hr h=>?_)
 ·obtain⟨n,rfl,_⟩:=h;rfl
 obtain⟨n,rfl,hn,q⟩:=h;refine⟨_,(a0h (a0s (a1i (b6y rfl) rfl jE a6V (a0g (a1i b1i rfl jD boot_range (a0g (pv 0) a0i)) a0i)))),?_⟩;refine⟨_,rfl,(n:Int),rfl,fun p hp=>⟨p,(n:Int),rfl,a0a,by lia,by lia,fun t ht=>?_⟩⟩;exact q t _ ((a0c hp _).trans (a0c ht _)) a0a
def beh(xs ys:Nsq):Nsq:=xs.map fun x=>ys.getD x 0
def b0o:Sp:=fun vs H Q _=> ∃(a b:Ad) (xs ys:Nsq),vs=[.ref a,.ref b]/\H a=some (.tup (xs.map nv))/\H b=some (.tup (ys.map nv))/\(∀x∈xs,x<ys.length)/\xs.length<=1000/\d8h H ((beh xs ys).map nv) Q
theorem c8s(F:Fun K "behind" "behind" b5e f fd)(jE:mg "tuple"=none):FnOk P w K mg base CX0 1 f fd ["one","other"] b0o:=by
 refine F.ok d2k (fun vs H Q E h=>?_) (fun cdv A outer s H vs Q E hr h=>?_)
 ·obtain⟨a,b,xs,ys,rfl,_⟩:=h;rfl
 obtain⟨a,b,xs,ys,rfl,ha,hb,hlt,hz,q⟩:=h;refine⟨_,(a0h (a0s (a1i a1d rfl jE a6V (a0g (a1m (CompSc.to (N:=["one","other"]) (osc:=a0e b5e) (vs:=["room"]) {}) rfl rfl (c5c (pv 0)) (fun _ _ _ _=>a2q) (fun _ _ _ _=>(a0w (IxR.k (K:=K) rIxT a0x rfl) (pv 2) (pv 0) (fun _ _=>rfl)))) a0i)))),?_⟩;have e:(xs.map nv).map (fun v=>match v with| .int i=>nv (ys.getD i.toNat 0)|v=>v)=(beh xs ys).map nv:=by
  unfold beh;rw[a3X,a3X];rfl
 refine⟨_,rfl,a,rfl,⟨_,SqT.of ha⟩,b9a (f:=fun v=>match v with| .int i=>nv (ys.getD i.toNat 0)|v=>v) (by rw[a0C];exact small hz) (SqT.of ha) (fun v Q hv q=>?_) (fun p hp=>?_)⟩
 ·obtain⟨x,hx,rfl⟩:=a0R.mp hv;exact⟨_,rfl,_,rfl,b,_,_,_,rfl,rfl,SqT.of hb,b2x (hlt x hx),q⟩
 ·rw[e];exact⟨p,_,rfl,.inl ⟨SqL.of a0a,fun t ht=>q t _ ((a0c hp _).trans (a0c ht _)) a0a⟩⟩
def a8h(n:Nat):Nat->List Nsq
 |0=>[[]]
 |k+1=>(a8h n k).flatMap fun x=>(List.range n).map fun r=>x++[r]
theorem mem_mapsU{n:Nat}: ∀{k:Nat} {x:Nsq},x∈a8h n k↔x.length=k/\ ∀r∈x,r<n
 | 0,x=>by
  show x∈[[]]↔_;rw[a0J];constructor
  ·rintro rfl;exact⟨rfl,fun r hr=>nomatch hr⟩
  ·rintro⟨h,_⟩;exact a2V.mp h
 | k+1,x=>by
  show x∈(a8h n k).flatMap _↔_;rw[List.mem_flatMap];constructor
  ·rintro⟨y,hy,hx⟩;obtain⟨r,hr,rfl⟩:=a0R.mp hx;obtain⟨h1,h2⟩:=mem_mapsU.mp hy;refine⟨by simp[h1],fun z hz=>?_⟩
   rcases a0Q.mp hz with m|m
   ·exact h2 z m
   ·rw[a0J.mp m];exact a1Q.mp hr
  ·rintro⟨h1,h2⟩;have ne:x≠[]:=fun z=>by rw[z]at h1;cases h1
   refine⟨x.dropLast,mem_mapsU.mpr ⟨by rw[List.length_dropLast,h1];rfl,fun r hr=>h2 r (List.dropLast_subset _ hr)⟩,a0R.mpr ⟨x.getLast ne,a1Q.mpr (h2 _ (List.getLast_mem ne)),a9A ne⟩⟩
theorem b7w{n:Nat}: ∀k,(a8h n k).length=n ^ k
 |0=>rfl
 | k+1=>by
  show((a8h n k).flatMap _).length=_;rw[List.length_flatMap];have z: ∀l:LN,(l.map fun x=>((List.range n).map fun r=>x++[r]).length).sum=l.length * n:=by
   intro l
   induction l with
   |nil=>simp
   |cons a l ih=>rw[a2K,List.sum_cons,ih,a0C,a2A,a3E,Nat.succ_mul,b0D]
  rw[z,b7w k,Nat.pow_succ]
theorem c8t{n:Nat}(h:n<=5):(a8h n n).length<=4000:=by
 rw[b7w];have z: ∀k:Fin 6,(k:Nat) ^ (k:Nat)<=4000:=by decide
 exact z ⟨n,by lia⟩
theorem b9v(n:Nat):List.range n∈a8h n n:=mem_mapsU.mpr ⟨a2A,fun r hr=>a1Q.mp hr⟩
def gl(t:Nsq):Int:= -((t.length:Nat):Int)
def a5v(acc:LN)(t:Nsq):LN:=if acc.contains t then acc else acc++[t]
def uniq(ts:LN):LN:=ts.foldl a5v []
theorem c8u(ts:LN)(t:Nsq):uniq (ts++[t])=a5v (uniq ts) t:=by
 unfold uniq;rw[a4D];rfl
theorem c4i{acc:LN}{t x:Nsq}:x∈a5v acc t↔x∈acc∨x=t:=by
 unfold a5v;by_cases h:acc.contains t=true
 ·rw[wB h];constructor
  ·exact .inl
  ·rintro(h1|rfl)
   ·exact h1
   ·exact a1K.mp h
 ·rw[wA h,a0Q,a0J]
theorem b7x{acc:LN}{t:Nsq}(nd:acc.Nodup):(a5v acc t).Nodup:=by
 unfold a5v;by_cases h:acc.contains t=true
 ·rw[wB h];exact nd
 ·rw[wA h,a9W];refine⟨nd,by simp,fun x hx y hy z=>h (List.contains_iff_mem.mpr ?_)⟩;rw[<-a0J.mp hy,<-z];exact hx
theorem b9w(ts:LN):(uniq ts).Nodup/\ ∀x,x∈uniq ts↔x∈ts:=by
 have go: ∀(ts acc:LN),acc.Nodup->(ts.foldl a5v acc).Nodup/\ ∀x,x∈ts.foldl a5v acc↔x∈acc∨x∈ts:=by
  intro ts
  induction ts with
  |nil=>intro acc nd;exact⟨nd,fun x=>by simp⟩
  |cons t ts ih=>
   intro acc nd;obtain⟨h1,h2⟩:=ih (a5v acc t) (b7x nd);refine⟨h1,fun x=>?_⟩;rw[b0C,h2 x,c4i,a1L,or_assoc]
 obtain⟨h1,h2⟩:=go ts [] List.nodup_nil;exact⟨h1,fun x=>by rw[show uniq ts=ts.foldl a5v []from rfl,h2 x];simp⟩
theorem c8v{kvs:List (List Key×V)}{us:LN}{t:Nsq}{v:V}(h:kvs.map (·.1)=us.map nk):(b6t kvs (nk t) v).map (·.1)=(a5v us t).map nk:=by
 have e:(kvs.any fun kv=>decide (kv.1=nk t))=us.contains t:=by
  rw[a3D,a8P,a1K];constructor
  ·rintro⟨kv,h1,h2⟩;have m:kv.1∈us.map nk:=by rw[<-h];exact a0R.mpr ⟨kv,h1,rfl⟩
   obtain⟨u,hu,eu⟩:=a0R.mp m;have z:=c1d (eu.trans (a1V h2));rw[<-z];exact hu
  ·intro ht;have m:nk t∈kvs.map (·.1):=by rw[h];exact a0R.mpr ⟨t,ht,rfl⟩
   obtain⟨kv,h1,h2⟩:=a0R.mp m;exact⟨kv,h1,a1A h2⟩
 unfold b6t a5v;rw[e];by_cases c:us.contains t=true
 ·rw[wB c,wB c,<-h,a3X];refine a4E fun kv _=>?_;show(if kv.1=nk t then(kv.1,v)else kv).1=kv.1;split<;>rfl
 ·rw[wA c,wA c,a1B,a1B,h];rfl
theorem b2c{α:Type}{lt:α->α->Bool}(ir: ∀x,lt x x=false)(tr: ∀x y z,lt x y=true->lt y z=true->lt x z=true): ∀{us vs:List α},us.Pairwise (fun x y=>lt x y=true)->vs.Pairwise (fun x y=>lt x y=true)->(∀x,x∈us↔x∈vs)->us=vs
 | [],[],_,_,_=>rfl
 | [],q::vs,_,_,h=>wC ((h q).mpr (a0T ..)) (by simp)
 |p::us,[],_,_,h=>wC ((h p).mp (a0T ..)) (by simp)
 | p::us,q::vs,h1,h2,h=>by
  obtain⟨p1,p2⟩:=a7T.mp h1;obtain⟨q1,q2⟩:=a7T.mp h2;have no: ∀{x y:α},lt x y=true->lt y x=true->False:=fun {x y} a b=>by
   have:=tr _ _ _ a b;rw[ir]at this;cases this
  have pq:p=q:=by
   rcases a1L.mp ((h p).mp (a0T ..))with e|e
   ·exact e
   ·rcases a1L.mp ((h q).mpr (a0T ..))with e'|e'
    ·exact e'.symm
    ·exact(no (q1 p e) (p1 q e')).elim
  subst pq;have rest:us=vs:=b2c ir tr p2 q2 fun r=>by
   constructor
   ·intro hr
    rcases a1L.mp ((h r).mp (a1D _ hr))with e|e
    ·subst e;have:=p1 r hr;rw[ir]at this;cases this
    ·exact e
   ·intro hr
    rcases a1L.mp ((h r).mpr (a1D _ hr))with e|e
    ·subst e;have:=q1 r hr;rw[ir]at this;cases this
    ·exact e
  rw[rest]
def b7y:Sp:=fun vs H Q _=> ∃(l:Ad) (as:As) (ts U:LN),vs=[.ref l]/\H l=some (.lst (as.map .ref))/\TupsAt H as ts/\(∀t∈ts,t∈U)/\U.length<64/\ts.length<=4000/\
 ∀D bs us H',Same H H'->H D=none->H' D=some (.lst (bs.map .ref))->TupsAt H' bs us->(∀x,x∈us↔x∈ts)->us.Pairwise (fun x y=>a3s gl x y=true)->Q (.ref D) H'
theorem d2n(F:Fun K "place_of" "place_of" b5b f fd)(jC:mg "len"=none):FnOk P w K mg base CX0 1 f fd ["rooms"] (c3x gl):=by
 refine F.ok c8m (fun vs H Q E h=>?_) (fun cdv A outer s H vs Q E hr h=>?_)
 ·obtain⟨a,t,rfl,_⟩:=h;rfl
 obtain⟨a,t,rfl,ha,q⟩:=h;refine⟨_,(a0h (a0s (a4o (a0v (a0b (pe_un d7r (a0t a0n rfl jC a4C (a0g (pv 0) a0i))) (a0b (pv 0) a0o rfl) rfl))))),?_⟩;refine⟨_,rfl,a,_,rfl,.inr (SqT.of ha),_,rfl,_,rfl,by show 2<=sizeLine;decide,fun κ hκ=>?_⟩;refine q κ _ (a0c hκ _) ?_;rw[a0a,a0C];rfl
theorem b9x(F:Fun K "in_order" "in_order" b5c f fd)(qM:a0u P w K mg base "place_of" 1 ["rooms"] (c3x gl))(kF:mg "sorted"=none):FnOk P w K mg base CX0 5 f fd ["sets"] b7y:=by
 refine F.ok qR (fun vs H Q E h=>?_) (fun cdv A outer s H vs Q E hr h=>?_)
 ·obtain⟨l,as,ts,U,rfl,_⟩:=h;rfl
 obtain⟨l,as,ts,U,rfl,hl,T,inU,few,few2,q⟩:=h;have hu:=hr.units;have hu1:=a7s hr;refine⟨_,(a0d (a0p (i:=1) qR.nd rfl (Or.inl rfl) b0c) (a0d (a3o a2J rfl (a2a (pv 0)) (a1c (i:=2) qR.nd rfl (Or.inl rfl)) (a0h (b1f hu1 (pv 1) (pv 2) c4z rfl))) (a0h (a0s (d2h rfl hu qM hr.m rfl kF rfl (pv 1)))))),?_⟩;intro d hd;have kd:=a0c hd (.dT []);have la:=T.len;obtain⟨un,um⟩:=b9w ts;refine⟨_,rfl,l,rfl,⟨_,SqL.of (kd _ _ hl)⟩,a4n (xs:=as.map .ref) (fun i σ H'=>Same H H'/\ ∃kvs o,H' d=some (.dT kvs)/\kvs.map (·.1)=(uniq (ts.take i)).map nk/\σ=[some (.ref l),some (.ref d),o]) ⟨kd,[],none,a0a,rfl,rfl⟩ (fun i σ H' _ p=>SqL.of (p.1 _ _ hl)) (fun i x σ H' hx p=>?_) (fun σ H' p=>?_)⟩
 ·obtain⟨g,kvs,o,ed,ek,rfl⟩:=p;rw[a0F]at hx;obtain⟨a,ea,rfl⟩:=a0O.mp hx;have li:=(a0B.mp ea).1;obtain⟨t,et⟩: ∃t,ts[i]? =some t:=⟨_,a0A (by lia)⟩;have ha:=g _ _ (T.is i a t ea et);have lk:kvs.length<=ts.length:=by
   rw[<-a0C (f:=(·.1)) (as:=kvs),ek,a0C];refine a1C (a7w (b9w _).1 (U:=ts) fun x hx=>?_) (a0K _);exact a4R (((b9w _).2 x).mp hx)
  refine⟨_,rfl,_,rfl,d,_,rfl,DPut.t ed (by rw[a7a];exact ha) (by rw[a0Y];lia),?_⟩;refine⟨a1e g hd,_,_,a0a,?_,rfl⟩;rw[c8v ek,a2L,et];show _=(uniq (ts.take i++[t])).map nk;rw[c8u]
 ·obtain⟨g,kvs,o,ed,ek,rfl⟩:=p;rw[a0C,la,a2B]at ek;have lu:(uniq ts).length<64:=a6J (a7w un fun x hx=>inU x ((um x).mp hx)) few;refine⟨_,rfl,d,rfl,d,kvs,uniq ts,rfl,ed,ek,lu,fun D bs us H2 g2 hD eD T2 perm pw=>?_⟩;exact q D bs us H2 (g.trans g2) (g.free hD) eD T2 (fun x=>(perm.mem_iff).trans (um x)) pw
def PicsAt(H:Hp)(l:Ad)(as:As)(ws:TW):Prop:=H l=some (.lst (as.map .ref))/\as.length=ws.length/\ ∀(j:Nat) (a:Ad) (p:Nsq×Nsq),as[j]? =some a->ws[j]? =some p-> ∃b c,c≠l/\H a=some (.tup [.ref b,.ref c])/\H b=some (.tup (p.1.map nv))/\H c=some (.lst (p.2.map nv))
def b3u(T:Ad)(pos:Pos):Sp:=fun vs H Q _=> ∃(m:Ad) (ts:LN) (n:Nat),vs=[.ref m]/\Mach H m ts n/\Tabs H/\
 ∀l as ws H',Keeps H H'->Tabs H'->PicsAt H' l as ws->Told (a0k ts) ts.length (List.range n) ws->Q (.ref l) H'
def dtN(xs:Nsq):List Dt:=(xs.map fun(n:Nat)=>(n:Int)).map Dt.int
theorem b9y{xs ys:Nsq}(h:dtN xs=dtN ys):xs=ys:=dt_natsT.mp (a1W Dt.tup h)
theorem b2d{n:Nat}(h:n<=5):List.range n∈a1n n:=by
 have z: ∀k:Fin 6,a2u (List.range k)=List.range k:=by decide+kernel
 exact mem_setsU.mpr ⟨z ⟨n,by lia⟩,fun r hr=>a1Q.mp hr⟩
theorem b9z{T:Ad}(F:Fun K "pictures" "pictures" b1y f fd)(kQ:a0u P w K mg base "still" 1 ["rooms"] b5i)(jO:a0u P w K mg base "sets_reached" 10 ["machine","rooms"] (a5s T (⟨49,40,49,93⟩:Pos)))(jC:mg "len"=none)(qS:mg "list"=none):
  FnOk P w K mg base CX0 12 f fd ["machine"] (b3u T (⟨49,40,49,93⟩:Pos)):=by
 refine F.ok qU (fun vs H Q E h=>?_) (fun cdv A outer s H vs Q E hr h=>?_)
 ·obtain⟨m,ts,n,rfl,_⟩:=h;rfl
 obtain⟨m,ts,n,rfl,M,hT,q⟩:=h;have t1:=M.some1;have n5:=M.n5;obtain⟨_,r0,b1,b2,b3,b4,b5,b6⟩:=M.at (l:=0) (by lia);refine⟨_,(a0d (a0p (i:=1) qU.nd rfl (Or.inl rfl) (a0m jO hr.m rfl (a0v (a0b (pv 0) (a0b (a0m kQ hr.m rfl (a0g (a0t a0n rfl jC a4C (a0g (a0w a0x (pv 0) a0l (fun _ _=>rfl)) a0i)) a0i)) a0o rfl) rfl)))) (a0h (a0s (a1i (b1r rfl) rfl qS boot_list (a0g (d7z PySem.F.plainAttrs_dict PySem.F.slot_dict_items PySem.F.type_dict_items d1z (pv 1)) a0i))))),?_⟩;refine⟨_,rfl,_,rfl,m,_,_,_,rfl,rfl,SqT.of b1,b3,r0,_,rfl,.inr (SqT.of b4),?_⟩
 try dsimp only
 rw[a0C,b5];refine⟨n,rfl,by lia,fun st H1 g1 e1=>⟨m,st,ts,n,List.range n,rfl,M.same g1,e1,b2d n5,hT.same g1,fun D ws as H2 k2 T2 W _ TT=>?_⟩⟩;refine⟨_,rfl,.inr (.inr (.inl ⟨rfl,.inr ⟨_,W.dict⟩⟩)),rfl,D,_,rfl,W.dict,fun v hv=>?_⟩;have kv:=a0c hv (c7i v D);refine⟨v,D,_,rfl,a0a,kv _ _ W.dict,fun l ps H3 Ls=>?_⟩;have k3:Same (upd H2 v (c7i v D)) H3:=fun b o hb=>by
  rw[Ls.rest b (a0j hb Ls.new) fun z=>by rw[Ls.news b z]at hb;cases hb];exact hb
 have kk:Same H2 H3:=kv.trans k3;refine q l ps ws H3 ((g1.keeps.trans k2).trans kk.keeps) (T2.same kk) ⟨Ls.lst,by rw[Ls.len,c7j W.len],fun j a p e1 e2=>?_⟩ TT;obtain⟨k,x,b,f1,f2,f3⟩:=Ls.is j a e1;obtain⟨hj,_⟩:=a0B.mp e2;obtain⟨c,ec⟩: ∃c,as[j]? =some c:=⟨_,a0A (by rw[W.len];exact hj)⟩;rw[d8v e2 ec]at f1;cases f1;have hc:=kv _ _ (W.list j c p ec e2);rw[a7a]at f2;exact⟨b,c,a0j hc Ls.new,f3,k3 _ _ f2,k3 _ _ hc⟩
theorem b7z{xs ys:Nsq}(h: ∀r,r∈xs↔r∈ys):a2u xs=a2u ys:=by
 unfold a2u;refine a5T fun i _=>?_;rw[a3D,a1K,a1K];exact h i
theorem a5g{H:Hp}{m:Ad}{ts:LN}{n:Nat}(M:Mach H m ts n){x:Nsq}{l:Nat}(hx:x∈a1n n)(hl:l<ts.length):a0k ts x l∈a1n n:=by
 obtain⟨x1,x2⟩:=mem_setsU.mp hx;refine mem_setsU.mpr ⟨b7v _,fun r hr=>?_⟩;obtain⟨y,h4,rfl⟩:=a0R.mp (b0n hr);exact a5r M [l] y (x2 y h4) fun z hz=>by rw[a0J.mp hz];exact hl
theorem a8i{H:Hp}{m:Ad}{ts:LN}{n:Nat}(M:Mach H m ts n): ∀(word:Nsq) (x:Nsq),x∈a1n n->(∀l∈word,l<ts.length)->a2l (a0k ts) x word=a2u (a9s ts x word)
 | [],x,hx,_=>by
  show x=a2u (x.map fun r=>a5x ts r []);rw[show(fun r=>a5x ts r [])=id from rfl,List.map_id];exact(mem_setsU.mp hx).1.symm
 | l::word,x,hx,h=>by
  have hl:=h l (a0T ..);have n5:=M.n5;show a2l (a0k ts) (a0k ts x l) word=_;rw[a8i M word _ (a5g M hx hl) fun y hy=>h y (a1D _ hy)];refine b7z fun r=>?_;unfold a9s;rw[a0R,a0R];constructor
  ·rintro⟨y,hy,rfl⟩;obtain⟨z,hz,rfl⟩:=a0R.mp (b0n hy);exact⟨z,hz,rfl⟩
  ·rintro⟨z,hz,rfl⟩;have zl:=a5r M [l] z ((mem_setsU.mp hx).2 z hz) fun y hy=>by rw[a0J.mp hy];exact hl
   exact⟨a5x ts z [l],c2c (a0R.mpr ⟨z,hz,rfl⟩) (by lia),rfl⟩
theorem a7m{α:Type}{P:Nat->α->Prop}: ∀{n:Nat},(∀j,j<n-> ∃x,P j x)-> ∃xs:List α,xs.length=n/\ ∀(j:Nat) (x:α),xs[j]? =some x->P j x
 |0,_=>⟨[],rfl,fun j x e=>by simp at e⟩
 | n+1,h=>by
  obtain⟨xs,h1,h2⟩:=a7m (n:=n) fun j hj=>h j (by lia);obtain⟨x,hx⟩:=h n (by lia);refine⟨xs++[x],by simp[h1],fun j y e=>?_⟩;by_cases hj:j<n
  ·rw[a0N (by lia)]at e;exact h2 j y e
  ·rw[a0M (by lia)]at e;have z:j-xs.length=0:=by
    have:=(a0B.mp e).1;simp at this;lia
   rw[z]at e;cases e;have jn:j=n:=by lia
   subst jn;exact hx
structure Prs(H:Hp)(l:Ad)(as:As)(bc:List (Ad×Ad))(ws:TW):Prop where
 lst:H l=some (.lst (as.map .ref))
 la:as.length=ws.length
 lb:bc.length=ws.length
 is: ∀(j:Nat) (a:Ad) (q:Ad×Ad) (p:Nsq×Nsq),as[j]? =some a->bc[j]? =some q->ws[j]? =some p->q.2≠l/\H a=some (.tup [.ref q.1,.ref q.2])/\H q.1=some (.tup (p.1.map nv))/\H q.2=some (.lst (p.2.map nv))
theorem PicsAt.prs{H:Hp}{l:Ad}{as:As}{ws:TW}(h:PicsAt H l as ws): ∃bc,Prs H l as bc ws:=by
 obtain⟨h1,h2,h3⟩:=h;obtain⟨bc,e1,e2⟩:=a7m (n:=ws.length) (P:=fun j (q:Ad×Ad)=> ∀a p,as[j]? =some a->ws[j]? =some p->q.2≠l/\H a=some (.tup [.ref q.1,.ref q.2])/\H q.1=some (.tup (p.1.map nv))/\H q.2=some (.lst (p.2.map nv))) fun j hj=>by
  obtain⟨a,ea⟩: ∃a,as[j]? =some a:=⟨_,a0A (by lia)⟩;obtain⟨p,ep⟩: ∃p,ws[j]? =some p:=⟨_,a0A hj⟩;obtain⟨b,c,f0,f1,f2,f3⟩:=h3 j a p ea ep;refine⟨(b,c),fun a' p' ea' ep'=>?_⟩;rw[ea]at ea';rw[ep]at ep';cases ea';cases ep';exact⟨f0,f1,f2,f3⟩
 exact⟨bc,h1,h2,e1,fun j a q p ea eb ep=>e2 j q eb a p ea ep⟩
theorem Prs.at{H:Hp}{l:Ad}{as:As}{bc:List (Ad×Ad)}{ws:TW}(h:Prs H l as bc ws){j:Nat}(hj:j<ws.length): ∃a q p,as[j]? =some a/\bc[j]? =some q/\ws[j]? =some p/\q.2≠l/\H a=some (.tup [.ref q.1,.ref q.2])/\H q.1=some (.tup (p.1.map nv))/\H q.2=some (.lst (p.2.map nv)):=by
 have h1:=h.la;have h2:=h.lb;obtain⟨a,ea⟩: ∃a,as[j]? =some a:=⟨_,a0A (by lia)⟩;obtain⟨q,eq⟩: ∃q,bc[j]? =some q:=⟨_,a0A (by lia)⟩;obtain⟨p,ep⟩: ∃p,ws[j]? =some p:=⟨_,a0A hj⟩;exact⟨a,q,p,ea,eq,ep,h.is j a q p ea eq ep⟩
def Pic(ts:LN)(n:Nat)(x:Nsq):Prop:= ∃word:Nsq,(∀l∈word,l<ts.length)/\a2l (a0k ts) (List.range n) word=x
structure FamOf(ts:LN)(n:Nat)(us:LN):Prop where
 up:us.Pairwise fun x y=>a3s gl x y=true
 mem: ∀x,x∈us↔(Pic ts n x∨ ∃r,r<n/\x=[r])
theorem FamOf.uniq{ts:LN}{n:Nat}{us vs:LN}(h1:FamOf ts n us)(h2:FamOf ts n vs):us=vs:=b2c (a2v gl us).irr (a2v gl us).trans h1.up h2.up fun x=>(h1.mem x).trans (h2.mem x).symm
theorem b5j{ts:LN}{n:Nat}{ws:TW}(T:Told (a0k ts) ts.length (List.range n) ws)(x:Nsq):x∈ws.map (·.1)↔Pic ts n x:=by
 constructor
 ·intro h;obtain⟨p,hp,rfl⟩:=a0R.mp h;obtain⟨r1,r2⟩:=T.run p hp;exact⟨p.2,r1,r2⟩
 ·rintro⟨word,h1,rfl⟩;obtain⟨u,h2,_⟩:=T.least _ word rfl h1;exact a0R.mpr ⟨_,h2,rfl⟩
theorem b8a{n r:Nat}(n5:n<=5)(h:r<n):[r]∈a1n n:=by
 have z: ∀k:Fin 5,a2u [(k:Nat)]=[(k:Nat)]:=by decide+kernel
 exact mem_setsU.mpr ⟨z ⟨r,by lia⟩,fun x hx=>by rw[a0J.mp hx];exact h⟩
theorem c8w{H:Hp}{m:Ad}{ts:LN}{n:Nat}(M:Mach H m ts n){x:Nsq}(h:Pic ts n x):x∈a1n n:=by
 obtain⟨word,h1,rfl⟩:=h;exact a8z (b2d M.n5) (fun y hy l hl=>a5g M hy hl) word h1
theorem b2e(n:Nat):(a1n n).length<=32:=a1C (a1Y _ _) (by rw[a0C,a2A];decide)
theorem FamOf.inU{H:Hp}{m:Ad}{ts:LN}{n:Nat}{us:LN}(M:Mach H m ts n)(h:FamOf ts n us){x:Nsq}(hx:x∈us):x∈a1n n:=by
 rcases (h.mem x).mp hx with z|⟨r,hr,rfl⟩
 ·exact c8w M z
 ·exact b8a M.n5 hr
theorem FamOf.few{H:Hp}{m:Ad}{ts:LN}{n:Nat}{us:LN}(M:Mach H m ts n)(h:FamOf ts n us):us.length<=32:=by
 refine a1C (a7w (U:=a1n n) ?_ fun x hx=>h.inU M hx) (b2e n);exact h.up.imp fun {a b} z e=>by
  subst e;rw[(a2v gl us).irr]at z;cases z
theorem a4i{n:Nat}(n5:n<=5){x:Nsq}(h:x∈a1n n):x.length<=n:=by
 obtain⟨x1,x2⟩:=mem_setsU.mp h;rw[<-x1,c4f n5 x2];exact a1C (a1Y _ _) (by simp)
theorem a4x{H:Hp}{d:Ad}{o o':HO}{bs:As}{us:LN}(T:TupsAt H bs us)(h:H d=some o)(no: ∀xs,o≠ .tup xs):TupsAt (upd H d o') bs us:=⟨T.len,fun i b u e1 e2=>by
 have z:=T.is i b u e1 e2;rw[a0f (a8s z h fun e=>no _ e.symm)];exact z⟩
theorem a6q{H:Hp}{bs:As}{us:LN}{p:Ad}{u:Nsq}(h:TupsAt H bs us)(hp:H p=some (.tup (u.map nv))):TupsAt H (bs++[p]) (us++[u]):=by
 refine⟨by simp[h.len],fun i b v e1 e2=>?_⟩;have l:=h.len;by_cases hi:i<us.length
 ·rw[a0N (by lia)]at e1 e2;exact h.is i b v e1 e2
 ·rw[a0M (by lia)]at e1 e2;have z:i-us.length=0:=by
   have:=(a0B.mp e2).1;simp at this;lia
  rw[l,z]at e1;rw[z]at e2;cases e1;cases e2;exact hp
theorem d2o{H:Hp}{bs cs:As}{us vs:LN}(h:TupsAt H bs us)(h':TupsAt H cs vs):TupsAt H (bs++cs) (us++vs):=by
 refine⟨by simp[h.len,h'.len],fun i b v e1 e2=>?_⟩;have l:=h.len;by_cases hi:i<us.length
 ·rw[a0N (by lia)]at e1 e2;exact h.is i b v e1 e2
 ·rw[a0M (by lia)]at e1 e2;rw[l]at e1;exact h'.is _ b v e1 e2
theorem c8x{us vs:LN}(h:(Dt.lst (us.map fun u=> .tup (dtN u)))=Dt.lst (vs.map fun u=> .tup (dtN u))):us=vs:=by
 injection h with h
 exact a8x (fun a b e=>by injection e with e;exact b9y e) h
def b5k(T:Ad)(pos:Pos):Sp:=fun vs H Q _=> ∃(m:Ad) (ts:LN) (n:Nat),vs=[.ref m]/\Mach H m ts n/\Tabs H/\
 ∀D bs us H',Keeps H H'->Tabs H'->L2.noT H D=none->H' D=some (.lst (bs.map .ref))->TupsAt H' bs us->FamOf ts n us->Q (.ref D) H'
theorem c8y{T:Ad}(F:Fun K "family" "family" a9b f fd)(qN:a0u P w K mg base "pictures" 12 ["machine"] (b3u T (⟨49,40,49,93⟩:Pos)))(qO:a0u P w K mg base "in_order" 5 ["sets"] b7y)(jC:mg "len"=none)(jD:mg "range"=none):FnOk P w K mg base CX0 14 f fd ["machine"] (b5k T (⟨49,40,49,93⟩:Pos)):=by
 refine F.ok rA (fun vs H Q E h=>?_) (fun cdv A outer s H vs Q E hr h=>?_)
 ·obtain⟨m,ts,n,rfl,_⟩:=h;rfl
 obtain⟨m,ts,n,rfl,M,hT,q⟩:=h;have t1:=M.some1;have n1:=M.n1;have n5:=M.n5;obtain⟨_,r0,b1,b2,b3,b4,b5,b6⟩:=M.at (l:=0) (by lia);refine⟨_,(a0d (c0x (CompSc.to (N:=["machine","singles"]) (osc:=a0e a9b) (vs:=["room"]) {}) rfl rfl rA.nd (j:=1) rfl rfl (a2s rfl jD (a0g (a0t a0n rfl jC a4C (a0g (a0w a0x (pv 0) a0l (fun _ _=>rfl)) a0i)) a0i)) (fun _ _ _ _=>a2q) (fun _ _ _ _=>(a4o (a0g (pv 0) a0i)))) (a0h (a0s (a0m qO hr.m rfl (a0g (a1w b4m (c6e (CompSc.to (N:=["machine","singles"]) (osc:=a0e a9b) (vs:=["rooms","word"]) {}) rfl (a2a (a0m qN hr.m rfl (a0g (pv 0) a0i))) (d5u (CompSc.to (N:=["machine","singles"]) (osc:=a0e a9b) (vs:=["rooms","word"]) {}) rfl rfl rfl) (fun _ _ _ _=>a2q) (fun _ _ _ _=>(pv 0))) (pv 1)) a0i))))),?_⟩;refine⟨_,rfl,m,_,_,_,rfl,rfl,SqT.of b1,b3,r0,_,rfl,.inr (SqT.of b4),(n:Int),by rw[a0C,b5],by lia,by lia,a4a (fun i ys H'=>Same H H'/\ ∃rs,ys=rs.map V.ref/\rs.length=i/\TupsAt H' rs ((List.range i).map fun r=>[r])) (by rw[a1U];exact small (by lia)) ⟨Same.refl _,[],rfl,rfl,rfl,fun i b u e=>by simp at e⟩ (fun i ys H' _ p=>?_) (fun i ys H' hi p=>?_) (fun ys H1 p sg hsg=>?_)⟩
 ·obtain⟨_,rs,rfl,e,_⟩:=p;rw[a0C];lia
 ·obtain⟨g,rs,rfl,e,T1⟩:=p;have e0:V.int (0+(i:Int))=nv i:=by show V.int (0+(i:Int))=V.int (i:Int);rw[a7J]
  refine⟨a1l,a4r ⟨_,rfl,by show 1<=sizeLine;decide,fun p hp=>?_⟩⟩;have k:=a0c hp (.tup [V.int (0+(i:Int))]);refine⟨g.trans k,rs++[p],by simp,by simp[e],?_⟩;rw[b0L,a1B];refine a6q (T1.same k) ?_;rw[a0a,e0];rfl
 obtain⟨g1,rs,rfl,er,T1⟩:=p;rw[a1U]at T1 er;have k1:=a0c hsg (.lst (rs.map V.ref));have esg:upd H1 sg (.lst (rs.map V.ref)) sg=some (.lst (rs.map V.ref)):=a0a;have T2:=T1.same k1;have g2:=g1.trans k1;generalize upd H1 sg (.lst (rs.map V.ref))=H2 at k1 esg T2 g2⊢;refine⟨_,rfl,m,ts,n,rfl,M.same g2,hT.same g2,fun l as ws H3 k3 T3 pic TT=>?_⟩;obtain⟨bc,pr⟩:=pic.prs;have fine:=(M.same g2);have few:ws.length<=32:=by
  rw[<-a0C (f:=(·.1)) (as:=ws)];exact a1C (a7w TT.keys fun x hx=>c8w M ((b5j TT x).mp hx)) (b2e n)
 refine⟨l,rfl,⟨_,SqL.of pr.lst⟩,a2j (xs:=as.map .ref) (fun i ys H'=>H'=H3/\ ∃bs,ys=bs.map V.ref/\bs.length=i/\TupsAt H3 bs ((ws.take i).map (·.1))) (by rw[a0C,pr.la,a0Y];lia) ⟨rfl,[],rfl,rfl,rfl,fun i b u e=>by simp at e⟩ (fun i ys H' _ p=>?_) (fun i v ys H' hv p=>?_) (fun ys H' p c1 hc1=>?_)⟩
 ·obtain⟨rfl,bs,rfl,e,_⟩:=p;exact⟨SqL.of pr.lst,by rw[a0C];lia⟩
 ·obtain⟨rfl,bs,rfl,e,T4⟩:=p;rw[a0F]at hv;obtain⟨a1,ea,rfl⟩:=a0O.mp hv;obtain⟨a',q',p',ea',eq',ep',f0,f1,f2,f3⟩:=pr.at (j:=i) (by have:=(a0B.mp ea).1;rw[<-pr.la];exact this);rw[ea]at ea';cases ea';refine⟨a1,_,rfl,SqT.of f1,rfl,_,_,rfl,_,_,rfl,rfl,d1a,a4r ⟨_,rfl,rfl,bs++[q'.1],by simp,by simp[e],?_⟩⟩;rw[a2L,ep',a1B];exact a6q T4 f2
 obtain⟨rfl,bs,rfl,e,T4⟩:=p;rw[a0C,pr.la,a2B]at T4;have kc:=a0c hc1 (.lst (bs.map V.ref));have esg3:=kc _ _ (k3 _ _ (nU esg));have T5:TupsAt (upd H' c1 (.lst (bs.map V.ref))) rs ((List.range n).map fun r=>[r]):=⟨T2.len,fun i b u e1 e2=>kc _ _ (k3 _ _ (nU (T2.is i b u e1 e2)))⟩;have lb:bs.length=ws.length:=by rw[T4.len,a0C]
 refine⟨_,rfl,c1,sg,_,_,rfl,rfl,SqL.of a0a,SqL.of esg3,by rw[a0C,a0C,lb,er,a0Y];lia,fun l2 hl2=>?_⟩;have k2:=a0c hl2 (.lst (bs.map V.ref++rs.map V.ref));have T6:=(d2o (T4.same kc) T5).same k2;refine⟨l2,bs++rs,_,a1n n,rfl,by rw[a0a,a1B],T6,fun t ht=>?_,a6J (b2e n) (by decide),by rw[a0L,a0C,a0C,a2A];lia,fun D ds us H5 g5 hD eD T7 mem up=>?_⟩
 ·rcases a0Q.mp ht with z|z
  ·exact c8w M ((b5j TT t).mp z)
  ·obtain⟨r,hr',rfl⟩:=a0R.mp z;exact b8a n5 (a1Q.mp hr')
 ·have kk:Keeps H H5:=((g2.keeps.trans k3).trans (kc.trans k2).keeps).trans g5.keeps;refine q D ds us H5 kk (T3.same ((kc.trans k2).trans g5)) ?_ eD T7 ⟨up,fun x=>?_⟩
  ·cases y:L2.noT H D with
   |none=>rfl
   |some o=>
    have z:=(kc.trans k2) _ _ ((g2.keeps.trans k3) _ _ y);rw[hD]at z;cases z
  ·rw[mem x,a0Q,b5j TT x];refine or_congr Iff.rfl ?_;rw[a0R];constructor
   ·rintro⟨r,h1,rfl⟩;exact⟨r,a1Q.mp h1,rfl⟩
   ·rintro⟨r,h1,rfl⟩;exact⟨r,a1Q.mpr h1,rfl⟩
def sub(x y:Nsq):Bool:=x.all fun r=>y.contains r
def d2p:Sp:=fun vs H Q _=> ∃(a b:Ad) (x y:Nsq),vs=[.ref a,.ref b]/\H a=some (.tup (x.map nv))/\H b=some (.tup (y.map nv))/\x.length<=5/\ ∀H',Same H H'->Q (.bl (sub x y)) H'
def a3b(fam:LN)(x:Nsq):LN:=fam.filter fun u=>decide (u≠x)&&sub u x
def a3t(us:LN)(u:Nsq):Bool:=us.any fun v=>decide (v≠u)&&sub u v
def a2d(fam:LN)(x:Nsq):LN:=(a3b fam x).filter fun u=> !a3t (a3b fam x) u
def d9q:Sp:=fun vs H Q _=> ∃(a l:Ad) (x:Nsq) (bs:As) (us:LN),vs=[.ref a,.ref l]/\H a=some (.tup (x.map nv))/\H l=some (.lst (bs.map .ref))/\TupsAt H bs us/\x.length<=5/\us.length<=32/\ ∀H',Same H H'->Q (.bl (a3t us x)) H'
def c8z(T:Ad)(pos:Pos):Sp:=fun vs H Q _=> ∃(m p:Ad) (ts:LN) (n:Nat) (x:Nsq),vs=[.ref m,.ref p]/\Mach H m ts n/\H p=some (.tup (x.map nv))/\Tabs H/\
 ∀D bs us fam H',Keeps H H'->Tabs H'->L2.noT H D=none->H' D=some (.lst (bs.map .ref))->TupsAt H' bs us->FamOf ts n fam->us=a2d fam x->Q (.ref D) H'
theorem a8j{H:Hp}{cs:As}{us:LN}{f:Nsq->Bool}{i:Nat}{a:Ad}{t:Nsq}(T:TupsAt H cs ((us.take i).filter f))(et:us[i]? =some t)(ha:H a=some (.tup (t.map nv))):if f t=true then TupsAt H (cs++[a]) ((us.take (i+1)).filter f)else TupsAt H cs ((us.take (i+1)).filter f):=by
 have nx:(us.take (i+1)).filter f=(us.take i).filter f++(if f t=true then[t]else[]):=by
  rw[a2L,et,a6L];cases c:f t with
  |true=>simp[c]
  |false=>simp[c]
 rw[nx];cases c:f t with
 |true=>exact a6q T ha
 |false=>
  rw[wA (by decide),wA (by decide),a2I];exact T
theorem c4j(F:Fun K "lies_in" "lies_in" b5d f fd)(rG:mg "all"=none):FnOk P w K mg base CX0 1 f fd ["one","other"] d2p:=by
 refine F.ok d2j (fun vs H Q E h=>?_) (fun cdv A outer s H vs Q E hr h=>?_)
 ·obtain⟨a,b,x,y,rfl,_⟩:=h;rfl
 obtain⟨a,b,x,y,rfl,ha,hb,l5,q⟩:=h;refine⟨_,(a0h (a0s (a0t (c6l rfl) rfl rG boot_all (a0g (a1m (CompSc.to (N:=["one","other"]) (osc:=a0e b5d) (vs:=["room"]) {}) rfl rfl (c5c (pv 0)) (fun _ _ _ _=>a2q) (fun _ _ _ _=>(b0t (OpR.k (K:=K) (fun K=>rIn K false) c5p rfl) (pv 0) (pv 2) (by with_unfolding_all rfl)))) a0i)))),?_⟩;refine⟨_,rfl,a,rfl,⟨_,SqT.of ha⟩,b9a (f:=fun v=>match v with| .int i=> .bl (y.contains i.toNat)|v=>v) (by rw[a0C];exact small (by lia)) (SqT.of ha) (fun v Q hv q=>?_) (fun l hl=>?_)⟩
 ·obtain⟨r,h1,rfl⟩:=a0R.mp hv;refine⟨_,rfl,_,rfl,b,_,rfl,.inr (SqT.of hb),rfl,d6p _,?_⟩
  try dsimp only
  rw[in_nv];exact q
 ·have e:(x.map nv).map (fun v=>match v with| .int i=>V.bl (y.contains i.toNat)|v=>v)=(x.map fun r=>y.contains r).map V.bl:=by
   rw[a3X,a3X];rfl
  try dsimp only
  rw[e];refine⟨l,_,rfl,SqL.of a0a,?_⟩;have e2:(x.map fun r=>y.contains r).all id=sub x y:=by
   unfold sub;rw[List.all_map];rfl
  try dsimp only
  rw[e2];exact q _ (a0c hl _)
theorem c4k(F:Fun K "is_covered" "is_covered" a6v f fd)(jU:a0u P w K mg base "lies_in" 1 ["one","other"] d2p)(qX:mg "any"=none):FnOk P w K mg base CX0 3 f fd ["part","sets"] d9q:=by
 refine F.ok b9s (fun vs H Q E h=>?_) (fun cdv A outer s H vs Q E hr h=>?_)
 ·obtain⟨a,l,x,bs,us,rfl,_⟩:=h;rfl
 obtain⟨a,l,x,bs,us,rfl,ha,hl,T,l5,few,q⟩:=h;have hu:=hr.units;have lb:=T.len;refine⟨_,(a0h (a0s (a0t (b7e rfl) rfl qX boot_any (a0g (a1m (CompSc.to (N:=["part","sets"]) (osc:=a0e a6v) (vs:=["other"]) {}) rfl rfl (a2a (pv 1)) (fun _ _ _ _=>a2q) (fun _ _ _ _=>(d3j (b0t (OpR.k (K:=K) (fun K=>d7e K true) (b6x hu) rfl) (pv 0) (pv 1) (a2e _)) (d3i (a0m jU hr.m rfl (a0v (a0b (pv 1) (a0b (pv 0) a0o rfl) rfl))))))) a0i)))),?_⟩;refine⟨_,rfl,l,rfl,⟨_,SqL.of hl⟩,a2j (xs:=bs.map .ref) (fun i ys H'=>Same H H'/\ys=((us.take i).map fun v=>decide (v≠x)&&sub x v).map V.bl) (by rw[a0C,a0Y];lia) ⟨Same.refl _,rfl⟩ (fun i ys H' hi p=>?_) (fun i v ys H' hv p=>?_) (fun ys H' p c1 hc1=>?_)⟩
 ·obtain⟨g,rfl⟩:=p;exact⟨SqL.of (g _ _ hl),by simp;lia⟩
 ·obtain⟨g,rfl⟩:=p;rw[a0F]at hv;obtain⟨b,eb,rfl⟩:=a0O.mp hv;have li:=(a0B.mp eb).1;obtain⟨u,eu⟩: ∃u,us[i]? =some u:=⟨_,a0A (by lia)⟩;have hb:=g _ _ (T.is i b u eb eu);have hx:=g _ _ ha;have nx:((us.take (i+1)).map fun v=>decide (v≠x)&&sub x v).map V.bl=((us.take i).map fun v=>decide (v≠x)&&sub x v).map V.bl++[V.bl (decide (u≠x)&&sub x u)]:=by
   rw[a2L,eu,a1B,a1B];rfl
  refine⟨a1l,a4r ?_⟩;refine⟨_,rfl,_,rfl,b,a,0,_,_,rfl,rfl,a5c (SqT.of hb),a5c (SqT.of hx),by decide,fun c hc=>?_⟩;by_cases e:u=x
  ·have hc':c=true:=hc.mpr (dt_natsT.mpr e);subst hc';refine⟨_,rfl,a9l ⟨g,?_⟩⟩;rw[nx,a1J (fun z=>z e)];rfl
  ·have hc':c=false:=by
    cases c with
    |false=>rfl
    |true=>exact wC (dt_natsT.mp (hc.mp rfl)) e
   subst hc';refine⟨_,rfl,b1c ⟨_,rfl,_,rfl,a,b,x,u,rfl,hx,hb,l5,fun H4 g4=>⟨g.trans g4,?_⟩⟩⟩;rw[nx,a1A e,a9B]
 ·obtain⟨g,rfl⟩:=p;rw[a0C,lb,a2B];have e2:(us.map fun v=>decide (v≠x)&&sub x v).any id=a3t us x:=by
   unfold a3t;rw[b0I];rfl
  refine⟨c1,_,rfl,SqL.of a0a,?_⟩
  try dsimp only
  rw[e2];exact q _ (g.trans (a0c hc1 _))
theorem d2q{T:Ad}(F:Fun K "tiles" "tiles" b7r f fd)(qC:a0u P w K mg base "family" 14 ["machine"] (b5k T (⟨49,40,49,93⟩:Pos)))(jU:a0u P w K mg base "lies_in" 1 ["one","other"] d2p)(qF:a0u P w K mg base "is_covered" 3 ["part","sets"] d9q):FnOk P w K mg base CX0 16 f fd ["machine","rooms"] (c8z T (⟨49,40,49,93⟩:Pos)):=by
 refine F.ok rC (fun vs H Q E h=>?_) (fun cdv A outer s H vs Q E hr h=>?_)
 ·obtain⟨m,p,ts,n,x,rfl,_⟩:=h;rfl
 obtain⟨m,p,ts,n,x,rfl,M,hp,hT,q⟩:=h;have hu:=hr.units;have n5:=M.n5;refine⟨_,(a0d (a0p (i:=2) rC.nd rfl (Or.inr rfl) (a1m (CompSc.to (N:=["machine","rooms","within"]) (osc:=a0e b7r) (vs:=["part"]) {}) rfl rfl (a2a (a0m qC hr.m rfl (a0g (pv 0) a0i))) (fun _ _ _ _=>b1h (PW.pt (b3g (a1p (OpR.k (K:=K) (fun K=>d7e K true) (b6x hu) rfl) (pv 0) (pv 2) (a2e _)) (a8t (b3f (a0m jU hr.m rfl (a0v (a0b (pv 0) (a0b (pv 2) a0o rfl) rfl)))))))) (fun _ _ _ _=>(pv 0)))) (a0h (a0s (a1m (CompSc.to (N:=["machine","rooms","within"]) (osc:=a0e b7r) (vs:=["part"]) {}) rfl rfl (a2a (pv 2)) (fun _ _ _ _=>b1h (d3h (b3f (a0m qF hr.m rfl (a0v (a0b (pv 0) (a0b (pv 3) a0o rfl) rfl)))))) (fun _ _ _ _=>(pv 0)))))),?_⟩;refine⟨_,rfl,m,ts,n,rfl,M,hT,fun l bs fam H1 k1 T1 nl el Tf ff=>?_⟩;have few:=ff.few M;have lb:=Tf.len;have hp1:=k1 _ _ (nU hp);have l5: ∀u∈fam,u.length<=5:=fun u h=>a1C (a4i n5 (ff.inU M h)) n5;refine⟨l,rfl,⟨_,SqL.of el⟩,a2j (xs:=bs.map .ref) (fun i ys H'=>Same H1 H'/\ ∃cs,ys=cs.map V.ref/\cs.length<=i/\TupsAt H' cs ((fam.take i).filter fun u=>decide (u≠x)&&sub u x)) (by rw[a0C,a0Y];lia) ⟨Same.refl _,[],rfl,a0K _,rfl,fun i b u e=>by simp at e⟩ (fun i ys H' hi p=>?_) (fun i v ys H' hv p=>?_) (fun ys H2 p wl hwl=>?_)⟩
 ·obtain⟨g,cs,rfl,e,_⟩:=p;exact⟨SqL.of (g _ _ el),by rw[a0C];exact e⟩
 ·obtain⟨g,cs,rfl,e,Tc⟩:=p;rw[a0F]at hv;obtain⟨b,eb,rfl⟩:=a0O.mp hv;have li:=(a0B.mp eb).1;obtain⟨u,eu⟩: ∃u,fam[i]? =some u:=⟨_,a0A (by lia)⟩;have hb:=g _ _ (Tf.is i b u eb eu);have hx:=g _ _ hp1;refine⟨a1l,_,rfl,_,rfl,b,_,0,_,_,rfl,rfl,a5c (SqT.of hb),a5c (SqT.of hx),by decide,fun c hc=>⟨_,rfl,?_⟩⟩;by_cases ex:u=x
  ·have hc':c=true:=hc.mpr (dt_natsT.mpr ex);subst hc';have z:=a8j Tc eu hb;rw[a1J (fun z=>z ex),a9U,wA (by decide)]at z;refine a9l (a9l ⟨g,cs,rfl,by lia,z⟩)
  ·have hc':c=false:=by
    cases c with
    |false=>rfl
    |true=>exact wC (dt_natsT.mp (hc.mp rfl)) ex
   subst hc';refine b1c ⟨_,rfl,_,rfl,b,_,u,x,rfl,hb,hx,l5 u (a0E eu),fun H4 g4=>⟨_,rfl,?_⟩⟩;have z:=a8j (Tc.same g4) eu (g4 _ _ hb);rw[a1A ex,a9B]at z;cases c2:sub u x with
   |true=>
    rw[c2,wB rfl]at z;exact b1c ⟨_,rfl,g.trans g4,cs++[b],by simp,by simp;exact e,z⟩
   |false=>
    rw[c2,wA (by decide)]at z;exact a9l ⟨g.trans g4,cs,rfl,by lia,z⟩
 obtain⟨g2,cs,rfl,_,Tc⟩:=p;rw[a0C,lb,a2B]at Tc;have Tw:TupsAt H2 cs (a3b fam x):=Tc;have kw:=a0c hwl (.lst (cs.map V.ref));have ewl:upd H2 wl (.lst (cs.map V.ref)) wl=some (.lst (cs.map V.ref)):=a0a;have Tw3:=Tw.same kw;have g3:=g2.trans kw;generalize upd H2 wl (.lst (cs.map V.ref))=H3 at kw ewl Tw3 g3⊢;have lw:(a3b fam x).length<=32:=a1C (a1Y _ _) few;have lc:=Tw.len;have wfam: ∀u∈a3b fam x,u∈fam:=fun u h=>(a0S.mp h).1;refine⟨_,rfl,wl,rfl,⟨_,SqL.of ewl⟩,a2j (xs:=cs.map .ref) (fun i ys H'=>Same H3 H'/\ ∃ds,ys=ds.map V.ref/\ds.length<=i/\TupsAt H' ds (((a3b fam x).take i).filter fun u=> !a3t (a3b fam x) u)) (by rw[a0C,a0Y];lia) ⟨Same.refl _,[],rfl,a0K _,rfl,fun i b u e=>by simp at e⟩ (fun i ys H' hi p=>?_) (fun i v ys H' hv p=>?_) (fun ys H4 p D hD=>?_)⟩
 ·obtain⟨g,ds,rfl,e,_⟩:=p;exact⟨SqL.of (g _ _ ewl),by rw[a0C];exact e⟩
 ·obtain⟨g,ds,rfl,e,Td⟩:=p;rw[a0F]at hv;obtain⟨b,eb,rfl⟩:=a0O.mp hv;have li:=(a0B.mp eb).1;obtain⟨u,eu⟩: ∃u,(a3b fam x)[i]? =some u:=⟨_,a0A (by lia)⟩;have hb:=g _ _ (Tw3.is i b u eb eu);refine⟨a1l,_,rfl,_,rfl,b,wl,u,cs,a3b fam x,rfl,hb,g _ _ ewl,Tw3.same g,l5 u (wfam u (a0E eu)),lw,fun H5 g5=>⟨_,rfl,?_⟩⟩;have z:=a8j (Td.same g5) eu (g5 _ _ hb);cases c2:a3t (a3b fam x) u with
  |true=>
   rw[c2,wA (by decide)]at z;exact a9l ⟨g.trans g5,ds,rfl,by lia,z⟩
  |false=>
   rw[c2,wB (by decide)]at z;exact b1c ⟨_,rfl,g.trans g5,ds++[b],by simp,by simp;exact e,z⟩
 obtain⟨g4,ds,rfl,_,Td⟩:=p;rw[a0C,lc,a2B]at Td;have kD:=a0c hD (.lst (ds.map V.ref));have gg:=g3.trans (g4.trans kD);refine q D ds _ fam _ (k1.trans gg.keeps) (T1.same gg) ?_ a0a (Td.same kD) ff rfl;cases y:L2.noT H D with
 |none=>rfl
 |some o=>
  have z:=(g3.trans g4) _ _ (k1 _ _ y);rw[hD]at z;cases z
def Rch(ts:LN)(x y:Nsq):Prop:= ∃word:Nsq,(∀l∈word,l<ts.length)/\a2l (a0k ts) x word=y
open Classical in
noncomputable def rch (ts:LN) (x y:Nsq):Bool:=decide (Rch ts x y)
theorem rch_iff{ts:LN}{x y:Nsq}:rch ts x y=true↔Rch ts x y:=by
 unfold rch;exact @decide_eq_true_iff _ (Classical.propDecidable _)
theorem Rch.refl(ts:LN)(x:Nsq):Rch ts x x:=⟨[],fun _ h=>(nomatch h),rfl⟩
theorem Rch.trans{ts:LN}{x y z:Nsq}(a:Rch ts x y)(b:Rch ts y z):Rch ts x z:=by
 obtain⟨u,h1,rfl⟩:=a;obtain⟨v,h2,rfl⟩:=b;refine⟨u++v,fun l hl=>(a0Q.mp hl).elim (h1 l) (h2 l),?_⟩;unfold a2l;rw[a4D]
theorem b5l{ts:LN}{x:Nsq}{ws:TW}(T:Told (a0k ts) ts.length x ws)(y:Nsq):y∈ws.map (·.1)↔Rch ts x y:=by
 constructor
 ·intro h;obtain⟨p,hp,rfl⟩:=a0R.mp h;obtain⟨r1,r2⟩:=T.run p hp;exact⟨p.2,r1,r2⟩
 ·rintro⟨word,h1,rfl⟩;obtain⟨u,h2,_⟩:=T.least _ word rfl h1;exact a0R.mpr ⟨_,h2,rfl⟩
abbrev WE:=Ad×TW×As
def kvW(xs:LN)(ys:List WE):List (List Key×V):=a3r (xs.map fun x=>(x,[])) (ys.map (·.1))
structure WB(H:Hp)(D:Ad)(ts:LN)(xs:LN)(ys:List WE):Prop where
 len:ys.length=xs.length
 each: ∀(i:Nat) (x:Nsq) (y:WE),xs[i]? =some x->ys[i]? =some y->WordsAt H y.1 y.2.1 y.2.2/\Told (a0k ts) ts.length x y.2.1/\y.1≠D
 nd:xs.Nodup
theorem WB.same{H H':Hp}{D:Ad}{ts xs:LN}{ys:List WE}(h:WB H D ts xs ys)(g:Same H H'):WB H' D ts xs ys:=⟨h.len,fun i x y e1 e2=>let⟨a,b⟩:=h.each i x y e1 e2;⟨a.same g,b⟩,h.nd⟩
theorem c0a{H H':Hp}{D:Ad}{ws:TW}{as:As}(W:WordsAt H D ws as)(g:Keeps H H'):WordsAt H' D ws as:=⟨W.len,g _ _ (nU W.dict),fun j a p h1 h2=>g _ _ (nU (W.list j a p h1 h2))⟩
theorem WB.keeps{H H':Hp}{D:Ad}{ts xs:LN}{ys:List WE}(h:WB H D ts xs ys)(g:Keeps H H'):WB H' D ts xs ys:=⟨h.len,fun i x y e1 e2=>let⟨a,b⟩:=h.each i x y e1 e2;⟨c0a a g,b⟩,h.nd⟩
theorem a8k{xs:LN}{ys:List WE}(h:ys.length=xs.length):(kvW xs ys).map (·.1)=xs.map nk:=by
 unfold kvW L2.a3r
 induction xs generalizing ys with
 |nil=>rfl
 | cons x xs ih=>
  cases ys with
  |nil=>simp at h
  |cons y ys=>
   have z:=ih (ys:=ys) (by simpa using h);simp only[List.map_cons,List.zipWith_cons_cons];rw[z]
theorem WB.off{H:Hp}{D:Ad}{ts xs:LN}{ys:List WE}{kvs:List (List Key×V)}{o:HO}(h:WB H D ts xs ys)(hD:H D=some (.dT kvs)):WB (upd H D o) D ts xs ys:=by
 refine⟨h.len,fun i x y e1 e2=>?_,h.nd⟩;obtain⟨a,b,c⟩:=h.each i x y e1 e2;refine⟨⟨a.len,by rw[a0f c];exact a.dict,fun j l p h1 h2=>?_⟩,b,c⟩;have z:=a.list j l p h1 h2;rw[a0f (nE z hD)];exact z
theorem b2f(xs:LN):((xs.map fun x=>((x,[]):Nsq×Nsq)).map (·.1))=xs:=by
 rw[a3X];exact List.map_id' xs
theorem WB.get{H:Hp}{D b:Ad}{ts xs:LN}{ys:List WE}{x:Nsq}(h:WB H D ts xs ys)(hD:Rd H D (.dT (kvW xs ys)))(hx:x∈xs)(hb:H b=some (.tup (x.map nv))): ∃W ws as,DGet H D (.ref b) (some (.ref W))/\WordsAt H W ws as/\Told (a0k ts) ts.length x ws/\ ∃i:Nat,xs[i]? =some x/\ys[i]? =some (W,ws,as):=by
 obtain⟨i,ei⟩:=a1F.mp hx;have li:=(a0B.mp ei).1;have hl:=h.len;obtain⟨y,ey⟩: ∃y,ys[i]? =some y:=⟨_,a0A (by lia)⟩;obtain⟨a,t,_⟩:=h.each i x y ei ey;have v:b2w (kvW xs ys) (nk x)=some (.ref y.1):=c1f (p:=(x,[])) (by rw[b2f];exact h.nd) (by rw[a0F,ei];rfl) (by rw[a0F,ey];rfl);exact⟨y.1,y.2.1,y.2.2,.inr ⟨_,_,b,hD,rfl,by rw[a7a];exact hb,v.symm⟩,a,t,i,ei,ey⟩
theorem b5m{H:Hp}{W c:Ad}{ts:LN}{ws:TW}{as:As}{x y:Nsq}(a:WordsAt H W ws as)(t:Told (a0k ts) ts.length x ws)(hc:H c=some (.tup (y.map nv))): ∃o,DGet H W (.ref c) o/\o.isSome=rch ts x y:=by
 refine⟨_,.inr ⟨_,nk y,c,.inl a.dict,rfl,by rw[a7a];exact hc,rfl⟩,?_⟩;by_cases m:y∈ws.map (·.1)
 ·rw[rch_iff.mpr ((b5l t y).mp m)];obtain⟨p,hp,rfl⟩:=a0R.mp m;obtain⟨l,e,_⟩:=a.word t.keys hp;rw[e];rfl
 ·rw[b1s m];cases z:rch ts x y with
  |false=>rfl
  |true=>exact wC ((b5l t y).mpr (rch_iff.mp z)) m
noncomputable def alike (ts xs:LN) (x:Nsq):LN:=xs.filter fun y=>rch ts x y&&rch ts y x
noncomputable def classes (ts xs:LN):L3q:=(xs.filter fun x=>(alike ts xs x).head? ==some x).map (alike ts xs)
def big(fam:LN):LN:=fam.filter fun x=>decide (1<x.length)
def a7d(T:Ad)(pos:Pos):Sp:=fun vs H Q _=> ∃(m:Ad) (ts:LN) (n:Nat),vs=[.ref m]/\Mach H m ts n/\Tabs H/\
 ∀D fam ys H',Keeps H H'->Tabs H'->L2.noT H D=none->FamOf ts n fam->H' D=some (.dT (kvW (big fam) ys))->WB H' D ts (big fam) ys->(∀y∈ys,∀b∈y.2.2,L2.noT H b=none)->ys.Pairwise (fun p q=> ∀b∈p.2.2,b∉q.2.2)->Q (.ref D) H'
def c9a:Sp:=fun vs H Q _=> ∃(D p:Ad) (o:Obj) (ts xs:LN) (ys:List WE) (x:Nsq),vs=[.ref D,.ref p]/\H D=some (.frz o (.dT (kvW xs ys)))/\WB H D ts xs ys/\H p=some (.tup (x.map nv))/\x∈xs/\xs.length<=32/\
 ∀l bs H',Same H H'->H l=none->H' l=some (.lst (bs.map .ref))->TupsAt H' bs (alike ts xs x)->Q (.ref l) H'
theorem a9z{T:Ad}(F:Fun K "words_between" "words_between" a5n f fd)(qC:a0u P w K mg base "family" 14 ["machine"] (b5k T (⟨49,40,49,93⟩:Pos)))(jO:a0u P w K mg base "sets_reached" 10 ["machine","rooms"] (a5s T (⟨49,40,49,93⟩:Pos)))(jC:mg "len"=none):FnOk P w K mg base CX0 16 f fd ["machine"] (a7d T (⟨49,40,49,93⟩:Pos)):=by
 refine F.ok kU (fun vs H Q E h=>?_) (fun cdv A outer s H vs Q E hr h=>?_)
 ·obtain⟨m,ts,n,rfl,_⟩:=h;rfl
 obtain⟨m,ts,n,rfl,M,hT,q⟩:=h;have hu:=hr.units;have hu1:=a7s hr;refine⟨_,(a0d (a0p (i:=1) kU.nd rfl (Or.inl rfl) b0c) (a0d (a3o a2J rfl (a2a (a0m qC hr.m rfl (a0g (pv 0) a0i))) (a1c (i:=2) kU.nd rfl (Or.inl rfl)) (a0h (a4l (a1p d4w (a0t a0n rfl jC a4C (a0g (pv 2) a0i)) a0l (a2e _)) (a0h (b1f hu1 (pv 1) (pv 2) (a0m jO hr.m rfl (a0v (a0b (pv 0) (a0b (pv 2) a0o rfl) rfl))) rfl)) a1v))) (a0h (a0s (pv 1))))),?_⟩;intro D hD;have kD:=a0c hD (.dT []);refine⟨_,rfl,m,ts,n,rfl,M.same kD,hT.same kD,fun so fs fam H1 k1 T1 nso eso Tf ff=>?_⟩;have eD1:=k1 _ _ (nU (a0a:upd H D (.dT []) D=_));have k01:=kD.keeps.trans k1;have lf:=Tf.len;have few:=ff.few M;have fnd:fam.Nodup:=ff.up.imp fun {a b} z e=>by
  subst e;rw[(a2v gl fam).irr]at z;cases z
 have nDT:=c1g hD
 let Pv:Nat->L2.St->Hp->Prop:=fun i σ H'=>Keeps H H'/\Tabs H'/\H' so=some (.lst (fs.map .ref))/\TupsAt H' fs fam/\ ∃ys o2,H' D=some (.dT (kvW (big (fam.take i)) ys))/\WB H' D ts (big (fam.take i)) ys/\(∀y∈ys,∀b∈y.2.2,L2.noT H b=none)/\ys.Pairwise (fun p q=> ∀b∈p.2.2,b∉q.2.2)/\σ=[some (.ref m),some (.ref D),o2]
 refine⟨so,rfl,⟨_,SqL.of eso⟩,a4n (xs:=fs.map .ref) Pv ⟨k01,T1,eso,Tf,[],none,eD1,⟨rfl,fun i x y e=>by simp[big]at e,List.nodup_nil⟩,fun _ h=>(nomatch h),.nil,rfl⟩ (fun i σ H' _ p=>SqL.of p.2.2.1) (fun i v σ H2 hv p=>?_) (fun σ H2 p=>?_)⟩
 ·obtain⟨k2,T2,es2,Tf2,ys,o2,eD2,wb,nw,ap,rfl⟩:=p;rw[a0F]at hv;obtain⟨b,eb,rfl⟩:=a0O.mp hv;have li:=(a0B.mp eb).1;obtain⟨x,ex⟩: ∃x,fam[i]? =some x:=⟨_,a0A (by lia)⟩;have hb:=Tf2.is i b x eb ex;have mx:=a0E ex;have nx:big (fam.take (i+1))=big (fam.take i)++(if 1<x.length then[x]else[]):=by
   unfold big;rw[a2L,ex,a6L];by_cases c:1<x.length
   ·rw[wB c];simp[c]
   ·rw[wA c];simp[c]
  refine⟨_,rfl,b,_,rfl,.inr (SqT.of hb),_,_,rfl,rfl,_,rfl,c5v (fun c=>?_) (fun c=>?_)⟩
  ·have c1:1<x.length:=by
    have z:=a1V c;rw[a0C]at z;lia
   rw[wB c1]at nx;refine⟨_,rfl,_,rfl,m,b,ts,n,x,rfl,M.keeps k2,hb,ff.inU M mx,T2,fun W ws as H3 k3 T3 Wd nw3 TT=>?_⟩;have eD3:=k3 _ _ (nU eD2);have hb3:=k3 _ _ (nU hb);have wb3:=wb.keeps k3;have WD:W≠D:=fun z=>by
    subst z;have z2:=nw3 W (a0T ..);rw[nU eD2]at z2;cases z2
   have xn:x∉big (fam.take i):=fun h=>by
    have h1:=(a0S.mp h).1;obtain⟨j,ej⟩:=a1F.mp h1;have lj:=(a0B.mp ej).1;rw[a0W]at lj;rw[a2G (by lia)]at ej;have:=(a2M (by lia) fnd).mp (ej.trans ex.symm)
    lia
   have vn:b2w (kvW (big (fam.take i)) ys) (nk x)=none:=b1s (by rw[b2f];exact xn);have lk:(kvW (big (fam.take i)) ys).length<sizeLine:=by
    rw[<-a0C (f:=(·.1)),a8k wb.len,a0C,a0Y];have z1:(big (fam.take i)).length<=(fam.take i).length:=a1Y _ _;rw[a0W]at z1;lia
   refine⟨_,rfl,_,rfl,D,_,rfl,DPut.t eD3 (by rw[a7a];exact hb3) lk,?_⟩;have es3:=k3 _ _ (nU es2);have Tf3:TupsAt H3 fs fam:=⟨Tf2.len,fun i b u e1 e2=>k3 _ _ (nU (Tf2.is i b u e1 e2))⟩;have ek:b6t (kvW (big (fam.take i)) ys) (nk x) (.ref W)=kvW (big (fam.take (i+1))) (ys++[(W,ws,as)]):=by
    rw[b4j _ vn,nx];unfold kvW;rw[a1B,a1B];exact(b4p (ws:=(big (fam.take i)).map fun x=>(x,[])) (as:=ys.map (·.1)) (p:=(x,[])) (a:=W) (by simp[wb.len])).symm
   have wo:=wb3.off (o:= .dT (kvW (big (fam.take (i+1))) (ys++[(W,ws,as)]))) eD3;have Wo:WordsAt (upd H3 D (.dT (kvW (big (fam.take (i+1))) (ys++[(W,ws,as)])))) W ws as:=⟨Wd.len,by rw[a0f WD];exact Wd.dict,fun j l p h1 h2=>by
    have z:=Wd.list j l p h1 h2;rw[a0f (nE z eD3)];exact z⟩
   rw[ek];refine⟨fun b' o hb'=>?_,?_,?_,?_,ys++[(W,ws,as)],_,a0a,⟨?_,fun j x' y' e1 e2=>?_,?_⟩,?_,?_,rfl⟩
   ·rw[a0f fun z=>?_]
    ·exact(k2.trans k3) _ _ hb'
    ·subst z;rw[nDT]at hb';cases hb'
   ·exact T3.most fun b' u nd _ hb'=>by rw[a0f (a8s hb' eD3 fun e=>nd _ e)];exact hb'
   ·rw[a0f (nE es3 eD3)];exact es3
   ·exact a4x Tf3 eD3 fun _ e=>nomatch e
   ·rw[nx,a0L,a0L,wb.len];rfl
   ·rw[nx]at e1;have hl:=wb.len;by_cases hj:j<ys.length
    ·rw[a0N (by lia)]at e1;rw[a0N hj]at e2;exact wo.each j x' y' e1 e2
    ·rw[a0M (by lia)]at e1 e2;have z:j-ys.length=0:=by
      have:=(a0B.mp e2).1;simp at this;lia
     rw[<-hl,z]at e1;rw[z]at e2;cases e1;cases e2;exact⟨Wo,TT,WD⟩
   ·rw[nx,a9W];refine⟨wb.nd,by simp,fun a ha c hc e=>xn ?_⟩;rw[a0J.mp hc]at e;rw[<-e];exact ha
   ·intro y hy b' hb'
    rcases a0Q.mp hy with h|h
    ·exact nw y h b' hb'
    ·rw[a0J.mp h]at hb';have z:=nw3 b' (.tail _ hb');cases y2:L2.noT H b' with
     |none=>rfl
     |some o=>
      have z3:=k2 _ _ y2;rw[b1t z3 (b7h y2).2]at z;cases z
   ·rw[a1T];refine⟨ap,a3R _ _,fun p hp q' hq b' hb' hb2=>?_⟩;rw[a0J.mp hq]at hb2;have z:=nw3 b' (.tail _ hb2);obtain⟨j,ej⟩:=a1F.mp hp;have lj:=(a0B.mp ej).1;have hl:=wb.len;obtain⟨x',ex'⟩: ∃x',(big (fam.take i))[j]? =some x':=⟨_,a0A (by lia)⟩;obtain⟨a',_⟩:=wb.each j x' p ex' ej;obtain⟨j2,ej2⟩:=a1F.mp hb';have lj2:=(a0B.mp ej2).1;have z2:=a'.list j2 b' _ ej2 (a0A (by rw[<-a'.len];exact lj2));rw[nU z2]at z;cases z
  ·have c1: ¬1<x.length:=by
    have z:=a7U (a5S.mpr c);rw[a0C]at z;lia
   rw[wA c1,a2I]at nx;refine⟨k2,T2,es2,Tf2,ys,_,?_,?_,nw,ap,rfl⟩
   ·rw[nx];exact eD2
   ·rw[nx];exact wb
 ·obtain⟨k2,T2,es2,Tf2,ys,o2,eD2,wb,nw,ap,rfl⟩:=p;rw[a0C,lf,a2B]at eD2 wb;exact⟨_,rfl,q D fam ys H2 k2 T2 nDT ff eD2 wb nw ap⟩
theorem d2r(F:Fun K "alike_sets" "alike_sets" a6w f fd):FnOk P w K mg base CX0 1 f fd ["words","rooms"] c9a:=by
 refine F.ok b9t (fun vs H Q E h=>?_) (fun cdv A outer s H vs Q E hr h=>?_)
 ·obtain⟨D,p,o,ts,xs,ys,x,rfl,_⟩:=h;rfl
 obtain⟨D,p,o,ts,xs,ys,x,rfl,hD,wb,hp,hx,few,q⟩:=h;have hu:=hr.units;have hu1:=a7s hr;refine⟨_,(a0h (a0s (a1m (CompSc.to (N:=["words","rooms"]) (osc:=a0e a6w) (vs:=["other"]) {}) rfl rfl (c8b (pv 0)) (fun _ _ _ _=>b1h (PW.pt (b3g (b3e (c0v hu1 (pv 0) (a5j hu1 (pv 1) (pv 2) (fun _ _=>rfl)))) (a8t (b3e (c0v hu1 (pv 2) (a5j hu1 (pv 1) (pv 0) (fun _ _=>rfl)))))))) (fun _ _ _ _=>(pv 0))))),?_⟩;refine⟨_,rfl,D,_,xs,rfl,a8k wb.len,.inr ⟨o,hD⟩,fun o' H2 fz=>?_⟩;have e2:o'=o/\H2=H:=by
  rcases fz with⟨e,rfl⟩|⟨e,_⟩
  ·rw[hD]at e;injection e with e
   injection e with e _
   exact⟨e.symm,rfl⟩
  ·rw[hD]at e;cases e
 obtain⟨rfl,rfl⟩:=e2;have rd:Rd H2 D (.dT (kvW xs ys)):= .inr ⟨_,hD⟩;refine c8c (a8k wb.len) (fun i ys' H'=>H'=H2/\ ∃cs,ys'=cs.map V.ref/\cs.length<=i/\TupsAt H2 cs ((xs.take i).filter fun y=>rch ts x y&&rch ts y x)) (by rw[a0Y];lia) ⟨rfl,[],rfl,a0K _,rfl,fun i b u e=>by simp at e⟩ (fun i ys' H' _ p'=>?_) (fun i a t ys' H' et ha p'=>?_) (fun ys' H' p' c1 hc1=>?_)
 ·obtain⟨rfl,cs,rfl,e,_⟩:=p';exact⟨hD,by rw[a0C];exact e⟩
 ·obtain⟨rfl,cs,rfl,e,Tc⟩:=p';have z:=a8j (f:=fun y=>rch ts x y&&rch ts y x) Tc et ha;obtain⟨W,ws,as,dg,wa,tt,_⟩:=wb.get rd hx hp;obtain⟨o1,d1,s1⟩:=b5m wa tt ha;have ht:=a0E et;obtain⟨W2,ws2,as2,dg2,wa2,tt2,_⟩:=wb.get rd ht ha;obtain⟨o2,d2,s2⟩:=b5m wa2 tt2 hp;refine⟨a1l,_,rfl,_,rfl,_,rfl,D,_,rfl,dg,W,o1,rfl,d1,_,rfl,?_⟩;rw[s1];cases c1:rch ts x t with
  |false=>
   rw[c1,a9U,wA (by decide)]at z;exact a9l (a9l ⟨rfl,cs,rfl,by lia,z⟩)
  | true=>
   rw[c1,a9B]at z;refine b1c ⟨_,rfl,_,rfl,_,rfl,D,_,rfl,dg2,W2,o2,rfl,d2,_,rfl,?_⟩;rw[s2];cases c2:rch ts t x with
   |true=>
    rw[c2,wB rfl]at z;exact b1c ⟨_,rfl,rfl,cs++[a],by simp,by simp;exact e,z⟩
   |false=>
    rw[c2,wA (by decide)]at z;exact a9l ⟨rfl,cs,rfl,by lia,z⟩
 ·obtain⟨rfl,cs,rfl,_,Tc⟩:=p';rw[a2B]at Tc;have kc:=a0c hc1 (.lst (cs.map V.ref));exact q c1 cs _ kc hc1 a0a (Tc.same kc)
structure LsAt(H:Hp)(as:As)(cs:L3q):Prop where
 len:as.length=cs.length
 is: ∀(i:Nat) (a:Ad) (c:LN),as[i]? =some a->cs[i]? =some c-> ∃bs:As,H a=some (.lst (bs.map .ref))/\TupsAt H bs c
theorem LsAt.same{H H':Hp}{as:As}{cs:L3q}(h:LsAt H as cs)(g:Same H H'):LsAt H' as cs:=⟨h.len,fun i a c e1 e2=>let⟨bs,h1,h2⟩:=h.is i a c e1 e2;⟨bs,g _ _ h1,h2.same g⟩⟩
theorem LsAt.off{H:Hp}{l:Ad}{xs:List V}{o:HO}{as:As}{cs:L3q}(h:LsAt H as cs)(hl:H l=some (.lst xs))(no:l∉as):LsAt (upd H l o) as cs:=⟨h.len,fun i a c e1 e2=>by
 obtain⟨bs,h1,h2⟩:=h.is i a c e1 e2;refine⟨bs,?_,a4x h2 hl fun _ e=>nomatch e⟩;rw[a0f fun(z:a=l)=>no (by rw[<-z];exact a0E e1)];exact h1⟩
theorem LsAt.snoc{H:Hp}{as:As}{cs:L3q}{a:Ad}{c:LN}{bs:As}(h:LsAt H as cs)(ha:H a=some (.lst (bs.map .ref)))(T:TupsAt H bs c):LsAt H (as++[a]) (cs++[c]):=by
 refine⟨by simp[h.len],fun i b v e1 e2=>?_⟩;have l:=h.len;by_cases hi:i<cs.length
 ·rw[a0N (by lia)]at e1 e2;exact h.is i b v e1 e2
 ·rw[a0M (by lia)]at e1 e2;have z:i-cs.length=0:=by
   have:=(a0B.mp e2).1;simp at this;lia
  rw[l,z]at e1;rw[z]at e2;cases e1;cases e2;exact⟨bs,ha,T⟩
theorem a9f{ts xs:LN}{x:Nsq}(hx:x∈xs):x∈alike ts xs x:=a0S.mpr ⟨hx,by rw[rch_iff.mpr (Rch.refl ts x)];rfl⟩
def c2f:Sp:=fun vs H Q _=> ∃(D:Ad) (ts xs:LN) (ys:List WE),vs=[.ref D]/\H D=some (.dT (kvW xs ys))/\WB H D ts xs ys/\xs.length<=32/\
 ∀l o as H',Same (upd H D (.frz o (.dT (kvW xs ys)))) H'->H l=none->H' l=some (.lst (as.map .ref))->LsAt H' as (classes ts xs)->(∀a∈as,H a=none)->Q (.ref l) H'
theorem c4l(F:Fun K "sets_of_levels" "sets_of_levels" a5o f fd)(qG:a0u P w K mg base "alike_sets" 1 ["words","rooms"] c9a):FnOk P w K mg base CX0 3 f fd ["words"] c2f:=by
 refine F.ok kE (fun vs H Q E h=>?_) (fun cdv A outer s H vs Q E hr h=>?_)
 ·obtain⟨D,ts,xs,ys,rfl,_⟩:=h;rfl
 obtain⟨D,ts,xs,ys,rfl,hD,wb,few,q⟩:=h;have hu:=hr.units;have hu1:=a7s hr;refine⟨_,(a0d (a0p (i:=1) kE.nd rfl (Or.inl rfl) (a2t a0i)) (a0d (a3o a2J rfl (c8b (pv 0)) (a1c (i:=2) kE.nd rfl (Or.inl rfl)) (a0d (a0p (i:=3) kE.nd rfl (Or.inl rfl) (a0m qG hr.m rfl (a0v (a0b (pv 0) (a0b (pv 2) a0o rfl) rfl)))) (a0h (a4l (a1p (c0y hu) (a0w a1j (pv 3) a0l (fun _ _=>rfl)) (pv 2) (a2e _)) (a0h (a3f (a6z a1P a2D a2E a2b (pv 1) (a0g (pv 3) a0i)))) a1v)))) (a0h (a0s (pv 1))))),?_⟩;refine⟨by show 0<=sizeLine;decide,fun fo hfo=>?_⟩;have kf:=a0c hfo (.lst []);have hD1:=kf _ _ hD;have foD:fo≠D:=(a0j hD hfo).symm;refine⟨_,rfl,D,_,xs,rfl,a8k wb.len,.inl hD1,fun o H2 fz=>?_⟩;have e2:H2=upd (upd H fo (.lst [])) D (.frz o (.dT (kvW xs ys))):=by
  rcases fz with⟨e,_⟩|⟨_,e⟩
  ·rw[hD1]at e;cases e
  ·exact e
 have gz:Same (upd H D (.frz o (.dT (kvW xs ys)))) H2:=fun b u hb=>by
  rw[e2];by_cases z:b=D
  ·subst z;rw[a0a]at hb⊢;exact hb
  ·rw[a0f z]at hb⊢;exact kf _ _ hb
 have wz:WB (upd H D (.frz o (.dT (kvW xs ys)))) D ts xs ys:=wb.off hD;have foz:H2 fo=some (.lst []):=by rw[e2,a0f foD,a0a]
 have nfo:upd H D (.frz o (.dT (kvW xs ys))) fo=none:=by rw[a0f foD];exact hfo
 clear e2 fz
 let Pv:Nat->L2.St->Hp->Prop:=fun i σ H'=>Same (upd H D (.frz o (.dT (kvW xs ys)))) H'/\ ∃as o2 o3,H' fo=some (.lst (as.map .ref))/\fo∉as/\(∀a∈as,H a=none)/\as.length<=i/\LsAt H' as (((xs.take i).filter fun x=>(alike ts xs x).head? ==some x).map (alike ts xs))/\σ=[some (.ref D),some (.ref fo),o2,o3]
 refine d2i (a8k wb.len) Pv ⟨gz,[],none,none,foz,by simp,(fun _ h=>nomatch h),Nat.le_refl _,⟨rfl,fun i a c e=>by simp at e⟩,rfl⟩ (fun i σ H' _ p=>p.1 _ _ a0a) (fun i a x σ H3 ex ha p=>?_) (fun σ H3 p=>?_)
 ·obtain⟨g3,as,o2,o3,fo3,nfa,fr3,lim,L3,rfl⟩:=p;have mx:=a0E ex;refine⟨_,rfl,_,rfl,D,a,o,ts,xs,ys,x,rfl,g3 _ _ a0a,wz.same g3,ha,mx,few,fun l bs H4 g4 nl el Tl=>?_⟩;have lb:=Tl.len;have self:=a9f (ts:=ts) mx;obtain⟨y,rest,ea⟩: ∃y rest,alike ts xs x=y::rest:=by
   cases z:alike ts xs x with
   |nil=>rw[z]at self;cases self
   |cons y rest=>exact⟨y,rest,rfl⟩
  have b1:0<bs.length:=by
   rw[lb,ea];simp
  obtain⟨b,eb⟩: ∃b,bs[0]? =some b:=⟨_,a0A b1⟩;have hb:H4 b=some (.tup (y.map nv)):=Tl.is 0 b y eb (by rw[ea];rfl);have hat:atI (bs.map V.ref) ((0:Nat):Int)=some (.ref b):=a1x (by rw[a0F,eb];rfl);have nx:((xs.take (i+1)).filter fun x=>(alike ts xs x).head? ==some x).map (alike ts xs)=((xs.take i).filter fun x=>(alike ts xs x).head? ==some x).map (alike ts xs)++(if y=x then[alike ts xs x]else[]):=by
   rw[a2L,ex,a6L,a1B];by_cases c:y=x
   ·rw[wB c];simp[ea,c]
   ·rw[wA c];simp[ea,c]
  refine⟨_,rfl,l,_,_,_,rfl,rfl,SqL.of el,hat,_,rfl,b,a,0,_,_,rfl,rfl,a5c (SqT.of hb),a5c (SqT.of (g4 _ _ ha)),by decide,fun c hc=>⟨_,rfl,?_⟩⟩;have fo4:=g4 _ _ fo3;have lfo:l≠fo:=(a0j fo3 nl).symm;have nlH:H l=none:=by
   cases z:H l with
   |none=>rfl
   | some u=>
    by_cases e:l=D
    ·have z2:=g3 _ _ (a0a (H:=H) (a:=D) (o:= .frz o (.dT (kvW xs ys))));rw[<-e,nl]at z2;cases z2
    ·have z2:=g3 l u (by rw[a0f e];exact z);rw[nl]at z2;cases z2
  by_cases e:y=x
  ·have hc':c=true:=hc.mpr (dt_natsT.mpr e);subst hc';rw[wB e]at nx;refine b1c ⟨_,rfl,.inl ⟨rfl,_,SqL.of fo4⟩,_,rfl,fo,_,_,rfl,rfl,fo4,by rw[a0C,a0Y];have:=(a0B.mp ex).1;lia,?_⟩;have L4:=(L3.same g4).snoc el Tl;have na:fo∉as++[l]:=fun z=>(a0Q.mp z).elim nfa fun z=>lfo (a0J.mp z).symm
   refine⟨a1e (g3.trans g4) nfo,as++[l],_,_,by rw[a0a,a1B];rfl,na,(fun a ha=>(a0Q.mp ha).elim (fr3 a) fun z=>by rw[a0J.mp z];exact nlH),by rw[a0L];simp;lia,?_,rfl⟩;rw[nx];exact L4.off fo4 na
  ·have hc':c=false:=by
    cases c with
    |false=>rfl
    |true=>exact wC (dt_natsT.mp (hc.mp rfl)) e
   subst hc';rw[wA e,a2I]at nx;refine a9l ⟨g3.trans g4,as,_,_,fo4,nfa,fr3,by lia,?_,rfl⟩;rw[nx];exact L3.same g4
 ·obtain⟨g3,as,o2,o3,fo3,nfa,fr3,lim,L3,rfl⟩:=p;rw[a2B]at L3;exact⟨_,rfl,q fo o as H3 g3 hfo fo3 L3 fr3⟩
noncomputable def ledTo (ts:LN) (cs:L3q) (c:LN):Bool:=cs.any fun d=>decide (d≠c)&&rch ts (d.headD []) (c.headD [])
theorem b0p{K:W.Frag}{H:Hp}{a:Ad}{bs:As}{c:LN}{n:Nat}(h1:H a=some (.lst (bs.map .ref)))(T:TupsAt H bs c):Rep K H (n+2) (.lst (c.map fun u=> .tup (dtN u))) (.ref a):=by
 refine .lst (SqL.of h1) (by rw[a0C,a0C,T.len]) fun i d v e1 e2=>?_;rw[a0F]at e1 e2;obtain⟨p,ep,rfl⟩:=a0O.mp e1;obtain⟨a,ea,rfl⟩:=a0O.mp e2;exact a5c (SqT.of (T.is i a p ea ep))
theorem b5n{H:Hp}{bs:As}{c:LN}(T:TupsAt H bs c)(ne:c≠[]): ∃b,atI (bs.map V.ref) 0=some (.ref b)/\H b=some (.tup ((c.headD []).map nv))/\c.headD []∈c:=by
 have lb:=T.len;obtain⟨y,rest,ea⟩: ∃y rest,c=y::rest:=by
  cases c with
  |nil=>exact wC rfl ne
  |cons y rest=>exact⟨y,rest,rfl⟩
 subst ea;obtain⟨b,eb⟩: ∃b,bs[0]? =some b:=⟨_,a0A (by rw[lb];simp)⟩;have z:atI (bs.map V.ref) ((0:Nat):Int)=some (.ref b):=a1x (by rw[a0F,eb];rfl);exact⟨b,z,T.is 0 b y eb rfl,a0T ..⟩
def c9b:Sp:=fun vs H Q _=> ∃(D a l:Ad) (ts xs:LN) (ys:List WE) (c:LN) (cs:L3q) (bs as:As),vs=[.ref D,.ref a,.ref l]/\Rd H D (.dT (kvW xs ys))/\WB H D ts xs ys/\H a=some (.lst (bs.map .ref))/\TupsAt H bs c/\H l=some (.lst (as.map .ref))/\LsAt H as cs/\c≠[]/\(∀d∈cs,d≠[]/\ ∀x∈d,x∈xs)/\cs.length<=32/\
 ∀H',Same H H'->Q (.bl (ledTo ts cs c)) H'
theorem b8b(F:Fun K "is_led_to" "is_led_to" b0l f fd)(qX:mg "any"=none):FnOk P w K mg base CX0 1 f fd ["words","sets","waiting"] c9b:=by
 refine F.ok c8o (fun vs H Q E h=>?_) (fun cdv A outer s H vs Q E hr h=>?_)
 ·obtain⟨D,a,l,ts,xs,ys,c,cs,bs,as,rfl,_⟩:=h;rfl
 obtain⟨D,a,l,ts,xs,ys,c,cs,bs,as,rfl,rd,wb,ha,Ta,hl,L,cne,csx,few,q⟩:=h;have hu:=hr.units;have hu1:=a7s hr;have la:=L.len;obtain⟨b0,at0,hb0,_⟩:=b5n Ta cne;refine⟨_,(a0h (a0s (a0t (b7e rfl) rfl qX boot_any (a0g (a1m (CompSc.to (N:=["words","sets","waiting"]) (osc:=a0e b0l) (vs:=["other"]) {}) rfl rfl (a2a (pv 2)) (fun _ _ _ _=>a2q) (fun _ _ _ _=>(d3j (b0t (OpR.k (K:=K) (fun K=>d7e K true) (b6x hu) rfl) (pv 0) (pv 2) (a2e _)) (d3i (d7l (c0v hu1 (a0w (IxR.k (K:=K) rIxL a1j rfl) (pv 2) a0l (fun _ _=>rfl)) (a5j hu1 (pv 1) (a0w (IxR.k (K:=K) rIxL a1j rfl) (pv 0) a0l (fun _ _=>rfl)) (fun _ _=>rfl)))))))) a0i)))),?_⟩;refine⟨_,rfl,l,rfl,⟨_,SqL.of hl⟩,a2j (xs:=as.map .ref) (fun i ys' H'=>H'=H/\ys'=((cs.take i).map fun d=>decide (d≠c)&&rch ts (d.headD []) (c.headD [])).map V.bl) (by rw[a0C,a0Y];lia) ⟨rfl,rfl⟩ (fun i ys' H' hi p=>?_) (fun i v ys' H' hv p=>?_) (fun ys' H' p c1 hc1=>?_)⟩
 ·obtain⟨rfl,rfl⟩:=p;exact⟨SqL.of hl,by simp;lia⟩
 ·obtain⟨rfl,rfl⟩:=p;rw[a0F]at hv;obtain⟨e,ee,rfl⟩:=a0O.mp hv;have li:=(a0B.mp ee).1;obtain⟨d,ed⟩: ∃d,cs[i]? =some d:=⟨_,a0A (by lia)⟩;obtain⟨ds,he,Td⟩:=L.is i e d ee ed;obtain⟨dne,dx⟩:=csx d (a0E ed);obtain⟨b1,at1,hb1,m1⟩:=b5n Td dne;have nx:((cs.take (i+1)).map fun d=>decide (d≠c)&&rch ts (d.headD []) (c.headD [])).map V.bl=((cs.take i).map fun d=>decide (d≠c)&&rch ts (d.headD []) (c.headD [])).map V.bl++[V.bl (decide (d≠c)&&rch ts (d.headD []) (c.headD []))]:=by
   rw[a2L,ed,a1B,a1B];rfl
  refine⟨a1l,a4r ?_⟩;refine⟨_,rfl,_,rfl,e,a,1,_,_,rfl,rfl,b0p he Td,b0p ha Ta,by decide,fun cc hc=>?_⟩;by_cases ec:d=c
  ·have hc':cc=true:=hc.mpr (by rw[ec]);subst hc';refine⟨_,rfl,a9l ⟨rfl,?_⟩⟩;rw[nx,a1J (fun z=>z ec)];rfl
  ·have hc':cc=false:=by
    cases cc with
    |false=>rfl
    |true=>exact wC (c8x (hc.mp rfl)) ec
   subst hc';obtain⟨W,ws,wa,dg,wt,tt,_⟩:=wb.get rd (dx _ m1) hb1;obtain⟨o1,d1,s1⟩:=b5m wt tt hb0;refine⟨_,rfl,b1c ⟨_,rfl,a,_,_,_,rfl,rfl,SqL.of ha,at0,_,rfl,_,rfl,e,_,_,_,rfl,rfl,SqL.of he,at1,D,_,rfl,dg,W,o1,rfl,d1,rfl,?_⟩⟩;rw[nx,a1A ec,a9B,s1]
 ·obtain⟨rfl,rfl⟩:=p;rw[a0C,la,a2B];have e2:(cs.map fun d=>decide (d≠c)&&rch ts (d.headD []) (c.headD [])).any id=ledTo ts cs c:=by
   unfold ledTo;rw[b0I];rfl
  refine⟨c1,_,rfl,SqL.of a0a,?_⟩
  try dsimp only
  rw[e2];exact q _ (a0c hc1 _)
inductive Ord (ts:LN):L3q->List LN->Prop
 |nil:Ord ts [] []
 |cons {cs told:L3q} {s:LN} (h:(cs.filter fun c=> !ledTo ts cs c).head? =some s) (r:Ord ts (cs.filter fun c=>decide (c≠s)) told):Ord ts cs (s::told)
def b3v(ts:LN)(cs:L3q):Prop:= ∀c∈cs,∀d∈cs,rch ts (c.headD []) (d.headD [])=true->rch ts (d.headD []) (c.headD [])=true->c=d
theorem c2g{α:Type}{xs:List α}{p q:α->Bool}(h: ∀z∈xs,p z=true->q z=true)(e: ∃z∈xs,q z=true/\p z=false):xs.countP p<xs.countP q:=by
 induction xs with
 |nil=>
  obtain⟨z,hz,_⟩:=e;cases hz
 | cons x xs ih=>
  rw[a8T,a8T];have mono:xs.countP p<=xs.countP q:=List.countP_mono_left fun z hz hp=>h z (.tail _ hz) hp;obtain⟨z,hz,h1,h2⟩:=e
  rcases a1L.mp hz with rfl|hz
  ·rw[h1,h2];simp;lia
  ·have:=ih (fun z hz=>h z (.tail _ hz)) ⟨z,hz,h1,h2⟩;have hx:=h x (a0T ..);cases c1:p x with
   |true=>
    rw[hx c1];simp;lia
   |false=>
    simp;split<;>lia
theorem b5o{ts:LN}{cs:L3q}(un:b3v ts cs): ∀(k:Nat) (s:LN),s∈cs->cs.countP (fun t=>rch ts (t.headD []) (s.headD []))<=k-> ∃s∈cs,ledTo ts cs s=false
 |0,s,hs,hk=>by
  have z:0<cs.countP (fun t=>rch ts (t.headD []) (s.headD [])):=List.countP_pos_iff.mpr ⟨s,hs,rch_iff.mpr (Rch.refl ts _)⟩;lia
 | k+1,s,hs,hk=>by
  cases c:ledTo ts cs s with
  |false=>exact⟨s,hs,c⟩
  | true=>
   obtain⟨d,hd,h1⟩:=a8P.mp c;rw[a2P,a6M]at h1;obtain⟨ne,r⟩:=h1;have lt:=c2g (xs:=cs) (p:=fun t=>rch ts (t.headD []) (d.headD [])) (q:=fun t=>rch ts (t.headD []) (s.headD [])) (fun z _ hz=>rch_iff.mpr ((rch_iff.mp hz).trans (rch_iff.mp r))) ⟨s,hs,rch_iff.mpr (Rch.refl ts _),by
    cases z:rch ts (s.headD []) (d.headD [])with
    |false=>rfl
    |true=>exact wC (un d hd s hs r z) ne⟩
   exact b5o un k d hd (by lia)
theorem c9c{H:Hp}{es as:As}{cs:L3q}{f:LN->Bool}{i:Nat}{a:Ad}{c:LN}(L:LsAt H es ((cs.take i).filter f))(ec:cs[i]? =some c){bs:As}(ha:H a=some (.lst (bs.map .ref)))(T:TupsAt H bs c):if f c=true then LsAt H (es++[a]) ((cs.take (i+1)).filter f)else LsAt H es ((cs.take (i+1)).filter f):=by
 have nx:(cs.take (i+1)).filter f=(cs.take i).filter f++(if f c=true then[c]else[]):=by
  rw[a2L,ec,a6L];cases z:f c with
  |true=>simp[z]
  |false=>simp[z]
 by_cases z:f c=true
 ·rw[wB z,nx,wB z];exact L.snoc ha T
 ·rw[wA z,nx,wA z,a2I];exact L
def b3w:Sp:=fun vs H Q _=> ∃(D l:Ad) (ts xs:LN) (ys:List WE) (cs:L3q) (as:As),vs=[.ref D,.ref l]/\Rd H D (.dT (kvW xs ys))/\WB H D ts xs ys/\H l=some (.lst (as.map .ref))/\LsAt H as cs/\(∀d∈cs,d≠[]/\ ∀x∈d,x∈xs)/\b3v ts cs/\cs.length<=32/\
 ∀l2 as2 told H',Same H H'->H l2=none->H' l2=some (.lst (as2.map .ref))->LsAt H' as2 told->Ord ts cs told->told.length<=32->(∀d∈told,d∈cs)->(∀a∈as2,a∈as)->Q (.ref l2) H'
theorem c9d{H H':Hp}{a:Ad}{u:HO}(h:Rd H a u)(g:Same H H'):Rd H' a u:=h.elim (fun e=> .inl (g _ _ e)) fun⟨o,e⟩=> .inr ⟨o,g _ _ e⟩
theorem a8l(F:Fun K "levels_in_order" "levels_in_order" a2w f fd)(qL:a0u P w K mg base "is_led_to" 1 ["words","sets","waiting"] c9b):FnOk P w K mg base CX0 3 f fd ["words","waiting"] b3w:=by
 refine F.ok jX (fun vs H Q E h=>?_) (fun cdv A outer s H vs Q E hr h=>?_)
 ·obtain⟨D,l,ts,xs,ys,cs,as,rfl,_⟩:=h;rfl
 obtain⟨D,l0,ts,xs,ys,cs0,as0,rfl,rd,wb,hl0,L0,csx,un,few,q⟩:=h;have hu:=hr.units;have hu1:=a7s hr;refine⟨_,(a0d (a0p (i:=2) jX.nd rfl (Or.inl rfl) (a2t a0i)) (a0d (c0p a2J (c0q (pv 1) (fun _=>rfl)) (a0d (a0p (i:=3) jX.nd rfl (Or.inr rfl) (a1m (CompSc.to (N:=["words","waiting","told","free"]) (osc:=a0e a2w) (vs:=["sets"]) {}) rfl rfl (a2a (pv 1)) (fun _ _ _ _=>b1h (d3h (b3f (a0m qL hr.m rfl (a0v (a0b (pv 1) (a0b (pv 0) (a0b (pv 2) a0o rfl) rfl) rfl)))))) (fun _ _ _ _=>(pv 0)))) (a0d (a3f (a6z a1P a2D a2E a2b (pv 2) (a0g (a0w a1j (pv 3) a0l (fun _ _=>rfl)) a0i))) (a0h (a0p (i:=1) jX.nd rfl (Or.inr rfl) (a1m (CompSc.to (N:=["words","waiting","told","free"]) (osc:=a0e a2w) (vs:=["sets"]) {}) rfl rfl (a2a (pv 1)) (fun _ _ _ _=>b1h (a1p (OpR.k (K:=K) (fun K=>d7e K true) (b6x hu) rfl) (pv 0) (a0w (IxR.k (K:=K) rIxL a1j rfl) (pv 4) a0l (fun _ _=>rfl)) (a2e _))) (fun _ _ _ _=>(pv 0)))))))) (a0h (a0s (pv 2))))),?_⟩;refine⟨by show 0<=sizeLine;decide,fun fo hfo=>?_⟩;have kf:=a0c hfo (.lst []);have nfo0:fo∉as0:=fun z=>by
  obtain⟨j,ej⟩:=a1F.mp z;have lj:=(a0B.mp ej).1;obtain⟨bs,e,_⟩:=L0.is j fo _ ej (a0A (by rw[<-L0.len];exact lj));rw[hfo]at e;cases e
 let Wv:Nat->L2.St->Hp->Prop:=fun m σ H'=>Same H H'/\ ∃l as cs as2 told o3,H' l=some (.lst (as.map .ref))/\LsAt H' as cs/\l≠fo/\fo∉as/\(∀c∈cs,c∈cs0)/\H' fo=some (.lst (as2.map .ref))/\LsAt H' as2 told/\fo∉as2/\(∀c∈told,c∈cs0)/\told.length+cs.length<=32/\(∀a∈as,a∈as0)/\(∀a∈as2,a∈as0)/\(∀rest,Ord ts cs rest->Ord ts cs0 (told++rest))/\m=cs.length/\σ=[some (.ref D),some (.ref l),some (.ref fo),o3]
 refine⟨Wv,⟨_,kf,l0,as0,cs0,[],[],none,kf _ _ hl0,L0.same kf,a0j hl0 hfo,nfo0,fun c h=>h,a0a,⟨rfl,fun i a c e=>by simp at e⟩,by simp,fun c h=>(nomatch h),by simpa using few,(fun _ h=>h),(fun _ h=>nomatch h),fun rest h=>h,rfl,rfl⟩,fun m σ H1 p=>?_⟩;obtain⟨g1,l,as,cs,as2,told,o3,el,L,lfo,nfa,sub0,efo,L2',nf2,subT,lim,ia,ia2,cont,hm,rfl⟩:=p;have la:=L.len;have la2:=L2'.len;refine⟨_,rfl,!(as.map V.ref).isEmpty,.inl ⟨_,SqL.of el,rfl⟩,?_⟩;by_cases hcs:cs=[]
 ·subst hcs;have e:as=[]:=a2V.mp la;subst e;rw[wA (by simp)];have od:=cont [] .nil;rw[a2I]at od;exact⟨_,rfl,q fo as2 told H1 g1 hfo efo L2' od (by lia) subT ia2⟩
 have ne:as≠[]:=fun z=>hcs (a2V.mp (by rw[<-la,z];rfl));have c1:(!(as.map V.ref).isEmpty)=true:=by
  cases as with
  |nil=>exact wC rfl ne
  |cons=>rfl
 rw[c1];refine b1c ?_;refine⟨fun σ' H'=> ∃m',m'<m/\Wv m' σ' H',fun σ' H' h=>h,?_⟩;have csx': ∀d∈cs,d≠[]/\ ∀x∈d,x∈xs:=fun d hd=>csx d (sub0 d hd);have un':b3v ts cs:=fun c hc d hd=>un c (sub0 c hc) d (sub0 d hd);have wb1:=wb.same g1;have rd1:=c9d rd g1;refine⟨_,rfl,l,rfl,⟨_,SqL.of el⟩,a2j (xs:=as.map .ref) (fun i ys' H'=>Same H1 H'/\ ∃es,ys'=es.map V.ref/\es.length<=i/\(∀e∈es,e∈as)/\LsAt H' es ((cs.take i).filter fun c=> !ledTo ts cs c)) (by rw[a0C,a0Y];lia) ⟨Same.refl _,[],rfl,a0K _,fun _ h=>(nomatch h),⟨rfl,fun i a c e=>by simp at e⟩⟩ (fun i ys' H' hi p=>?_) (fun i v ys' H' hv p=>?_) (fun ys' H2 p fr hfr=>?_)⟩
 ·obtain⟨g,es,rfl,e,_⟩:=p;exact⟨SqL.of (g _ _ el),by rw[a0C];exact e⟩
 ·obtain⟨g,es,rfl,e,sb,Le⟩:=p;rw[a0F]at hv;obtain⟨a,ea,rfl⟩:=a0O.mp hv;have li:=(a0B.mp ea).1;obtain⟨c,ec⟩: ∃c,cs[i]? =some c:=⟨_,a0A (by lia)⟩;obtain⟨bs,ha,Ta⟩:=(L.same g).is i a c ea ec;have mc:=a0E ec;refine⟨a1l,_,rfl,_,rfl,_,rfl,D,a,l,ts,xs,ys,c,cs,bs,as,rfl,c9d rd1 g,wb1.same g,ha,Ta,g _ _ el,L.same g,(csx' c mc).1,csx',by lia,fun H4 g4=>⟨_,rfl,?_⟩⟩;have z:=c9c (as:=as) (f:=fun c=> !ledTo ts cs c) (Le.same g4) ec (g4 _ _ ha) (Ta.same g4);cases c2:ledTo ts cs c with
  |false=>
   rw[c2,wB (show(!false)=true from rfl)]at z;refine b1c ⟨_,rfl,g.trans g4,es++[a],by simp,by simp;exact e,fun e' he=>?_,z⟩;exact(a0Q.mp he).elim (sb e') fun h=>by rw[a0J.mp h];exact a0E ea
  |true=>
   rw[c2,wA (by decide)]at z;exact a9l ⟨g.trans g4,es,rfl,by lia,sb,z⟩
 obtain⟨g2,es,rfl,_,sb,Le⟩:=p;rw[a0C,la,a2B]at Le;have k3:=a0c hfr (.lst (es.map V.ref));have efr:upd H2 fr (.lst (es.map V.ref)) fr=some (.lst (es.map V.ref)):=a0a;have frfo:fr≠fo:=(a0j (g2 _ _ efo) hfr).symm;have frl:fr≠l:=(a0j (g2 _ _ el) hfr).symm;have g13:=g2.trans k3;have Le3:=Le.same k3;generalize upd H2 fr (.lst (es.map V.ref))=H3 at k3 efr g13 Le3⊢;obtain⟨s0,ms0,fs0⟩: ∃s∈cs,ledTo ts cs s=false:=by
  cases cs with
  |nil=>exact wC rfl hcs
  |cons c cs=>exact b5o un' _ c (a0T ..) (a0K _)
 have mf:s0∈cs.filter fun c=> !ledTo ts cs c:=a0S.mpr ⟨ms0,by rw[fs0];rfl⟩;obtain⟨s,hs⟩: ∃s,(cs.filter fun c=> !ledTo ts cs c).head? =some s:=by
  cases z:cs.filter fun c=> !ledTo ts cs c with
  |nil=>rw[z]at mf;cases mf
  |cons y ys=>exact⟨y,rfl⟩
 have ms:s∈cs:=(a0S.mp (List.mem_of_mem_head? hs)).1;have hs0:(cs.filter fun c=> !ledTo ts cs c)[0]? =some s:=by rw[<-List.head?_eq_getElem?];exact hs
 have le:=Le3.len;obtain⟨a,ea⟩: ∃a,es[0]? =some a:=⟨_,a0A (by rw[le];exact(a0B.mp hs0).1)⟩;have hat:atI (es.map V.ref) ((0:Nat):Int)=some (.ref a):=a1x (by rw[a0F,ea];rfl);obtain⟨bs,ha,Ta⟩:=Le3.is 0 a s ea hs0;have aas:=sb a (a0E ea);have afo:a≠fo:=fun z=>nfa (z▸aas);have efo3:=g13 _ _ efo;refine⟨_,rfl,.inl ⟨rfl,_,SqL.of efo3⟩,_,rfl,fr,_,_,_,rfl,rfl,SqL.of efr,hat,fo,_,_,rfl,rfl,efo3,by rw[a0C,a0Y];lia,?_⟩;have g4:Same H (upd H3 fo (.lst (as2.map V.ref++[.ref a]))):=a1e (g1.trans g13) hfo;have na2:fo∉as2++[a]:=fun z=>(a0Q.mp z).elim nf2 fun z=>afo (a0J.mp z).symm;have L4:=((L2'.same g13).snoc ha Ta).off (o:= .lst (as2.map V.ref++[.ref a])) efo3 na2;have Lw4:=(L.same g13).off (o:= .lst (as2.map V.ref++[.ref a])) efo3 nfa;have efo4:upd H3 fo (.lst (as2.map V.ref++[.ref a])) fo=some (.lst ((as2++[a]).map V.ref)):=by rw[a0a,a1B];rfl
 have el4:upd H3 fo (.lst (as2.map V.ref++[.ref a])) l=some (.lst (as.map V.ref)):=by
  rw[a0f lfo];exact g13 _ _ el
 have efr4:upd H3 fo (.lst (as2.map V.ref++[.ref a])) fr=some (.lst (es.map V.ref)):=by
  rw[a0f frfo];exact efr
 have ha4:upd H3 fo (.lst (as2.map V.ref++[.ref a])) a=some (.lst (bs.map V.ref)):=by
  rw[a0f afo];exact ha
 have Ta4:TupsAt (upd H3 fo (.lst (as2.map V.ref++[.ref a]))) bs s:=a4x Ta efo3 fun _ e=>nomatch e;generalize upd H3 fo (.lst (as2.map V.ref++[.ref a]))=H4 at g4 L4 Lw4 efo4 el4 efr4 ha4 Ta4⊢;refine⟨_,rfl,l,rfl,⟨_,SqL.of el4⟩,a2j (xs:=as.map .ref) (fun i ys' H'=>H'=H4/\ ∃es,ys'=es.map V.ref/\es.length<=i/\(∀e∈es,e∈as)/\LsAt H4 es ((cs.take i).filter fun c=>decide (c≠s))) (by rw[a0C,a0Y];lia) ⟨rfl,[],rfl,a0K _,fun _ h=>(nomatch h),⟨rfl,fun i a c e=>by simp at e⟩⟩ (fun i ys' H' hi p=>?_) (fun i v ys' H' hv p=>?_) (fun ys' H5 p wl hwl=>?_)⟩
 ·obtain⟨rfl,es,rfl,e,_⟩:=p;exact⟨SqL.of el4,by rw[a0C];exact e⟩
 ·obtain⟨rfl,es',rfl,e,sb',Le'⟩:=p;rw[a0F]at hv;obtain⟨b,eb,rfl⟩:=a0O.mp hv;have li:=(a0B.mp eb).1;obtain⟨c,ec⟩: ∃c,cs[i]? =some c:=⟨_,a0A (by lia)⟩;obtain⟨ds,hb,Tb⟩:=Lw4.is i b c eb ec;have z:=c9c (as:=as) (f:=fun c=>decide (c≠s)) Le' ec hb Tb;refine⟨a1l,_,rfl,_,rfl,fr,_,_,_,rfl,rfl,SqL.of efr4,hat,b,a,1,_,_,rfl,rfl,b0p hb Tb,b0p ha4 Ta4,by decide,fun cc hc=>⟨_,rfl,?_⟩⟩;by_cases ec2:c=s
  ·have hc':cc=true:=hc.mpr (by rw[ec2]);subst hc';rw[a1J (fun z=>z ec2),wA (by decide)]at z;exact a9l ⟨rfl,es',rfl,by lia,sb',z⟩
  ·have hc':cc=false:=by
    cases cc with
    |false=>rfl
    |true=>exact wC (c8x (hc.mp rfl)) ec2
   subst hc';rw[a1A ec2,wB rfl]at z;refine b1c ⟨_,rfl,rfl,es'++[b],by simp,by simp;exact e,fun e' he=>?_,z⟩;exact(a0Q.mp he).elim (sb' e') fun h=>by rw[a0J.mp h];exact a0E eb
 obtain⟨rfl,es',rfl,_,sb',Le'⟩:=p;rw[a0C,la,a2B]at Le';have k5:=a0c hwl (.lst (es'.map V.ref));have less:(cs.filter fun c=>decide (c≠s)).length<cs.length:=by
  rw[<-a6N];have z:=c2g (xs:=cs) (p:=fun c=>decide (c≠s)) (q:=fun _=>true) (fun _ _ _=>rfl) ⟨s,ms,rfl,a1J fun z=>z rfl⟩;rw[List.countP_true]at z;exact z
 refine⟨(cs.filter fun c=>decide (c≠s)).length,by lia,g4.trans k5,wl,es',cs.filter fun c=>decide (c≠s),as2++[a],told++[s],_,a0a,Le'.same k5,(a0j efo4 hwl).symm,fun z=>nfa (sb' _ z),fun c hc=>sub0 c (a0S.mp hc).1,k5 _ _ efo4,L4.same k5,na2,fun c hc=>(a0Q.mp hc).elim (subT c) fun h=>by rw[a0J.mp h];exact sub0 s ms,by rw[a0L];simp only[List.length_singleton];lia,(fun b hb=>ia b (sb' b hb)),(fun b hb=>(List.mem_append.mp hb).elim (ia2 b) fun z=>by rw[List.mem_singleton.mp z];exact ia a aas),fun rest hr'=>?_,rfl,rfl⟩;rw[a1G];exact cont _ (.cons hs hr')
theorem d2s{H H':Hp}{a:Ad}{u:HO}(h:Rd H a u)(no: ∀ps,u≠ .tbl ps)(g:Keeps H H'):Rd H' a u:=h.elim (fun e=> .inl (g _ _ (b1t e no))) fun⟨o,e⟩=> .inr ⟨o,g _ _ (nU e)⟩
theorem a3c{H H':Hp}{bs:As}{us:LN}(T:TupsAt H bs us)(g:Keeps H H'):TupsAt H' bs us:=⟨T.len,fun i b u e1 e2=>g _ _ (nU (T.is i b u e1 e2))⟩
theorem LsAt.keeps{H H':Hp}{as:As}{cs:L3q}(h:LsAt H as cs)(g:Keeps H H'):LsAt H' as cs:=⟨h.len,fun i a c e1 e2=>let⟨bs,h1,h2⟩:=h.is i a c e1 e2;⟨bs,g _ _ (nU h1),a3c h2 g⟩⟩
theorem WB.off2{H:Hp}{D l:Ad}{ts xs:LN}{ys:List WE}{us:List V}{o:HO}(h:WB H D ts xs ys)(hl:H l=some (.lst us))(no: ∀y∈ys,l∉y.2.2):WB (upd H l o) D ts xs ys:=by
 refine⟨h.len,fun i x y e1 e2=>?_,h.nd⟩;obtain⟨a,b,c⟩:=h.each i x y e1 e2;refine⟨⟨a.len,by rw[a0f (nE a.dict hl)];exact a.dict,fun j b' p h1 h2=>?_⟩,b,c⟩;rw[a0f fun(z:b'=l)=>no y (a0E e2) (by rw[<-z];exact a0E h1)];exact a.list j b' p h1 h2
theorem a0r{ts xs:LN}{c:LN}(h:c∈classes ts xs):c≠[]/\c=alike ts xs (c.headD [])/\c.headD []∈xs/\ ∀x∈c,x∈xs/\Rch ts (c.headD []) x/\Rch ts x (c.headD []):=by
 obtain⟨x,hx,rfl⟩:=a0R.mp h;obtain⟨h1,h2⟩:=a0S.mp hx;have e:(alike ts xs x).headD []=x:=by
  have z:(alike ts xs x).head? =some x:=eq_of_beq h2;cases y:alike ts xs x with
  |nil=>rw[y]at z;cases z
  |cons a as=>
   rw[y]at z;injection z with z
 refine⟨fun z=>?_,by rw[e],by rw[e];exact h1,fun y hy=>?_⟩
 ·have s:=a9f (ts:=ts) h1;rw[z]at s;cases s
 ·obtain⟨h3,h4⟩:=a0S.mp hy;rw[a2P]at h4;rw[e];exact⟨h3,rch_iff.mp h4.1,rch_iff.mp h4.2⟩
theorem a7e(ts xs:LN):b3v ts (classes ts xs):=fun c hc d hd r1 r2=>by
 obtain⟨_,e1,_⟩:=a0r hc;obtain⟨_,e2,_⟩:=a0r hd;rw[e1,e2];generalize c.headD []=x at r1 r2;generalize d.headD []=y at r1 r2;refine a5T fun z _=>?_;have go: ∀{x y:Nsq},rch ts x y=true->rch ts y x=true->(rch ts x z&&rch ts z x)=true->(rch ts y z&&rch ts z y)=true:=fun {x y} a b h=>by
  rw[a2P]at h⊢;exact⟨rch_iff.mpr ((rch_iff.mp b).trans (rch_iff.mp h.1)),rch_iff.mpr ((rch_iff.mp h.2).trans (rch_iff.mp a))⟩
 rw[a3D];exact⟨go r1 r2,go r2 r1⟩
def LevAt(H:Hp)(l:Ad)(ts fam:LN)(xs:LN)(ys:List WE)(a:Ad)(c:LN):Prop:= ∃(s t v:Ad) (bs ds cs:As) (i:Nat) (y:WE),H a=some (.tup [.ref s,.ref t,.ref v])/\s≠l/\t≠l/\v≠l/\l∉cs/\H s=some (.lst (bs.map .ref))/\TupsAt H bs c/\H t=some (.lst (ds.map .ref))/\TupsAt H ds (a2d fam (c.headD []))/\H v=some (.lst (cs.map .ref))/\cs.length=c.length/\xs[i]? =some (c.headD [])/\ys[i]? =some y/\Told (a0k ts) ts.length (c.headD []) y.2.1/\
 (∀b∈cs,b∈y.2.2)/\ ∀(k:Nat) (x:Nsq) (b:Ad),c[k]? =some x->cs[k]? =some b-> ∃word,(x,word)∈y.2.1/\H b=some (.lst (word.map nv))
theorem LevAt.keeps{H H':Hp}{l:Ad}{ts fam xs:LN}{ys:List WE}{a:Ad}{c:LN}(h:LevAt H l ts fam xs ys a c)(g:Keeps H H'):LevAt H' l ts fam xs ys a c:=by
 obtain⟨s,t,v,bs,ds,cs,i,y,h1,h2,h3,h4,h5,h6,h7,h8,h9,h10,h11,h12,h13,h14,h15,h16⟩:=h;refine⟨s,t,v,bs,ds,cs,i,y,g _ _ (nU h1),h2,h3,h4,h5,g _ _ (nU h6),a3c h7 g,g _ _ (nU h8),a3c h9 g,g _ _ (nU h10),h11,h12,h13,h14,h15,fun k x b e1 e2=>?_⟩;obtain⟨word,z1,z2⟩:=h16 k x b e1 e2;exact⟨word,z1,g _ _ (nU z2)⟩
theorem LevAt.off{H:Hp}{l:Ad}{ts fam xs:LN}{ys:List WE}{a:Ad}{c:LN}{us:List V}{o:HO}(h:LevAt H l ts fam xs ys a c)(hl:H l=some (.lst us)):LevAt (upd H l o) l ts fam xs ys a c:=by
 obtain⟨s,t,v,bs,ds,cs,i,y,h1,h2,h3,h4,h5,h6,h7,h8,h9,h10,h11,h12,h13,h14,h15,h16⟩:=h;refine⟨s,t,v,bs,ds,cs,i,y,by rw[a0f (nE h1 hl)];exact h1,h2,h3,h4,h5,by rw[a0f h2];exact h6,a4x h7 hl (fun _ e=>nomatch e),by rw[a0f h3];exact h8,a4x h9 hl (fun _ e=>nomatch e),by rw[a0f h4];exact h10,h11,h12,h13,h14,h15,fun k x b e1 e2=>?_⟩;obtain⟨word,z1,z2⟩:=h16 k x b e1 e2;refine⟨word,z1,?_⟩;rw[a0f fun(z:b=l)=>h5 (by rw[<-z];exact a0E e2)];exact z2
structure LevsAt(H:Hp)(l:Ad)(ts fam xs:LN)(ys:List WE)(as:As)(told:L3q):Prop where
 len:as.length=told.length
 is: ∀(i:Nat) (a:Ad) (c:LN),as[i]? =some a->told[i]? =some c->LevAt H l ts fam xs ys a c
def d4i(H H':Hp)(a:Ad):Prop:= ∃s t v,H' a=some (.tup [.ref s,.ref t,.ref v])/\L2.noT H s=none/\L2.noT H t=none/\L2.noT H v=none
def c2h(T:Ad)(pos:Pos):Sp:=fun vs H Q _=> ∃(m:Ad) (ts:LN) (n:Nat),vs=[.ref m]/\Mach H m ts n/\Tabs H/\
 ∀l as told fam ys H',Keeps H H'->Tabs H'->L2.noT H l=none->H' l=some (.lst (as.map .ref))->FamOf ts n fam->Ord ts (classes ts (big fam)) told->(∀c∈told,c∈classes ts (big fam))->told.length<=32->LevsAt H' l ts fam (big fam) ys as told->(∀y∈ys,∀b∈y.2.2,L2.noT H b=none)->ys.Pairwise (fun p q=> ∀b∈p.2.2,b∉q.2.2)->(∀a∈as,d4i H H' a)->Q (.ref l) H'
theorem c9e{T:Ad}(F:Fun K "levels" "levels" b5f f fd)(kP:a0u P w K mg base "words_between" 16 ["machine"] (a7d T (⟨49,40,49,93⟩:Pos)))(kL:a0u P w K mg base "sets_of_levels" 3 ["words"] c2f)(kG:a0u P w K mg base "levels_in_order" 3 ["words","waiting"] b3w)(qZ:a0u P w K mg base "tiles" 16 ["machine","rooms"] (c8z T (⟨49,40,49,93⟩:Pos))):FnOk P w K mg base CX0 18 f fd ["machine"] (c2h T (⟨49,40,49,93⟩:Pos)):=by
 refine F.ok qB (fun vs H Q E h=>?_) (fun cdv A outer s H vs Q E hr h=>?_)
 ·obtain⟨m,ts,n,rfl,_⟩:=h;rfl
 obtain⟨m,ts,n,rfl,M,hT,q⟩:=h;have hu:=hr.units;have hu1:=a7s hr;refine⟨_,(a0d (a0p (i:=1) qB.nd rfl (Or.inr rfl) (a0m kP hr.m rfl (a0g (pv 0) a0i))) (a0d (a0p (i:=2) qB.nd rfl (Or.inl rfl) (a2t a0i)) (a0d (a3o a2J rfl (a2a (a0m kG hr.m rfl (a0v (a0b (pv 1) (a0b (a0m kL hr.m rfl (a0g (pv 1) a0i)) a0o rfl) rfl)))) (a1c (i:=3) qB.nd rfl (Or.inl rfl)) (a0d (a0p (i:=4) qB.nd rfl (Or.inr rfl) (a0w a1j (pv 3) a0l (fun _ _=>rfl))) (a0d (c0x (CompSc.to (N:=["machine","words","told","sets","face","ways"]) (osc:=a0e b5f) (vs:=["rooms"]) {}) rfl rfl qB.nd (j:=5) rfl rfl (a2a (pv 3)) (fun _ _ _ _=>a2q) (fun _ _ _ _=>(a5j hu1 (a5j hu1 (pv 2) (pv 5) (fun _ _=>rfl)) (pv 0) (fun _ _=>rfl)))) (a0h (a3f (a6z a1P a2D a2E a2b (pv 2) (a0g (a4o (a0v (a0b (pv 3) (a0b (a0m qZ hr.m rfl (a0v (a0b (pv 0) (a0b (pv 4) a0o rfl) rfl))) (a0b (pv 5) a0o rfl) rfl) rfl))) a0i))))))) (a0h (a0s (pv 2)))))),?_⟩;refine⟨_,rfl,m,ts,n,rfl,M,hT,fun D fam ys H1 k1 T1 nD ff eD wb nw ap=>?_⟩;have few:=ff.few M;have fewB:(big fam).length<=32:=a1C (a1Y _ _) few;refine⟨by show 0<=sizeLine;decide,fun to hto=>?_⟩;have kt:=a0c hto (.lst []);have nto: ∀y∈ys,to∉y.2.2:=fun y hy hb=>by
  obtain⟨j,ej⟩:=a1F.mp hy;have lj:=(a0B.mp ej).1;have hl:=wb.len;obtain⟨x',ex'⟩: ∃x',(big fam)[j]? =some x':=⟨_,a0A (by lia)⟩;obtain⟨a',_⟩:=wb.each j x' y ex' ej;obtain⟨j2,ej2⟩:=a1F.mp hb;have lj2:=(a0B.mp ej2).1;have z2:=a'.list j2 to _ ej2 (a0A (by rw[<-a'.len];exact lj2));rw[hto]at z2;cases z2
 have toD:to≠D:=(a0j eD hto).symm;have eD2:=kt _ _ eD;refine⟨_,rfl,_,rfl,D,ts,big fam,ys,rfl,eD2,wb.same kt,fewB,fun wl o as H3 g3 nwl ewl Lw fras=>?_⟩;have eD3:H3 D=some (.frz o (.dT (kvW (big fam) ys))):=g3 _ _ a0a;have wb3:WB H3 D ts (big fam) ys:=((wb.same kt).off eD2).same g3;have k13: ∀{b:Ad} {u:HO},b≠D->upd H1 to (.lst []) b=some u->H3 b=some u:=fun nb hb=>g3 _ _ (by rw[a0f nb];exact hb);have eto3:H3 to=some (.lst []):=k13 toD a0a;have noD: ∀{b:Ad} {u:HO},L2.noT H b=some u->b≠D:=fun hb z=>by
  subst z;rw[nD]at hb;cases hb
 have kH3:Keeps H H3:=fun b u hb=>k13 (noD hb) (kt _ _ (k1 _ _ hb));have T3:Tabs H3:=(T1.same kt).most fun b u nd _ hb=>k13 (a8s hb eD2 fun e=>nd _ e) hb;have clx: ∀d∈classes ts (big fam),d≠[]/\ ∀x∈d,x∈big fam:=fun d hd=>⟨(a0r hd).1,fun x hx=>((a0r hd).2.2.2 x hx).1⟩;have fewC:(classes ts (big fam)).length<=32:=by
  unfold classes;rw[a0C];exact a1C (a1Y _ _) fewB
 refine⟨D,wl,ts,big fam,ys,_,as,rfl,.inr ⟨o,eD3⟩,wb3,ewl,Lw,clx,a7e ts _,fewC,fun ol as2 told H4 g4 nol eol Lo od lim sub ia2=>?_⟩;have lo:=Lo.len;have tool:ol≠to:=(a0j eto3 nol).symm;have nol2:to∉as2:=fun z=>by
  obtain⟨j,ej⟩:=a1F.mp z;have lj:=(a0B.mp ej).1;obtain⟨bs,e,_⟩:=Lo.is j to _ ej (a0A (by rw[<-lo];exact lj));have ec:=a2Y (show j<told.length by lia);have z1:=g4 _ _ eto3;rw[e]at z1;injection z1 with z1
  injection z1 with z1
  have z2:bs=[]:=a9L.mp z1;obtain⟨bs',e',Tb'⟩:=Lo.is j to _ ej (a0A (by lia));rw[e]at e';injection e' with e'
  injection e' with e'
  rw[z2]at e';have z3:bs'=[]:=a9L.mp e'.symm;have z4:=Tb'.len;rw[z3]at z4;exact(a0r (sub _ ec)).1 (a2V.mp z4.symm)
 have kH4:Keeps H H4:=kH3.trans g4.keeps;have T4:=T3.same g4;have eto4:=g4 _ _ eto3;have nTo:L2.noT H to=none:=by
  cases z:L2.noT H to with
  |none=>rfl
  |some u=>
   have z2:=k1 _ _ z;rw[hto]at z2;cases z2
 let Pv:Nat->L2.St->Hp->Prop:=fun i σ H'=>Keeps H H'/\Tabs H'/\H' ol=some (.lst (as2.map .ref))/\LsAt H' as2 told/\Rd H' D (.dT (kvW (big fam) ys))/\WB H' D ts (big fam) ys/\ ∃ls o3 o4 o5,H' to=some (.lst (ls.map .ref))/\LevsAt H' to ts fam (big fam) ys ls (told.take i)/\(∀a∈ls,d4i H H' a)/\σ=[some (.ref m),some (.ref D),some (.ref to),o3,o4,o5]
 refine⟨ol,rfl,⟨_,SqL.of eol⟩,a4n (xs:=as2.map .ref) Pv ⟨kH4,T4,eol,Lo,.inr ⟨o,g4 _ _ eD3⟩,wb3.same g4,[],none,none,none,eto4,⟨rfl,fun i a c e=>by simp at e⟩,(fun _ h=>nomatch h),rfl⟩ (fun i σ H' _ p=>SqL.of p.2.2.1) (fun i v σ H5 hv p=>?_) (fun σ H5 p=>?_)⟩
 ·obtain⟨k5,T5,eol5,Lo5,rd5,wb5,ls,o3,o4,o5,eto5,Lv5,nl5,rfl⟩:=p;rw[a0F]at hv;obtain⟨a,ea,rfl⟩:=a0O.mp hv;have li:=(a0B.mp ea).1;obtain⟨c,ec⟩: ∃c,told[i]? =some c:=⟨_,a0A (by lia)⟩;obtain⟨bs,ha,Ta⟩:=Lo5.is i a c ea ec;obtain⟨cne,_,cx,call⟩:=a0r (sub c (a0E ec));obtain⟨b0,at0,hb0,m0⟩:=b5n Ta cne;have lbs:=Ta.len;have c32:c.length<=32:=by
   rw[(a0r (sub c (a0E ec))).2.1];exact a1C (a1Y _ _) fewB
  have ato:a≠to:=fun z=>nol2 (z▸a0E ea);obtain⟨W,ws,wa,dg,wt,tt,ix,ex,ey⟩:=wb5.get rd5 cx hb0;refine⟨_,rfl,a,_,_,_,rfl,rfl,SqL.of ha,at0,?_⟩;refine⟨_,rfl,a,rfl,⟨_,SqL.of ha⟩,a2j (xs:=bs.map .ref) (fun j ys' H'=>H'=H5/\ ∃cs:As,ys'=cs.map V.ref/\cs.length=j/\(∀b∈cs,b∈wa)/\ ∀(k:Nat) (x:Nsq) (b:Ad),c[k]? =some x->cs[k]? =some b-> ∃word,(x,word)∈ws/\H5 b=some (.lst (word.map nv))) (by rw[a0C,a0Y];lia) ⟨rfl,[],rfl,rfl,fun _ h=>(nomatch h),fun k x b _ e=>by simp at e⟩ (fun j ys' H' hi p=>?_) (fun j v ys' H' hv p=>?_) (fun ys' H' p wy hwy=>?_)⟩
  ·obtain⟨rfl,cs,rfl,e,_⟩:=p;exact⟨SqL.of ha,by rw[a0C];lia⟩
  ·obtain⟨rfl,cs,rfl,e,sb,al⟩:=p;rw[a0F]at hv;obtain⟨b,eb,rfl⟩:=a0O.mp hv;have lj:=(a0B.mp eb).1;obtain⟨x,exj⟩: ∃x,c[j]? =some x:=⟨_,a0A (by lia)⟩;have hb:=Ta.is j b x eb exj;obtain⟨_,r1,_⟩:=call x (a0E exj);obtain⟨⟨x',u⟩,hp,e'⟩:=a0R.mp ((b5l tt x).mpr r1);have e2:x'=x:=e';subst e2;obtain⟨wl',v1,v2⟩:=wt.word tt.keys hp;have dg2:DGet H' W (.ref b) (some (.ref wl')):= .inr ⟨_,nk x',b,.inl wt.dict,rfl,by rw[a7a];exact hb,v1.symm⟩;refine⟨a1l,a4r ⟨_,rfl,_,rfl,D,_,rfl,dg,_,rfl,W,_,rfl,dg2,rfl,cs++[wl'],by simp,by simp[e],fun b' hb'=>?_,fun k x b' e1 e2=>?_⟩⟩
   ·exact(a0Q.mp hb').elim (sb b') fun h=>by rw[a0J.mp h];exact d5t v1
   ·by_cases hk:k<cs.length
    ·rw[a0N hk]at e2;exact al k x b' e1 e2
    ·rw[a0M (by lia)]at e2;have z:k-cs.length=0:=by
      have:=(a0B.mp e2).1;simp at this;lia
     rw[z]at e2;cases e2;have kj:k=j:=by lia
     subst kj;rw[exj]at e1;cases e1;exact⟨u,hp,v2⟩
  ·obtain⟨rfl,cs,rfl,ecs,sb,al⟩:=p;rw[a0C]at ecs;have kw:=a0c hwy (.lst (cs.map V.ref));have wyto:wy≠to:=(a0j eto5 hwy).symm;have ewy:upd H' wy (.lst (cs.map V.ref)) wy=some (.lst (cs.map V.ref)):=a0a;generalize upd H' wy (.lst (cs.map V.ref))=H6 at kw ewy⊢;have eto6:=kw _ _ eto5;refine⟨_,rfl,.inl ⟨rfl,_,SqL.of eto6⟩,_,rfl,_,rfl,_,rfl,m,b0,ts,n,c.headD [],rfl,(M.keeps k5).same kw,kw _ _ hb0,T5.same kw,fun tl ds us fam1 H7 k7 T7 ntl etl Td ff1 eus=>?_⟩;have ef:fam1=fam:=ff1.uniq ff;subst ef;subst eus;have eto7:=k7 _ _ (nU eto6);have tlto:tl≠to:=fun z=>by
    subst z;rw[nU eto6]at ntl;cases ntl
   refine⟨_,rfl,by show 3<=sizeLine;decide,fun lv hlv=>?_⟩;have kl:=a0c hlv (.tup [.ref a,.ref tl,.ref wy]);have elv:upd H7 lv (.tup [.ref a,.ref tl,.ref wy]) lv=some (.tup [.ref a,.ref tl,.ref wy]):=a0a;have kk:Keeps H' (upd H7 lv (.tup [.ref a,.ref tl,.ref wy])):=(kw.keeps.trans k7).trans kl.keeps;have k6l:Keeps H6 (upd H7 lv (.tup [.ref a,.ref tl,.ref wy])):=k7.trans kl.keeps;have etl8:=kl _ _ etl;have Td8:=Td.same kl;have T8:=T7.same kl;have eto8:=kl _ _ eto7;generalize upd H7 lv (.tup [.ref a,.ref tl,.ref wy])=H8 at kl elv kk k6l etl8 Td8 T8 eto8⊢;have lls:=Lv5.len;rw[a0W]at lls;refine⟨to,_,_,rfl,rfl,eto8,by rw[a0C,a0Y];lia,?_⟩;have at1: ∀{b:Ad} {u:HO},H' b=some u->(∀ps,u≠ .tbl ps)->H8 b=some u:=fun hb no=>kk _ _ (b1t hb no)
   refine⟨fun b u hb=>?_,?_,?_,?_,?_,?_,ls++[lv],_,_,_,by rw[a0a,a1B];rfl,⟨?_,fun j a' c' e1 e2=>?_⟩,fun a' ha'=>?_,rfl⟩
   ·rw[a0f fun(z:b=to)=>by subst z;rw[nTo]at hb;cases hb];exact(k5.trans kk) _ _ hb
   ·exact T8.most fun b' u _ nl hb'=>by rw[a0f (a8s hb' eto8 fun e=>nl _ e)];exact hb'
   ·rw[a0f tool];exact at1 eol5 fun _ e=>nomatch e
   ·exact(Lo5.keeps kk).off eto8 nol2
   ·rcases d2s rd5 (fun _ e=>nomatch e) kk with z|⟨o',z⟩
    ·exact .inl (by rw[a0f (nE z eto8)];exact z)
    ·exact .inr ⟨o',by rw[a0f (nE z eto8)];exact z⟩
   ·exact(wb5.keeps kk).off2 eto8 nto
   ·rw[a0L,a0W];simp only[List.length_singleton];lia
   ·have lt':told.take (i+1)=told.take i++[c]:=by rw[a2L,ec];rfl
    rw[lt']at e2;by_cases hj:j<ls.length
    ·rw[a0N hj]at e1;rw[a0N (by rw[a0W];lia)]at e2;exact((Lv5.is j a' c' e1 e2).keeps kk).off eto8
    ·rw[a0M (by lia)]at e1;rw[a0M (by rw[a0W];lia)]at e2;have z:j-ls.length=0:=by
      have:=(a0B.mp e1).1;simp at this;lia
     have z':j-(told.take i).length=0:=by rw[a0W];lia
     rw[z]at e1;rw[z']at e2;cases e1;cases e2;refine LevAt.off ⟨a,tl,wy,bs,ds,cs,ix,(W,ws,wa),elv,ato,tlto,wyto,fun z=>nto _ (a0E ey) (sb _ z),at1 ha (fun _ e=>nomatch e),a3c Ta kk,etl8,Td8,k6l _ _ (nU ewy),by lia,ex,ey,tt,sb,fun k x b e1 e2=>?_⟩ eto8;obtain⟨word,z1,z2⟩:=al k x b e1 e2;exact⟨word,z1,at1 z2 fun _ e=>nomatch e⟩
   ·rcases a0Q.mp ha' with z|z
    ·obtain⟨s',t',v',z1,z2⟩:=nl5 a' z;exact⟨s',t',v',(by rw[a0f (nE (at1 z1 fun _ e=>nomatch e) eto8)];exact at1 z1 fun _ e=>nomatch e),z2⟩
    ·rw[a0J.mp z];refine⟨a,tl,wy,by rw[a0f (nE elv eto8)];exact elv,?_,?_,?_⟩
     ·have z1:=fras a (ia2 a (a0E ea));cases y:L2.noT H a with
      |none=>rfl
      |some u=>
       rw[kt _ _ (k1 _ _ y)]at z1;cases z1
     ·cases y:L2.noT H tl with
      |none=>rfl
      |some u=>
       have z1:=kw _ _ (k5 _ _ y);rw[b1t z1 (b7h y).2]at ntl;cases ntl
     ·cases y:L2.noT H wy with
      |none=>rfl
      |some u=>
       rw[k5 _ _ y]at hwy;cases hwy
 ·obtain⟨k5,T5,eol5,Lo5,rd5,wb5,ls,o3,o4,o5,eto5,Lv5,nl5,rfl⟩:=p;rw[a0C,lo,a2B]at Lv5;exact⟨_,rfl,q to ls told fam ys H5 k5 T5 nTo eto5 ff od sub lim Lv5 nw ap nl5⟩
theorem sub_iff{x y:Nsq}:sub x y=true↔ ∀r∈x,r∈y:=by
 unfold sub;rw[a6C];exact⟨fun h r hr=>a1K.mp (h r hr),fun h r hr=>a1K.mpr (h r hr)⟩
theorem b3x{n:Nat}{u v:Nsq}(hu:u∈a1n n)(hv:v∈a1n n)(h:sub u v=true)(ne:u≠v):u.length<v.length:=by
 obtain⟨u1,_⟩:=mem_setsU.mp hu;obtain⟨v1,_⟩:=mem_setsU.mp hv;have s:=sub_iff.mp h;have e: ∃z∈List.range 5,u.contains z=false/\v.contains z=true:=by
  refine a5H fun no=>ne ?_;rw[<-u1,<-v1];unfold a2u;refine a5T fun z hz=>?_;rw[a3D];constructor
  ·exact fun q=>a1K.mpr (s z (a1K.mp q))
  ·intro q;cases c:u.contains z with
   |true=>rfl
   |false=>exact wC ⟨z,hz,c,q⟩ no
 have z:=a9a (xs:=List.range 5) (p:=fun i=>u.contains i) (q:=fun i=>v.contains i) (fun z _ q=>a1K.mpr (s z (a1K.mp q))) e;rw[a6N,a6N]at z;unfold a2u at u1 v1;rw[u1,v1]at z;exact z
structure TileFacts(fam:LN)(x:Nsq)(us:LN):Prop where
 mem: ∀u∈us,u∈fam/\u≠x/\sub u x=true
 apart: ∀u∈us,∀v∈us,u≠v->sub u v=false
 up:us.Pairwise fun a b=>a3s gl a b=true
 all: ∀u∈fam,u≠x->sub u x=true-> ∃t∈us,sub u t=true
 few:us.length<=32
 few2:fam.length<=32
 l5: ∀u∈fam,u.length<=5
theorem a3d{H:Hp}{m:Ad}{ts:LN}{n:Nat}{fam:LN}(M:Mach H m ts n)(ff:FamOf ts n fam)(x:Nsq):TileFacts fam x (a2d fam x):=by
 have few:=ff.few M;have ins: ∀u,u∈a3b fam x↔u∈fam/\u≠x/\sub u x=true:=fun u=>by
  unfold a3b;rw[a0S,a2P,a6M]
 have cov: ∀u,a3t (a3b fam x) u=true↔ ∃v∈a3b fam x,v≠u/\sub u v=true:=fun u=>by
  unfold a3t;rw[a8P];constructor
  ·rintro⟨v,h1,h2⟩;rw[a2P,a6M]at h2;exact⟨v,h1,h2⟩
  ·rintro⟨v,h1,h2⟩;exact⟨v,h1,by rw[a2P,a6M];exact h2⟩
 have til: ∀u,u∈a2d fam x↔u∈a3b fam x/\a3t (a3b fam x) u=false:=fun u=>by
  unfold a2d;rw[a0S];refine and_congr Iff.rfl ?_;cases a3t (a3b fam x) u<;>simp
 have lu: ∀u∈fam,u.length<=5:=fun u h=>a1C (a4i M.n5 (ff.inU M h)) M.n5;have climb: ∀(d:Nat) (u:Nsq),u∈a3b fam x->5-u.length<=d-> ∃t∈a2d fam x,sub u t=true:=by
  intro d
  induction d with
  | zero=>
   intro u hu hd;cases c:a3t (a3b fam x) u with
   |false=>exact⟨u,(til u).mpr ⟨hu,c⟩,sub_iff.mpr fun r hr=>hr⟩
   |true=>
    obtain⟨v,hv,h1,h2⟩:=(cov u).mp c;have:=b3x (ff.inU M ((ins u).mp hu).1) (ff.inU M ((ins v).mp hv).1) h2 (a3T h1)
    have:=lu v ((ins v).mp hv).1;lia
  | succ d ih=>
   intro u hu hd;cases c:a3t (a3b fam x) u with
   |false=>exact⟨u,(til u).mpr ⟨hu,c⟩,sub_iff.mpr fun r hr=>hr⟩
   |true=>
    obtain⟨v,hv,h1,h2⟩:=(cov u).mp c;have:=b3x (ff.inU M ((ins u).mp hu).1) (ff.inU M ((ins v).mp hv).1) h2 (a3T h1)
    obtain⟨t,ht,h3⟩:=ih v hv (by lia);exact⟨t,ht,sub_iff.mpr fun r hr=>sub_iff.mp h3 r (sub_iff.mp h2 r hr)⟩
 refine⟨fun u hu=>(ins u).mp ((til u).mp hu).1,fun u hu v hv ne=>?_,?_,fun u h1 h2 h3=>climb 5 u ((ins u).mpr ⟨h1,h2,h3⟩) (by lia),?_,few,lu⟩
 ·cases c:sub u v with
  |false=>rfl
  |true=>
   have z:=(cov u).mpr ⟨v,((til v).mp hv).1,a3T ne,c⟩;rw[((til u).mp hu).2]at z;cases z
 ·exact(ff.up.filter _).filter _
 ·exact a1C (a1Y _ _) (a1C (a1Y _ _) few)
theorem b8c(x:Nsq):a3s gl x x=false:=(a2v gl [x]).irr x
theorem a8m{K:W.Frag}{H:Hp}{fs:As}{fam:LN}{n:Nat}(T:TupsAt H fs fam)(i:Nat)(d:Dt)(v:V)(e1:(fam.map fun u=>Dt.tup (dtN u))[i]? =some d)(e2:(fs.map V.ref)[i]? =some v):Rep K H (n+1) d v:=by
 rw[a0F]at e1 e2;obtain⟨p,ep,rfl⟩:=a0O.mp e1;obtain⟨a,ea,rfl⟩:=a0O.mp e2;exact a5c (SqT.of (T.is i a p ea ep))
theorem d9r{u:Nsq}{fam:LN}:Dt.tup (dtN u)∈fam.map (fun u=>Dt.tup (dtN u))↔u∈fam:=by
 rw[a0R];constructor
 ·rintro⟨v,h1,h2⟩;injection h2 with h2
  rw[<-b9y h2];exact h1
 ·exact fun h=>⟨u,h,rfl⟩
def itr(f:Nat->Nat):Nat->Nat->Nat
 |0,r=>r
 |k+1,r=>itr f k (f r)
theorem c0b(f:Nat->Nat): ∀(a b r:Nat),itr f (a+b) r=itr f b (itr f a r)
 |0,b,r=>by rw[a8N];rfl
 |a+1,b,r=>by
  rw[Nat.add_right_comm];exact c0b f a b (f r)
theorem a9g{f:Nat->Nat}{d r:Nat}(h:itr f d r=r): ∀k,itr f (d * k) r=r
 |0=>rfl
 |k+1=>by rw[Nat.mul_succ,c0b,a9g h k,h]
theorem b5p(ts:LN)(r:Nat)(u v:Nsq):a5x ts r (u++v)=a5x ts (a5x ts r u) v:=by
 unfold a5x;rw[a4D]
def d4j(u:Nsq):Nat->List Nat
 |0=>[]
 |k+1=>u++d4j u k
theorem c2i(ts:LN)(u:Nsq): ∀(k r:Nat),a5x ts r (d4j u k)=itr (fun r=>a5x ts r u) k r
 |0,_=>rfl
 |k+1,r=>by
  show a5x ts r (u++d4j u k)=_;rw[b5p,c2i ts u k];rfl
theorem c2j{u:Nsq}{l:Nat}: ∀{k:Nat},l∈d4j u k->l∈u
 |0,h=>nomatch h
 |k+1,h=>(a0Q.mp h).elim id c2j
theorem b0q(ts:LN)(x u v:Nsq):a2l (a0k ts) x (u++v)=a2l (a0k ts) (a2l (a0k ts) x u) v:=by
 unfold a2l;rw[a4D]
theorem a8n{n:Nat}{x y:Nsq}(hx:x∈a1n n)(hy:y∈a1n n)(h: ∀r,r∈x↔r∈y):x=y:=by
 rw[<-(mem_setsU.mp hx).1,<-(mem_setsU.mp hy).1];exact b7z h
theorem a7n{n:Nat}{x:Nsq}(hx:x∈a1n n):x.Nodup:=by
 rw[<-(mem_setsU.mp hx).1];unfold a2u;exact List.Nodup.sublist a4F List.nodup_range
theorem a2o{H:Hp}{m:Ad}{ts:LN}{n:Nat}(M:Mach H m ts n){x word:Nsq}(hx:x∈a1n n)(hw: ∀l∈word,l<ts.length){r:Nat}:r∈a2l (a0k ts) x word↔ ∃r0∈x,a5x ts r0 word=r:=by
 have n5:=M.n5;rw[a8i M word x hx hw];constructor
 ·intro h;obtain⟨r0,h1,h2⟩:=a0R.mp (b0n h);exact⟨r0,h1,h2⟩
 ·rintro⟨r0,h1,rfl⟩;have:=a5r M word r0 ((mem_setsU.mp hx).2 r0 h1) hw;exact c2c (a0R.mpr ⟨r0,h1,rfl⟩) (by lia)
theorem a2c{H:Hp}{m:Ad}{ts:LN}{n:Nat}(M:Mach H m ts n){x word:Nsq}(hx:x∈a1n n)(hw: ∀l∈word,l<ts.length):a2l (a0k ts) x word∈a1n n:=a8z hx (fun y hy l hl=>a5g M hy hl) word hw
structure Bij(ts:LN)(x y w p:Nsq):Prop where
 to:a2l (a0k ts) x w=y
 fro:a2l (a0k ts) y p=x
 lw: ∀l∈w,l<ts.length
 lp: ∀l∈p,l<ts.length
 here: ∀r∈x,a5x ts (a5x ts r w) p=r
 there: ∀r∈y,a5x ts (a5x ts r p) w=r
theorem Bij.symm{ts:LN}{x y w p:Nsq}(b:Bij ts x y w p):Bij ts y x p w:=⟨b.fro,b.to,b.lp,b.lw,b.there,b.here⟩
theorem d2t{x:Nsq}{f:Nat->Nat}(nd:x.Nodup)(on: ∀r∈x,∃r0∈x,f r0=r): ∀a∈x,∀b∈x,f a=f b->a=b:=fun a ha b hb e=>by
 by_cases ne:a=b
 ·exact ne
 have z:=a3A (l₂:=(x.erase a).map f) nd fun r hr=>by
  obtain⟨r0,h1,h2⟩:=on r hr;by_cases ra:r0=a
  ·exact a0R.mpr ⟨b,(a6Y (a3T ne)).mpr hb,by rw[<-e,<-ra,h2]⟩
  ·exact a0R.mpr ⟨r0,(a6Y ra).mpr h1,h2⟩
 rw[a0C,a7K ha]at z;have:=a6H ha;lia
theorem c9f{x:Nsq}{f:Nat->Nat}(cl: ∀r∈x,f r∈x): ∀(k r:Nat),r∈x->itr f k r∈x
 |0,_,h=>h
 |k+1,r,h=>c9f cl k (f r) (cl r h)
theorem c9g{x:Nsq}{f:Nat->Nat}(cl: ∀r∈x,f r∈x)(inj: ∀a∈x,∀b∈x,f a=f b->a=b): ∀(k:Nat),∀a∈x,∀b∈x,itr f k a=itr f k b->a=b
 |0,_,_,_,_,e=>e
 |k+1,a,ha,b,hb,e=>inj a ha b hb (c9g cl inj k (f a) (cl a ha) (f b) (cl b hb) e)
theorem round{x:Nsq}{f:Nat->Nat}(l5:x.length<=5)(cl: ∀r∈x,f r∈x)(inj: ∀a∈x,∀b∈x,f a=f b->a=b)(r:Nat)(hr:r∈x):itr f 60 r=r:=by
 have: ∃d,1<=d/\d<=5/\itr f d r=r:=by
  by_cases h: ∃i j,i<j/\j<=5/\itr f i r=itr f j r
  ·obtain⟨i,j,h1,h2,h3⟩:=h;refine⟨j-i,by lia,by lia,?_⟩;have e:j=(j-i)+i:=by lia
   rw[e,c0b]at h3;exact(c9g cl inj i r hr _ (c9f cl (j-i) r hr) h3).symm
  ·have nd:((List.range 6).map fun i=>itr f i r).Nodup:=by
    rw[a9O,a5Q];refine a7L ?_ List.pairwise_lt_range;intro i j hi hj lt e;exact h ⟨i,j,lt,by have:=a1Q.mp hj;lia,e⟩
   have z:=a3A (l₂:=x) nd fun y hy=>by
    obtain⟨i,_,rfl⟩:=a0R.mp hy;exact c9f cl i r hr
   rw[a0C,a2A]at z;lia
 obtain⟨d,h1,h2,h3⟩:=this;have:d=1∨d=2∨d=3∨d=4∨d=5:=by lia
 rcases this with rfl|rfl|rfl|rfl|rfl
 ·exact a9g h3 60
 ·exact a9g h3 30
 ·exact a9g h3 20
 ·exact a9g h3 15
 ·exact a9g h3 12
theorem c9h{H:Hp}{m:Ad}{ts:LN}{n:Nat}(M:Mach H m ts n){x y w:Nsq}(hx:x∈a1n n)(lw: ∀l∈w,l<ts.length)(e:a2l (a0k ts) x w=y)(back:Rch ts y x): ∃p,Bij ts x y w p:=by
 obtain⟨v,lv,ev⟩:=back;have hy:y∈a1n n:=by rw[<-e];exact a2c M hx lw
 have lwv: ∀l∈w++v,l<ts.length:=fun l hl=>(a0Q.mp hl).elim (lw l) (lv l);have ex:a2l (a0k ts) x (w++v)=x:=by rw[b0q,e,ev]
 have cl: ∀r∈x,a5x ts r (w++v)∈x:=fun r hr=>by
  have z:=(a2o M hx lwv).mpr ⟨r,hr,rfl⟩;rw[ex]at z;exact z
 have on: ∀r∈x,∃r0∈x,a5x ts r0 (w++v)=r:=fun r hr=>(a2o M hx lwv).mp (by rw[ex];exact hr);have inj:=d2t (a7n hx) on;have rd:=round (f:=fun r=>a5x ts r (w++v)) (a1C (a4i M.n5 hx) M.n5) cl inj;have here: ∀r∈x,a5x ts (a5x ts r w) (v++d4j (w++v) 59)=r:=fun r hr=>by
  rw[<-b5p,<-a1G,b5p,c2i];exact rd r hr
 have lp: ∀l∈v++d4j (w++v) 59,l<ts.length:=fun l hl=>(a0Q.mp hl).elim (lv l) fun h=>lwv l (c2j h);have there: ∀r∈y,a5x ts (a5x ts r (v++d4j (w++v) 59)) w=r:=fun r hr=>by
  rw[<-e]at hr;obtain⟨r0,h1,rfl⟩:=(a2o M hx lw).mp hr;rw[here r0 h1]
 refine⟨v++d4j (w++v) 59,e,a8n (a2c M hy lp) hx fun r=>?_,lw,lp,here,there⟩;rw[a2o M hy lp];constructor
 ·rintro⟨r0,h1,rfl⟩;rw[<-e]at h1;obtain⟨r1,h2,rfl⟩:=(a2o M hx lw).mp h1;rw[here r1 h2];exact h2
 ·intro h;exact⟨a5x ts r w,by rw[<-e];exact(a2o M hx lw).mpr ⟨r,h,rfl⟩,here r h⟩
theorem Bij.back{H:Hp}{m:Ad}{ts:LN}{n:Nat}(M:Mach H m ts n){x y w p u:Nsq}(b:Bij ts x y w p)(hu:u∈a1n n)(s:sub u x=true):a2l (a0k ts) (a2l (a0k ts) u w) p=u:=by
 have s':=sub_iff.mp s;have h1:=a2c M hu b.lw;refine a8n (a2c M h1 b.lp) hu fun r=>?_;rw[a2o M h1 b.lp];constructor
 ·rintro⟨r0,z1,rfl⟩;obtain⟨r1,z2,rfl⟩:=(a2o M hu b.lw).mp z1;rw[b.here r1 (s' r1 z2)];exact z2
 ·intro z;exact⟨a5x ts r w,(a2o M hu b.lw).mpr ⟨r,z,rfl⟩,b.here r (s' r z)⟩
theorem a8o{H:Hp}{m:Ad}{ts:LN}{n:Nat}(M:Mach H m ts n){u v w:Nsq}(hu:u∈a1n n)(hv:v∈a1n n)(lw: ∀l∈w,l<ts.length)(s:sub u v=true):sub (a2l (a0k ts) u w) (a2l (a0k ts) v w)=true:=by
 refine sub_iff.mpr fun r hr=>?_;obtain⟨r0,z1,rfl⟩:=(a2o M hu lw).mp hr;exact(a2o M hv lw).mpr ⟨r0,sub_iff.mp s r0 z1,rfl⟩
theorem c9i{H:Hp}{m:Ad}{ts:LN}{n:Nat}{fam:LN}(M:Mach H m ts n)(ff:FamOf ts n fam){u w:Nsq}(hu:u∈fam)(lw: ∀l∈w,l<ts.length):a2l (a0k ts) u w∈fam:=by
 have n5:=M.n5;refine(ff.mem _).mpr ?_
 rcases (ff.mem u).mp hu with⟨w0,h1,h2⟩|⟨r,hr,rfl⟩
 ·refine .inl ⟨w0++w,fun l hl=>(a0Q.mp hl).elim (h1 l) (lw l),?_⟩;rw[b0q,h2]
 ·have lt:=a5r M w r hr lw;refine .inr ⟨a5x ts r w,lt,a8n (a2c M (b8a n5 hr) lw) (b8a n5 lt) fun r'=>?_⟩;rw[a2o M (b8a n5 hr) lw];constructor
  ·rintro⟨r0,z1,rfl⟩;rw[a0J.mp z1];exact a0J.mpr rfl
  ·intro z;exact⟨r,a0J.mpr rfl,(a0J.mp z).symm⟩
theorem c2k{n:Nat}{u v:Nsq}(hu:u∈a1n n)(hv:v∈a1n n)(a:sub u v=true)(b:sub v u=true):u=v:=a8n hu hv fun r=>⟨sub_iff.mp a r,sub_iff.mp b r⟩
theorem b2g{u v w:Nsq}(a:sub u v=true)(b:sub v w=true):sub u w=true:=sub_iff.mpr fun r hr=>sub_iff.mp b r (sub_iff.mp a r hr)
theorem a3y{H:Hp}{m:Ad}{ts:LN}{n:Nat}{fam:LN}(M:Mach H m ts n)(ff:FamOf ts n fam){x u:Nsq}:u∈a2d fam x↔u∈fam/\u≠x/\sub u x=true/\ ∀v∈fam,v≠x->sub v x=true->sub u v=true->v=u:=by
 have tf:=a3d M ff x;constructor
 ·intro hu;obtain⟨h1,h2,h3⟩:=tf.mem u hu;refine⟨h1,h2,h3,fun v hv v1 v2 v3=>?_⟩;obtain⟨t,ht,st⟩:=tf.all v hv v1 v2;have ut:u=t:=by
   by_cases e:u=t
   ·exact e
   ·have z:=tf.apart u hu t ht e;rw[b2g v3 st]at z;cases z
  subst ut;exact c2k (ff.inU M hv) (ff.inU M h1) st v3
 ·rintro⟨h1,h2,h3,h4⟩;obtain⟨t,ht,st⟩:=tf.all u h1 h2 h3;obtain⟨t1,t2,t3⟩:=tf.mem t ht;rw[<-h4 t t1 t2 t3 st];exact ht
theorem a9h{H:Hp}{m:Ad}{ts:LN}{n:Nat}{fam:LN}(M:Mach H m ts n)(ff:FamOf ts n fam){x y w p u:Nsq}(hx:x∈a1n n)(b:Bij ts x y w p)(hu:u∈a2d fam x):a2l (a0k ts) u w∈a2d fam y:=by
 obtain⟨h1,h2,h3,h4⟩:=(a3y M ff).mp hu;have hy:y∈a1n n:=by rw[<-b.to];exact a2c M hx b.lw
 have uU:=ff.inU M h1;have gU:=a2c M uU b.lw;have su:sub (a2l (a0k ts) u w) y=true:=by
  have z:=a8o M uU hx b.lw h3;rw[b.to]at z;exact z
 refine(a3y M ff).mpr ⟨c9i M ff h1 b.lw,fun e=>h2 ?_,su,fun v hv v1 v2 v3=>?_⟩
 ·rw[<-b.back M uU h3,e,b.fro]
 ·have vU:=ff.inU M hv;have bs:=b.symm;have z1:=c9i M ff hv b.lp;have z2:a2l (a0k ts) v p≠x:=fun e=>v1 (by rw[<-bs.back M vU v2,e,b.to]);have z3:sub (a2l (a0k ts) v p) x=true:=by
   have z:=a8o M vU hy b.lp v2;rw[b.fro]at z;exact z
  have z4:sub u (a2l (a0k ts) v p)=true:=by
   have z:=a8o M gU vU b.lp v3;rw[b.back M uU h3]at z;exact z
  rw[<-bs.back M vU v2,h4 _ z1 z2 z3 z4]
def LvH(H:Hp)(a:Ad)(c us:LN)(wds:LN):Prop:= ∃(s t v:Ad) (bs ds cs:As),H a=some (.tup [.ref s,.ref t,.ref v])/\H s=some (.lst (bs.map .ref))/\TupsAt H bs c/\H t=some (.lst (ds.map .ref))/\TupsAt H ds us/\H v=some (.lst (cs.map .ref))/\cs.length=wds.length/\ ∀(k:Nat) (b:Ad) (wd:Nsq),cs[k]? =some b->wds[k]? =some wd->H b=some (.lst (wd.map nv))
theorem LvH.same{H H':Hp}{a:Ad}{c us wds:LN}(h:LvH H a c us wds)(g:Same H H'):LvH H' a c us wds:=by
 obtain⟨s,t,v,bs,ds,cs,h1,h2,h3,h4,h5,h6,h7,h8⟩:=h;exact⟨s,t,v,bs,ds,cs,g _ _ h1,g _ _ h2,h3.same g,g _ _ h4,h5.same g,g _ _ h6,h7,fun k b wd e1 e2=>g _ _ (h8 k b wd e1 e2)⟩
structure LvP(ts fam:LN)(c us wds:LN):Prop where
 cls:c∈classes ts (big fam)
 tl:us=a2d fam (c.headD [])
 len:wds.length=c.length
 go: ∀(k:Nat) (x wd:Nsq),c[k]? =some x->wds[k]? =some wd->(∀l∈wd,l<ts.length)/\a2l (a0k ts) (c.headD []) wd=x
def d4k:Sp:=fun vs H Q _=> ∃(m a:Ad) (k j:Nat) (ts:LN) (n:Nat) (c us wds:LN) (u wd:Nsq),vs=[.ref m,.ref a,nv k,nv j]/\Mach H m ts n/\LvH H a c us wds/\us[j]? =some u/\wds[k]? =some wd/\u∈a1n n/\(∀l∈wd,l<ts.length)/\d8h H ((a2l (a0k ts) u wd).map nv) Q
def b2h:Sp:=fun vs H Q _=> ∃(m a:Ad) (k:Nat) (ts:LN) (n:Nat) (c us wds:LN) (wd:Nsq),vs=[.ref m,.ref a,nv k]/\Mach H m ts n/\LvH H a c us wds/\wds[k]? =some wd/\(∀u∈us,u∈a1n n)/\us.length<=32/\(∀l∈wd,l<ts.length)/\
 ∀l es H',Same H H'->H' l=some (.lst (es.map .ref))->TupsAt H' es (us.map fun u=>a2l (a0k ts) u wd)->Q (.ref l) H'
def a1u(ts us:LN)(wd wd2:Nsq)(l:Nat)(js:Nsq):Prop:=js.length=us.length/\ ∀(j:Nat) (u:Nsq) (j':Nat),us[j]? =some u->js[j]? =some j'-> ∃u',us[j']? =some u'/\a2l (a0k ts) u' wd2=a0k ts (a2l (a0k ts) u wd) l
def b5q:Sp:=fun vs H Q _=> ∃(m a:Ad) (k l:Nat) (ts:LN) (n:Nat) (fam c us wds:LN) (x wd:Nsq),vs=[.ref m,.ref a,nv k,nv l]/\Mach H m ts n/\FamOf ts n fam/\LvH H a c us wds/\LvP ts fam c us wds/\c[k]? =some x/\wds[k]? =some wd/\l<ts.length/\
 (a0k ts x l∉c-> ∀H',Same H H'->Q .non H')/\ ∀(k':Nat) (wd':Nsq),c[k']? =some (a0k ts x l)->wds[k']? =some wd'-> ∀p js H',Same H H'->H' p=some (.tup (js.map nv))->a1u ts us wd wd' l js->Q (.ref p) H'
theorem b2i{α:Type}{d:α}: ∀{ds:List α},d∈ds-> ∃j:Nat,ds[j]? =some d/\ ∀i:Nat,i<j->ds[i]? ≠some d
 | [],h=>nomatch h
 | e::ds,h=>by
  by_cases z:e=d
  ·exact⟨0,by rw[z];rfl,fun i hi=>wC hi (a5R i)⟩
  ·obtain⟨j,h1,h2⟩:=b2i (ds:=ds) ((a1L.mp h).resolve_left fun e'=>z e'.symm);refine⟨j+1,h1,fun i hi=>?_⟩;cases i with
   |zero=>exact fun e'=>z (by injection e')
   |succ i=>exact h2 i (by lia)
theorem in_dts{u:Nsq}{fam:LN}:Dt.tup (dtN u)∈fam.map (fun u=>Dt.tup (dtN u))↔u∈fam:=d9r
theorem at_dts{u:Nsq}{fam:LN}{j:Nat}:(fam.map fun u=>Dt.tup (dtN u))[j]? =some (Dt.tup (dtN u))↔fam[j]? =some u:=by
 rw[a0F];constructor
 ·intro h;obtain⟨v,e1,e2⟩:=a0O.mp h;injection e2 with e2
  rw[<-b9y e2];exact e1
 ·intro h;rw[h];rfl
theorem LvP.bij{H:Hp}{m:Ad}{ts:LN}{n:Nat}{fam c us wds:LN}(M:Mach H m ts n)(ff:FamOf ts n fam)(lp:LvP ts fam c us wds){k:Nat}{x wd:Nsq}(ex:c[k]? =some x)(ew:wds[k]? =some wd): ∃p,Bij ts (c.headD []) x wd p:=by
 obtain⟨_,_,cx,call⟩:=a0r lp.cls;obtain⟨l1,l2⟩:=lp.go k x wd ex ew;exact c9h M (ff.inU M (a0S.mp cx).1) l1 l2 (call x (a0E ex)).2.2
theorem b8d{H:Hp}{m:Ad}{ts:LN}{n:Nat}{fam c us wds:LN}(M:Mach H m ts n)(ff:FamOf ts n fam)(lp:LvP ts fam c us wds){k k' l:Nat}{x wd wd':Nsq}(ex:c[k]? =some x)(ew:wds[k]? =some wd)(ll:l<ts.length)(ey:c[k']? =some (a0k ts x l))(ew':wds[k']? =some wd'){u:Nsq}(hu:u∈us):a0k ts (a2l (a0k ts) u wd) l∈us.map fun u=>a2l (a0k ts) u wd':=by
 obtain⟨_,_,cx,call⟩:=a0r lp.cls;have fU:=ff.inU M (a0S.mp cx).1;obtain⟨p,b1⟩:=lp.bij M ff ex ew;obtain⟨p',b3⟩:=lp.bij M ff ey ew';obtain⟨xb,rx1,rx2⟩:=call x (a0E ex);obtain⟨yb,ry1,ry2⟩:=call _ (a0E ey);have xU:=ff.inU M (a0S.mp xb).1;have yU:=ff.inU M (a0S.mp yb).1;obtain⟨p2,b2⟩:=c9h M (w:=[l]) xU (fun z hz=>by rw[a0J.mp hz];exact ll) rfl (ry2.trans rx1);have hu':=hu;rw[lp.tl]at hu';have t1:=a9h M ff fU b1 hu';have t2:a0k ts (a2l (a0k ts) u wd) l∈a2d fam (a0k ts x l):=a9h M ff xU b2 t1;obtain⟨f1,f2,f3,_⟩:=(a3y M ff).mp t2;have t3:=a9h M ff yU b3.symm t2;rw[<-lp.tl]at t3;exact a0R.mpr ⟨_,t3,b3.symm.back M (ff.inU M f1) f3⟩
theorem LvP.nd{ts:LN}{n:Nat}{fam c us wds:LN}(ff:FamOf ts n fam)(lp:LvP ts fam c us wds):c.Nodup:=by
 have fnd:fam.Nodup:=ff.up.imp fun {a b} z e=>by
  subst e;rw[(a2v gl fam).irr]at z;cases z
 rw[(a0r lp.cls).2.1];exact List.Nodup.sublist (a4F.trans a4F) fnd
theorem LvP.inU{H:Hp}{m:Ad}{ts:LN}{n:Nat}{fam c us wds:LN}(M:Mach H m ts n)(ff:FamOf ts n fam)(lp:LvP ts fam c us wds):(∀u∈us,u∈a1n n)/\us.length<=32:=by
 have tf:=a3d M ff (c.headD []);rw[<-lp.tl]at tf;exact⟨fun u hu=>ff.inU M (tf.mem u hu).1,tf.few⟩
theorem d6r(F:Fun K "tile" "tile" d6m f fd)(jH:a0u P w K mg base "carried" 3 ["machine","rooms","word"] (a5f K)):FnOk P w K mg base CX0 5 f fd ["machine","level","k","j"] d4k:=by
 refine F.ok d9m (fun vs H Q E h=>?_) (fun cdv A outer s H vs Q E hr h=>?_)
 ·obtain⟨m,a,k,j,ts,n,c,us,wds,u,wd,rfl,_⟩:=h;rfl
 obtain⟨m,a,k,j,ts,n,c,us,wds,u,wd,rfl,M,lv,eu,ew,hU,lw,q⟩:=h;have hu:=hr.units;obtain⟨s',t',v',bs,ds,cs,h1,h2,h3,h4,h5,h6,h7,h8⟩:=lv;have l5:=h5.len;have lj:=(a0B.mp eu).1;have lk:=(a0B.mp ew).1;obtain⟨d,ed⟩: ∃d,ds[j]? =some d:=⟨_,a0A (by lia)⟩;obtain⟨b,eb⟩: ∃b,cs[k]? =some b:=⟨_,a0A (by lia)⟩;have hd:=h5.is j d u ed eu;have hb:=h8 k b wd eb ew;refine⟨_,(a0h (a0s (a0m jH hr.m rfl (a0v (a0b (pv 0) (a0b (a0w a1j (a0w a0x (pv 1) a0l (fun _ _=>rfl)) (pv 3) (fun _ _=>rfl)) (a0b (a0w a1j (a0w a0x (pv 1) a0l (fun _ _=>rfl)) (pv 2) (fun _ _=>rfl)) a0o rfl) rfl) rfl))))),?_⟩;refine⟨_,rfl,_,rfl,a,_,_,_,rfl,rfl,SqT.of h1,rfl,_,rfl,t',_,_,_,rfl,rfl,SqL.of h4,a1x (by rw[a0F,ed];rfl),_,rfl,a,_,_,_,rfl,rfl,SqT.of h1,rfl,_,rfl,v',_,_,_,rfl,rfl,SqL.of h6,a1x (by rw[a0F,eb];rfl),m,d,b,ts,n,u,wd,rfl,M,SqT.of hd,a1C (a4i M.n5 hU) M.n5,(mem_setsU.mp hU).2,SqL.of hb,lw,fun p H2 g2 e2=>?_⟩;rw[<-a8i M wd u hU lw]at e2;exact q p H2 g2 e2
theorem b2j(F:Fun K "tiles_of_set" "tiles_of_set" a5p f fd)(rB:a0u P w K mg base "tile" 5 ["machine","level","k","j"] d4k)(jC:mg "len"=none)(jD:mg "range"=none):FnOk P w K mg base CX0 7 f fd ["machine","level","k"] b2h:=by
 refine F.ok b7t (fun vs H Q E h=>?_) (fun cdv A outer s H vs Q E hr h=>?_)
 ·obtain⟨m,a,k,ts,n,c,us,wds,wd,rfl,_⟩:=h;rfl
 obtain⟨m,a,k,ts,n,c,us,wds,wd,rfl,M,lv,ew,uU,few,lw,q⟩:=h;have hu:=hr.units;obtain⟨s',t',v',bs,ds,cs,h1,h2,h3,h4,h5,h6,h7,h8⟩:=id lv;have l5:=h5.len;refine⟨_,(a0h (a0s (a1m (CompSc.to (N:=["machine","level","k"]) (osc:=a0e a5p) (vs:=["j"]) {}) rfl rfl (a2s rfl jD (a0g (a0t a0n rfl jC a4C (a0g (a0w a0x (pv 1) a0l (fun _ _=>rfl)) a0i)) a0i)) (fun _ _ _ _=>a2q) (fun _ _ _ _=>(a0m rB hr.m rfl (a0v (a0b (pv 1) (a0b (pv 2) (a0b (pv 3) (a0b (pv 0) a0o rfl) rfl) rfl) rfl))))))),?_⟩;refine⟨_,rfl,a,_,_,_,rfl,rfl,SqT.of h1,rfl,t',_,rfl,.inl (SqL.of h4),(us.length:Int),by rw[a0C,l5],by lia,by lia,a4a (fun i ys H'=>Same H H'/\ ∃es,ys=es.map V.ref/\es.length=i/\TupsAt H' es ((us.take i).map fun u=>a2l (a0k ts) u wd)) (by rw[a1U];exact small (by lia)) ⟨Same.refl _,[],rfl,rfl,rfl,fun i b u e=>by simp at e⟩ (fun i ys H' _ p=>?_) (fun i ys H' hi p=>?_) (fun ys H1 p sg hsg=>?_)⟩
 ·obtain⟨_,es,rfl,e,_⟩:=p;rw[a0C];lia
 ·obtain⟨g,es,rfl,e,T1⟩:=p;have e0:V.int (0+(i:Int))=nv i:=by show V.int (0+(i:Int))=V.int (i:Int);rw[a7J]
  have hi':i<us.length:=by simpa using hi
  obtain⟨u,eu⟩: ∃u,us[i]? =some u:=⟨_,a0A hi'⟩;rw[e0];refine⟨a1l,a4r ⟨_,rfl,_,rfl,_,rfl,_,rfl,m,a,k,i,ts,n,c,us,wds,u,wd,rfl,M.same g,lv.same g,eu,ew,uU u (a0E eu),lw,fun p H2 g2 e2=>?_⟩⟩;refine⟨g.trans g2,es++[p],by simp,by simp[e],?_⟩;rw[a2L,eu,a1B];exact a6q (T1.same g2) e2
 obtain⟨g1,es,rfl,er,T1⟩:=p;rw[a1U,a2B]at T1;have k1:=a0c hsg (.lst (es.map V.ref));exact q sg es _ (g1.trans k1) a0a (T1.same k1)
theorem b2k(F:Fun K "tiles_turned" "tiles_turned" a4w f fd)(jH:a0u P w K mg base "carried" 3 ["machine","rooms","word"] (a5f K))(jJ:a0u P w K mg base "tiles_of_set" 7 ["machine","level","k"] b2h)(jE:mg "tuple"=none):FnOk P w K mg base CX0 9 f fd ["machine","level","k","letter"] b5q:=by
 refine F.ok kZ (fun vs H Q E h=>?_) (fun cdv A outer s H vs Q E hr h=>?_)
 ·obtain⟨m,a,k,l,ts,n,fam,c,us,wds,x,wd,rfl,_⟩:=h;rfl
 obtain⟨m,a,k,l,ts,n,fam,c,us,wds,x,wd,rfl,M,ff,lv,lp,ex,ew,ll,q1,q2⟩:=h;have hu:=hr.units;obtain⟨s',t',v',bs,ds,cs,h1,h2,h3,h4,h5,h6,h7,h8⟩:=id lv;obtain⟨cne,ceq,cx,call⟩:=a0r lp.cls;have lb:=h3.len;have lk:=(a0B.mp ex).1;obtain⟨b,eb⟩: ∃b,bs[k]? =some b:=⟨_,a0A (by lia)⟩;have hb:=h3.is k b x eb ex;have bigU: ∀y∈big fam,y∈a1n n:=fun y hy=>ff.inU M (a0S.mp hy).1;have mx:=a0E ex;have hU:=bigU x (call x mx).1;refine⟨_,(a0d (a0p (i:=4) kZ.nd rfl (Or.inl rfl) (a0m jH hr.m rfl (a0v (a0b (pv 0) (a0b (a0w a1j (a0w a0x (pv 1) a0l (fun _ _=>rfl)) (pv 2) (fun _ _=>rfl)) (a0b (a2t (a0g (pv 3) a0i)) a0o rfl) rfl) rfl)))) (a0d (a4l (a1p (c7m hu) (pv 4) (a0w a0x (pv 1) a0l (fun _ _=>rfl)) (by with_unfolding_all rfl)) (a0h (a0s b3c)) a1v) (a0d (a0p (i:=5) kZ.nd rfl (Or.inr rfl) (a0m jJ hr.m rfl (a0v (a0b (pv 0) (a0b (pv 1) (a0b (a6z a1P a6A a6B (b1u hu) (a0w a0x (pv 1) a0l (fun _ _=>rfl)) (a0g (pv 4) a0i)) a0o rfl) rfl) rfl)))) (a0h (a0s (a1i a1d rfl jE a6V (a0g (a1m (CompSc.to (N:=["machine","level","k","letter","there","ends"]) (osc:=a0e a4w) (vs:=["part"]) {}) rfl rfl (a2a (a0m jJ hr.m rfl (a0v (a0b (pv 0) (a0b (pv 1) (a0b (pv 2) a0o rfl) rfl) rfl)))) (fun _ _ _ _=>a2q) (fun _ _ _ _=>(d5v (K:=K) c7n rfl (a6z a1P a6A a6B (b1u hu) (pv 6) (a0g (a0m jH hr.m rfl (a0v (a0b (pv 1) (a0b (pv 0) (a0b (a2t (a0g (pv 4) a0i)) a0o rfl) rfl) rfl))) a0i))))) a0i))))))),?_⟩;obtain⟨uU,few⟩:=lp.inU M ff;have lwd:=(lp.go k x wd ex ew).1;have l1: ∀z∈[l],z<ts.length:=fun z hz=>by rw[a0J.mp hz];exact ll
 refine⟨_,rfl,_,rfl,a,_,_,_,rfl,rfl,SqT.of h1,rfl,_,rfl,s',_,_,_,rfl,rfl,SqL.of h2,a1x (by rw[a0F,eb];rfl),_,rfl,by show 1<=sizeLine;decide,fun p1 hp1=>?_⟩;have kp:=a0c hp1 (.lst [nv l]);refine⟨m,b,p1,ts,n,x,[l],rfl,M.same kp,SqT.of (kp _ _ hb),a1C (a4i M.n5 hU) M.n5,(mem_setsU.mp hU).2,SqL.of a0a,l1,fun th H2 g2' e2=>?_⟩;have g2:=kp.trans g2';have e2':H2 th=some (.tup ((a0k ts x l).map nv)):=e2;generalize hy:a0k ts x l=y at e2' q1 q2;have lvc:=g2 _ _ h2;refine⟨_,rfl,_,rfl,a,_,_,_,rfl,rfl,SqT.of (g2 _ _ h1),rfl,s',1,.tup (dtN y),c.map fun u=>Dt.tup (dtN u),_,rfl,SqL.of lvc,by rw[a0C,a0C,lb],a5c (SqT.of e2'),a8m (h3.same g2),by decide,fun cc hc=>⟨_,rfl,?_⟩⟩;by_cases my:y∈c
 ·have hc':cc=true:=hc.mpr (in_dts.mpr my);subst hc';refine a9l ?_;obtain⟨k',ey,no⟩:=b2i my;have lk':=(a0B.mp ey).1;obtain⟨wd',ew'⟩: ∃wd',wds[k']? =some wd':=⟨_,a0A (by rw[lp.len];exact lk')⟩;have lwd':=(lp.go k' y wd' ey ew').1;refine⟨_,rfl,_,rfl,_,rfl,a,_,_,_,rfl,rfl,SqT.of (g2 _ _ h1),rfl,.inl ⟨rfl,_,SqL.of lvc⟩,_,rfl,s',_,1,.tup (dtN y),c.map fun u=>Dt.tup (dtN u),_,k',rfl,rfl,SqL.of lvc,by rw[a0C,a0C,lb],a5c (SqT.of e2'),a8m (h3.same g2),by decide,at_dts.mpr ey,fun i hi e=>no i hi (at_dts.mp e),?_⟩;refine⟨m,a,k',ts,n,c,us,wds,wd',rfl,M.same g2,lv.same g2,ew',uU,few,lwd',fun en es H3 g3' een Ten=>?_⟩;have g3:=g2.trans g3';have len:=Ten.len;rw[a0C]at len;refine⟨_,rfl,_,rfl,_,rfl,m,a,k,ts,n,c,us,wds,wd,rfl,M.same g3,lv.same g3,ew,uU,few,lwd,fun pl ps H4 g4' epl Tps=>?_⟩;have g4:=g3.trans g4';have lps:=Tps.len;rw[a0C]at lps;refine⟨pl,rfl,⟨_,SqL.of epl⟩,a2j (xs:=ps.map .ref) (fun i ys' H'=>Same H4 H'/\ ∃js:Nsq,ys'=js.map nv/\js.length=i/\ ∀(j:Nat) (u:Nsq) (j':Nat),us[j]? =some u->js[j]? =some j'-> ∃u',us[j']? =some u'/\a2l (a0k ts) u' wd'=a0k ts (a2l (a0k ts) u wd) l) (by rw[a0C,a0Y];lia) ⟨Same.refl _,[],rfl,rfl,fun j u j' _ e=>by simp at e⟩ (fun i ys' H' hi p=>?_) (fun i v ys' H' hv p=>?_) (fun ys' H5 p tl htl=>?_)⟩
  ·obtain⟨g,js,rfl,e,_⟩:=p;exact⟨SqL.of (g _ _ epl),by rw[a0C];lia⟩
  ·obtain⟨g,js,rfl,e,al⟩:=p;rw[a0F]at hv;obtain⟨d,ed,rfl⟩:=a0O.mp hv;have li:=(a0B.mp ed).1;obtain⟨u,eu⟩: ∃u,us[i]? =some u:=⟨_,a0A (by lia)⟩;have mu:=a0E eu;have hd:=g _ _ (Tps.is i d _ ed (by rw[a0F,eu];rfl));have guU:=a2c M (uU u mu) lwd;have gH:=g4.trans g;refine⟨a1l,a4r ⟨_,rfl,.inl ⟨rfl,_,SqL.of ((g4'.trans g) _ _ een)⟩,_,rfl,_,rfl,_,rfl,by show 1<=sizeLine;decide,fun p1 hp1=>?_⟩⟩;have kp:=a0c hp1 (.lst [nv l]);refine⟨m,d,p1,ts,n,_,[l],rfl,M.same (gH.trans kp),SqT.of (kp _ _ hd),a1C (a4i M.n5 guU) M.n5,(mem_setsU.mp guU).2,SqL.of a0a,l1,fun ca H6 g6' e6=>?_⟩;have e6':H6 ca=some (.tup ((a0k ts (a2l (a0k ts) u wd) l).map nv)):=e6;have g6:=(g4'.trans g).trans (kp.trans g6');have mi:=b8d M ff lp ex ew ll (by rw[hy];exact ey) ew' mu;obtain⟨j0,ej0,no0⟩:=b2i mi;refine⟨en,_,1,.tup (dtN (a0k ts (a2l (a0k ts) u wd) l)),(us.map fun u=>a2l (a0k ts) u wd').map fun u=>Dt.tup (dtN u),_,j0,rfl,rfl,SqL.of (g6 _ _ een),by rw[a0C,a0C,a0C,len],a5c (SqT.of e6'),a8m (Ten.same g6),by decide,at_dts.mpr ej0,fun i hi e=>no0 i hi (at_dts.mp e),?_⟩;refine⟨g.trans (kp.trans g6'),js++[j0],by simp,by simp[e],fun j u2 j' e1 e2=>?_⟩;by_cases hj:j<js.length
   ·rw[a0N hj]at e2;exact al j u2 j' e1 e2
   ·rw[a0M (by lia)]at e2;have z:j-js.length=0:=by
     have:=(a0B.mp e2).1;simp at this;lia
    rw[z]at e2;cases e2;have ji:j=i:=by lia
    subst ji;rw[eu]at e1;cases e1;rw[a0F]at ej0;obtain⟨u',f1,f2⟩:=a0O.mp ej0;exact⟨u',f1,f2⟩
  ·obtain⟨g5,js,rfl,ej,al⟩:=p;rw[a0C]at ej;have kt:=a0c htl (.lst (js.map nv));refine⟨tl,_,rfl,.inl ⟨SqL.of a0a,fun r hr'=>?_⟩⟩;have kr:=a0c hr' (.tup (js.map nv));exact q2 k' wd' ey ew' r js _ (((g4.trans g5).trans kt).trans kr) a0a ⟨by lia,al⟩
 ·have hc':cc=false:=by
   cases cc with
   |false=>rfl
   |true=>exact wC (in_dts.mp (hc.mp rfl)) my
  subst hc';exact b1c (q1 my H2 g2)
theorem hqT0:(tabsL[0]'(by decide))∈tabsL:=a2Y _
theorem hqT1:(tabsL[1]'(by decide))∈tabsL:=a2Y _
def img(t u:Nsq):Nsq:=a2u (u.map fun r=>t.getD r 0)
theorem mem_nrm{xs:Nsq}{r:Nat}:r∈a2u xs↔r<5/\r∈xs:=by
 unfold a2u;rw[a0S,a1Q,a1K]
theorem d9s{xs ys:Nsq}(h: ∀r,r∈xs↔r∈ys):a2u xs=a2u ys:=by
 unfold a2u;refine a5T fun i _=>?_;rw[a3D,a1K,a1K];exact h i
theorem d2u{f:Nat->Nat}{n r:Nat}(h:r<n):((List.range n).map f).getD r 0=f r:=by
 rw[a0I,a0F,a3C h];rfl
theorem d2v{H:Hp}{m:Ad}{ts:LN}{n:Nat}(M:Mach H m ts n){u w:Nsq}(hu:u∈a1n n)(lw: ∀l∈w,l<ts.length):a2l (a0k ts) u w=img (c4d ts n w) u:=by
 rw[a8i M w u hu lw];unfold img a9s c4d
 congr 1
 refine a4E fun r hr=>?_;rw[d2u ((mem_setsU.mp hu).2 r hr)]
theorem c4m{H:Hp}{m:Ad}{ts:LN}{n:Nat}(M:Mach H m ts n){w:Nsq}(lw: ∀l∈w,l<ts.length):c4d ts n w∈a8h n n:=by
 refine mem_mapsU.mpr ⟨c8r ts n w,fun r hr=>?_⟩;obtain⟨x,hx,rfl⟩:=a0R.mp hr;exact a5r M w x (a1Q.mp hx) lw
def ixl(us:LN)(x:Nsq):Nat:=us.findIdx fun y=>decide (y=x)
theorem a4j{us:LN}{x:Nsq}(h:x∈us):ixl us x<us.length/\us[ixl us x]? =some x:=by
 have l:ixl us x<us.length:=List.findIdx_lt_length_of_exists ⟨x,h,a1A rfl⟩;refine⟨l,?_⟩;rw[a0A l];have z:decide (us[ixl us x]=x)=true:=List.findIdx_getElem (p:=fun y=>decide (y=x)) (w:=l);rw[a1V z]
theorem c2l{us:LN}{x:Nsq}{j:Nat}(nd:us.Nodup)(h:us[j]? =some x):ixl us x=j:=by
 obtain⟨l,e⟩:=a4j (a0E h);exact(a2M l nd).mp (e.trans h.symm)
def ind(us:LN)(t:Nsq):Nsq:=us.map fun u=>ixl us (img t u)
def gU(us:LN)(n:Nat):LN:=((a8h n n).filter fun t=>us.all fun u=>us.contains (img t u)).map (ind us)
theorem mem_gU{us:LN}{n:Nat}{x:Nsq}:x∈gU us n↔ ∃t∈a8h n n,(∀u∈us,img t u∈us)/\x=ind us t:=by
 unfold gU;rw[a0R];constructor
 ·rintro⟨t,ht,rfl⟩;obtain⟨h1,h2⟩:=a0S.mp ht;exact⟨t,h1,fun u hu=>a1K.mp (a6C.mp h2 u hu),rfl⟩
 ·rintro⟨t,h1,h2,rfl⟩;exact⟨t,a0S.mpr ⟨h1,a6C.mpr fun u hu=>a1K.mpr (h2 u hu)⟩,rfl⟩
theorem c9j{us:LN}{n:Nat}(h:n<=5):(gU us n).length<=4000:=by
 unfold gU;rw[a0C];exact a1C (a1Y _ _) (c8t h)
theorem d6s{us:LN}{n:Nat}{x:Nsq}(h:x∈gU us n):x.length=us.length/\ ∀r∈x,r<us.length:=by
 obtain⟨t,_,g,rfl⟩:=mem_gU.mp h;refine⟨by simp[ind],fun r hr=>?_⟩;obtain⟨u,hu,rfl⟩:=a0R.mp hr;exact(a4j (g u hu)).1
theorem b5r{us:LN}{n:Nat}(nd:us.Nodup)(hU: ∀u∈us,u∈a1n n):List.range us.length∈gU us n:=by
 have id1: ∀u∈us,img (List.range n) u=u:=fun u hu=>by
  obtain⟨h1,h2⟩:=mem_setsU.mp (hU u hu);unfold img;have:u.map (fun r=>(List.range n).getD r 0)=u.map id:=a4E fun r hr=>by
   rw[a0I,a3C (h2 r hr)];rfl
  rw[this,List.map_id,h1]
 refine mem_gU.mpr ⟨List.range n,b9v n,fun u hu=>by rw[id1 u hu];exact hu,?_⟩;refine a3S fun j=>?_;unfold ind;rw[a0F];by_cases h:j<us.length
 ·rw[a3C h,a0A h];show some j=some (ixl us (img (List.range n) us[j]));rw[id1 _ (a2Y h),c2l nd (a0A h)]
 ·rw[a1O (by simp;lia),List.getElem?_eq_none (by lia)];rfl
theorem d6t{n:Nat}{t t2 u:Nsq}(n5:n<=5)(ht:t∈a8h n n)(hu:u∈a1n n):img t2 (img t u)=img (beh t t2) u:=by
 obtain⟨t1,t3⟩:=mem_mapsU.mp ht;obtain⟨_,u2⟩:=mem_setsU.mp hu;unfold img;refine d9s fun r=>?_;have e: ∀x∈u,(beh t t2).getD x 0=t2.getD (t.getD x 0) 0:=fun x hx=>by
  have hl:x<t.length:=by rw[t1];exact u2 x hx
  unfold beh;rw[a0I,a0F,a0A hl,a0I (l:=t),a0A hl];rfl
 have lt5: ∀x∈u,t.getD x 0<5:=fun x hx=>by
  have:=b1n t3 (by rw[t1];exact u2 x hx);lia
 rw[a0R,a0R];constructor
 ·rintro⟨y,hy,rfl⟩;obtain⟨_,hy⟩:=mem_nrm.mp hy;obtain⟨x,hx,rfl⟩:=a0R.mp hy;exact⟨x,hx,e x hx⟩
 ·rintro⟨x,hx,rfl⟩;exact⟨t.getD x 0,mem_nrm.mpr ⟨lt5 x hx,a0R.mpr ⟨x,hx,rfl⟩⟩,(e x hx).symm⟩
theorem c9k{n:Nat}{t t2:Nsq}(h:t∈a8h n n)(h2:t2∈a8h n n):beh t t2∈a8h n n:=by
 obtain⟨a1,a2⟩:=mem_mapsU.mp h;obtain⟨b1,b2⟩:=mem_mapsU.mp h2;refine mem_mapsU.mpr ⟨by unfold beh;rw[List.length_map,a1],fun r hr=>?_⟩;obtain⟨x,hx,rfl⟩:=a0R.mp hr;exact b1n b2 (by rw[b1];exact a2 x hx)
theorem c0c{us:LN}{n:Nat}{x y:Nsq}(n5:n<=5)(hU: ∀u∈us,u∈a1n n)(hx:x∈gU us n)(hy:y∈gU us n):beh x y∈gU us n:=by
 obtain⟨t,h1,g1,rfl⟩:=mem_gU.mp hx;obtain⟨t2,h2,g2,rfl⟩:=mem_gU.mp hy;have e: ∀u∈us,img (beh t t2) u=img t2 (img t u):=fun u hu=>(d6t n5 h1 (hU u hu)).symm;refine mem_gU.mpr ⟨beh t t2,c9k h1 h2,fun u hu=>by rw[e u hu];exact g2 _ (g1 u hu),?_⟩;unfold ind;show(us.map fun u=>ixl us (img t u)).map (fun x=>(us.map fun u=>ixl us (img t2 u)).getD x 0)=_;rw[a3X];refine a4E fun u hu=>?_;obtain⟨l,ev⟩:=a4j (g1 u hu);show(us.map fun u=>ixl us (img t2 u)).getD (ixl us (img t u)) 0=ixl us (img (beh t t2) u);rw[a0I,a0F,ev,e u hu];rfl
theorem a8p{H:Hp}{m:Ad}{ts:LN}{n:Nat}{fam c us wds:LN}(M:Mach H m ts n)(ff:FamOf ts n fam)(lp:LvP ts fam c us wds):us.Nodup:=by
 have tf:=a3d M ff (c.headD []);rw[<-lp.tl]at tf;exact tf.up.imp fun {a b} z e=>by
  subst e;rw[b8c]at z;cases z
theorem b8e{H:Hp}{m:Ad}{ts:LN}{n:Nat}{fam c us wds:LN}(M:Mach H m ts n)(ff:FamOf ts n fam)(lp:LvP ts fam c us wds){k k' l:Nat}{x wd wd' js:Nsq}(ex:c[k]? =some x)(ew:wds[k]? =some wd)(ll:l<ts.length)(ey:c[k']? =some (a0k ts x l))(ew':wds[k']? =some wd')(tb:a1u ts us wd wd' l js):
  js∈gU us n:=by
 obtain⟨uU,_⟩:=lp.inU M ff;have nd:=a8p M ff lp;have lwd:=(lp.go k x wd ex ew).1;obtain⟨p,b⟩:=lp.bij M ff ey ew';have tf:=a3d M ff (c.headD []);rw[<-lp.tl]at tf;have lw: ∀z∈wd++[l]++p,z<ts.length:=fun z hz=>by
  rcases a0Q.mp hz with h|h
  ·rcases a0Q.mp h with h|h
   ·exact lwd z h
   ·rw[a0J.mp h];exact ll
  ·exact b.lp z h
 have at1: ∀(j:Nat) (u:Nsq) (j':Nat),us[j]? =some u->js[j]? =some j'->us[j']? =some (img (c4d ts n (wd++[l]++p)) u):=fun j u j' eu ej=>by
  obtain⟨u',f1,f2⟩:=tb.2 j u j' eu ej;have hu':=a0E f1;rw[<-d2v M (uU u (a0E eu)) lw,b0q,b0q];show us[j']? =some (a2l (a0k ts) (a0k ts (a2l (a0k ts) u wd) l) p);rw[<-f2,b.back M (uU u' hu') (tf.mem u' hu').2.2];exact f1
 have lj:=tb.1;refine mem_gU.mpr ⟨_,c4m M lw,fun u hu=>?_,?_⟩
 ·obtain⟨j,ej⟩:=a4S hu;obtain⟨j',ej'⟩: ∃j',js[j]? =some j':=⟨_,a0A (by rw[lj];exact(a0B.mp ej).1)⟩;exact a0E (at1 j u j' ej ej')
 ·refine a3S fun j=>?_;unfold ind;rw[a0F];cases ej:us[j]? with
  |none=>
   have:=List.getElem?_eq_none_iff.mp ej;rw[a1O (by lia)];rfl
  |some u=>
   have:=(a0B.mp ej).1;obtain⟨j',ej'⟩: ∃j',js[j]? =some j':=⟨_,a0A (by lia)⟩;rw[ej'];exact a1W some (c2l nd (at1 j u j' ej ej')).symm
theorem c0d{H:Hp}{m:Ad}{ts:LN}{n:Nat}{fam c us wds:LN}(M:Mach H m ts n)(ff:FamOf ts n fam)(lp:LvP ts fam c us wds){k' l:Nat}{y wd wd' js js':Nsq}(ey:c[k']? =some y)(ew':wds[k']? =some wd')(tb:a1u ts us wd wd' l js)(tb':a1u ts us wd wd' l js'):js=js':=by
 obtain⟨uU,_⟩:=lp.inU M ff;have nd:=a8p M ff lp;obtain⟨p,b⟩:=lp.bij M ff ey ew';have tf:=a3d M ff (c.headD []);rw[<-lp.tl]at tf;refine a6b (by rw[tb.1,tb'.1]) fun j a a' e1 e2=>?_;obtain⟨u,eu⟩: ∃u,us[j]? =some u:=⟨_,a0A (by rw[<-tb.1];exact(a0B.mp e1).1)⟩;obtain⟨v,f1,f2⟩:=tb.2 j u a eu e1;obtain⟨v',g1,g2⟩:=tb'.2 j u a' eu e2;have hv:=a0E f1;have hv':=a0E g1;have e:v=v':=by
  rw[<-b.back M (uU v hv) (tf.mem v hv).2.2,<-b.back M (uU v' hv') (tf.mem v' hv').2.2,f2,g2]
 subst e;exact(a2M (a0B.mp f1).1 nd).mp (f1.trans g1.symm)
theorem b3y{H:Hp}{m:Ad}{ts:LN}{n:Nat}{fam c us wds:LN}(M:Mach H m ts n)(ff:FamOf ts n fam)(lp:LvP ts fam c us wds):0<us.length:=by
 obtain⟨_,_,cx,_⟩:=a0r lp.cls;obtain⟨h1,h2⟩:=a0S.mp cx;have tf:=a3d M ff (c.headD []);rw[<-lp.tl]at tf;obtain⟨_,u2⟩:=mem_setsU.mp (ff.inU M h1);cases e:c.headD []with
 |nil=>
  rw[e]at h2;cases h2
 | cons r rs=>
  rw[e]at tf u2 h2;obtain⟨t,ht,_⟩:=tf.all [r] ((ff.mem [r]).mpr (.inr ⟨r,u2 r (a0T ..),rfl⟩)) (fun z=>by
   have z2:=a1W List.length z;have h2:=a1V h2;rw[<-z2]at h2;simp at h2) (by simp[sub])
  exact a6H ht
structure Makers(ts c us wds mk:LN):Prop where
 mem: ∀t∈mk,∃(k l k':Nat) (x wd wd':Nsq),c[k]? =some x/\wds[k]? =some wd/\l<ts.length/\c[k']? =some (a0k ts x l)/\wds[k']? =some wd'/\a1u ts us wd wd' l t
 all: ∀(k l:Nat) (x wd:Nsq),c[k]? =some x->wds[k]? =some wd->l<ts.length->a0k ts x l∈c-> ∃(k':Nat) (wd' t:Nsq),t∈mk/\c[k']? =some (a0k ts x l)/\wds[k']? =some wd'/\a1u ts us wd wd' l t
theorem b3z: ∀{ws:TW} {as:As},as.length=ws.length->(a3r ws as).map (·.1)=(ws.map (·.1)).map nk
 | [],[],_=>rfl
 |p::ws,a::as,h=>a1W (nk p.1:: ·) (b3z (ws:=ws) (as:=as) (Nat.succ.inj h))
def b2l(mk:LN)(x:Nsq)(i:Nat):Nsq:=beh x (mk.getD i [])
def b2m:Sp:=fun vs H Q _=> ∃(m a:Ad) (ts:LN) (n:Nat) (fam c us wds:LN),vs=[.ref m,.ref a]/\Mach H m ts n/\FamOf ts n fam/\LvH H a c us wds/\LvP ts fam c us wds/\
 ∀l rs mk H',Same H H'->H' l=some (.lst (rs.map .ref))->TupsAt H' rs mk->Makers ts c us wds mk->mk.length<=200->Q (.ref l) H'
def c9l:Sp:=fun vs H Q _=> ∃(m a:Ad) (ts:LN) (n:Nat) (fam c us wds:LN),vs=[.ref m,.ref a]/\Mach H m ts n/\FamOf ts n fam/\LvH H a c us wds/\LvP ts fam c us wds/\Tabs H/\
 ∀l bs gs mk ws H',Keeps H H'->Tabs H'->L2.noT H l=none->H' l=some (.lst (bs.map .ref))->TupsAt H' bs gs->gs.Perm (ws.map (·.1))->gs.Pairwise (fun x y=>ltl x y=true)->Makers ts c us wds mk->Told (b2l mk) mk.length (List.range us.length) ws->Q (.ref l) H'
theorem b5s(F:Fun K "all_tiles_turned" "all_tiles_turned" a4h f fd)(jP:a0u P w K mg base "tiles_turned" 9 ["machine","level","k","letter"] b5q)(jC:mg "len"=none)(jD:mg "range"=none):FnOk P w K mg base CX0 11 f fd ["machine","level"] b2m:=by
 refine F.ok jN (fun vs H Q E h=>?_) (fun cdv A outer s H vs Q E hr h=>?_)
 ·obtain⟨m,a,ts,n,fam,c,us,wds,rfl,_⟩:=h;rfl
 obtain⟨m,a,ts,n,fam,c,us,wds,rfl,M,ff,lv,lp,q⟩:=h;have hu:=hr.units;refine⟨_,(a0d (a0p (i:=2) jN.nd rfl (Or.inl rfl) (a2t a0i)) (a0d (a3o a2J rfl (a2s rfl jD (a0g (a0t a0n rfl jC a4C (a0g (a0w a0x (pv 1) a0l (fun _ _=>rfl)) a0i)) a0i)) (a1c (i:=3) jN.nd rfl (Or.inl rfl)) (a0h (a3o a2J rfl (a2s rfl jD (a0g (a0t a0n rfl jC a4C (a0g (pv 0) a0i)) a0i)) (a1c (i:=4) jN.nd rfl (Or.inl rfl)) (a0d (a0p (i:=5) jN.nd rfl (Or.inl rfl) (a0m jP hr.m rfl (a0v (a0b (pv 0) (a0b (pv 1) (a0b (pv 3) (a0b (pv 4) a0o rfl) rfl) rfl) rfl)))) (a0h (a4l (a1p c5i (pv 5) b3c (a2e _)) (a0h (a3f (a6z a1P a2D a2E a2b (pv 2) (a0g (pv 5) a0i)))) a1v)))))) (a0h (a0s (pv 2))))),?_⟩;obtain⟨s',t',v',bs,ds,cs,h1,h2,h3,h4,h5,h6,h7,h8⟩:=id lv;have lb:=h3.len;have t1:=M.some1;have t4:=M.few;obtain⟨rs,hm,hrl,_⟩:=M.refs;have c32:c.length<=32:=by
  rw[(a0r lp.cls).2.1];exact a1C (a1Y _ _) (a1C (a1Y _ _) (ff.few M))
 refine⟨by show 0<=sizeLine;decide,fun fo hfo=>?_⟩;have k0:=a0c hfo (.lst [])
 let Mk:Nat->Nat->List Nsq->Prop:=fun k l mk=>mk.length<=4 * k+l/\(∀t∈mk,∃(k l k':Nat) (x wd wd':Nsq),c[k]? =some x/\wds[k]? =some wd/\l<ts.length/\c[k']? =some (a0k ts x l)/\wds[k']? =some wd'/\a1u ts us wd wd' l t)/\
  ∀(i j:Nat) (x wd:Nsq),(i<k∨i=k/\j<l)->c[i]? =some x->wds[i]? =some wd->j<ts.length->a0k ts x j∈c-> ∃(k':Nat) (wd' t:Nsq),t∈mk/\c[k']? =some (a0k ts x j)/\wds[k']? =some wd'/\a1u ts us wd wd' j t
 let Pk:Nat->L2.St->Hp->Prop:=fun k σ H'=>Same H H'/\ ∃(qs:As) (mk:LN) (o3 o4 o5:Option V),H' fo=some (.lst (qs.map .ref))/\TupsAt H' qs mk/\Mk k 0 mk/\σ=[some (.ref m),some (.ref a),some (.ref fo),o3,o4,o5]
 refine⟨_,rfl,a,_,_,_,rfl,rfl,SqT.of (k0 _ _ h1),rfl,s',_,rfl,.inl (SqL.of (k0 _ _ h2)),(c.length:Int),by rw[a0C,lb],by lia,by lia,a7q Pk ⟨k0,[],[],none,none,none,a0a,⟨rfl,fun i b u e=>by simp at e⟩,⟨Nat.zero_le _,(fun t ht=>nomatch ht),fun i j x wd hij=>by lia⟩,rfl⟩ (fun k σ H1 hk p=>?_) (fun σ H1 p=>?_)⟩
 ·obtain⟨g1,qs,mk,o3,o4,o5,e1,T1,K1,rfl⟩:=p;have hk':k<c.length:=by simpa using hk
  have zk:V.int ((0:Int)+((k:Nat):Int))=nv k:=by show V.int (0+(k:Int))=V.int (k:Int);rw[a7J]
  rw[zk];obtain⟨wd,ew⟩: ∃wd,wds[k]? =some wd:=⟨_,a0A (by rw[lp.len];exact hk')⟩;obtain⟨x,ex⟩: ∃x,c[k]? =some x:=⟨_,a0A hk'⟩
  let Pl:Nat->L2.St->Hp->Prop:=fun l σ H'=>Same H H'/\ ∃(qs:As) (mk:LN) (o4 o5:Option V),H' fo=some (.lst (qs.map .ref))/\TupsAt H' qs mk/\Mk k l mk/\σ=[some (.ref m),some (.ref a),some (.ref fo),some (nv k),o4,o5]
  refine⟨_,rfl,m,_,rfl,.inr (SqT.of (g1 _ _ hm)),(ts.length:Int),by rw[a0C,hrl],by lia,by lia,a7q Pl ⟨g1,qs,mk,_,_,e1,T1,K1,rfl⟩ (fun l σ H2 hl p=>?_) (fun σ H2 p=>?_)⟩
  ·obtain⟨g2,qs,mk,o4,o5,e2,T2,K2,rfl⟩:=p;have hl':l<ts.length:=by simpa using hl
   have zl:V.int ((0:Int)+((l:Nat):Int))=nv l:=by show V.int (0+(l:Int))=V.int (l:Int);rw[a7J]
   rw[zl];obtain⟨kz,km,ka⟩:=K2;refine⟨_,rfl,_,rfl,_,rfl,_,rfl,m,a,k,l,ts,n,fam,c,us,wds,x,wd,rfl,M.same g2,ff,lv.same g2,lp,ex,ew,hl',fun my H3 g3=>?_,fun k' wd' ey ew' tp js H3 g3 etp tb=>?_⟩
   ·refine⟨_,rfl,rfl,_,rfl,a9l ⟨g2.trans g3,qs,mk,_,_,g3 _ _ e2,T2.same g3,⟨by lia,km,fun i j x' wd'' hij e1' e2' e3' e4'=>?_⟩,rfl⟩⟩;by_cases z:i=k/\j=l
    ·obtain⟨rfl,rfl⟩:=z;rw[ex]at e1';cases e1';exact wC e4' my
    ·exact ka i j x' wd'' (by lia) e1' e2' e3' e4'
   ·refine⟨_,rfl,rfl,_,rfl,b1c ?_⟩;have e3:=g3 _ _ e2;have lq:=T2.len;refine⟨_,rfl,.inl ⟨rfl,_,SqL.of e3⟩,_,rfl,fo,_,_,rfl,rfl,e3,by rw[a0C,a0Y];lia,?_⟩;refine⟨a1e (g2.trans g3) hfo,qs++[tp],mk++[js],_,_,by rw[a0a,a1B];rfl,a6q ⟨lq,fun i b u e1 e2=>?_⟩ ?_,⟨by rw[a0L,a5B];lia,fun t ht=>?_,fun i j x' wd'' hij e1' e2' e3' e4'=>?_⟩,rfl⟩
    ·have z:=(T2.same g3).is i b u e1 e2;rw[a0f (nE z e3)];exact z
    ·rw[a0f (nE etp e3)];exact etp
    ·rcases a0Q.mp ht with z|z
     ·exact km t z
     ·rw[a0J.mp z];exact⟨k,l,k',x,wd,wd',ex,ew,hl',ey,ew',tb⟩
    ·by_cases z:i=k/\j=l
     ·obtain⟨rfl,rfl⟩:=z;rw[ex]at e1';cases e1';rw[ew]at e2';cases e2';exact⟨k',wd',js,a0Q.mpr (.inr (a0J.mpr rfl)),ey,ew',tb⟩
     ·obtain⟨k2,wd2,t,r1,r2⟩:=ka i j x' wd'' (by lia) e1' e2' e3' e4';exact⟨k2,wd2,t,a0Q.mpr (.inl r1),r2⟩
  ·obtain⟨g2,qs,mk,o4,o5,e2,T2,⟨kz,km,ka⟩,rfl⟩:=p;have el:(ts.length:Int).toNat=ts.length:=a1U _;rw[el]at kz ka;exact⟨g2,qs,mk,_,_,_,e2,T2,⟨by lia,km,fun i j x' wd'' hij e1' e2' e3' e4'=>ka i j x' wd'' (by lia) e1' e2' e3' e4'⟩,rfl⟩
 ·obtain⟨g1,qs,mk,o3,o4,o5,e1,T1,⟨kz,km,ka⟩,rfl⟩:=p;have el:(c.length:Int).toNat=c.length:=a1U _;rw[el]at kz ka;exact⟨_,rfl,q fo qs mk H1 g1 e1 T1 ⟨km,fun k l x wd e1 e2 e3 e4=>ka k l x wd (.inl (a0B.mp e1).1) e1 e2 e3 e4⟩ (by lia)⟩
theorem b8f{fl c lm cc:Ad}{oc:Obj}{mk us:LN}{n:Nat}{rs:As}{Hc:Hp}{pm ct:Vl}{params:Arguments}{body:Expr}{scope:Scope}{sx fx a1 a2:Expr}{kw skw:List Keyword}{lp cp scp rp:Pos}{s0:Stmt}(e:a2i a1q=[s0,.Return (some (.Call sx [.Call fx [a1,a2,.Lambda params body scope lp] kw cp] skw scp)) rp])
  (kH:a0u P w K mg base "behind" 1 ["one","other"] b0o) (hl:Hc lm=some (.lst (rs.map .ref))) (Tm:TupsAt Hc rs mk) (mU: ∀t∈mk,t∈gU us n) (few:us.length<=32) (h1:Hc fl=some (b4n fl (a4m "level_group.<locals>.<lambda>" params body scope "makers" c pm (.ref cc) ct))) (h2:Hc c=some (a4d c lm oc)) (h3:Hc cc=some (a7i cc "level_group.<locals>.<lambda>")):
  FnOk P w K mg base CX0 5 fl (a4m "level_group.<locals>.<lambda>" params body scope "makers" c pm (.ref cc) ct) ["turn","number"] (a9o (Same Hc) (gU us n) mk.length (b2l mk))/\Binds K (a4m "level_group.<locals>.<lambda>" params body scope "makers" c pm (.ref cc) ct) ["turn","number"] []:=by
 cases e;refine⟨d3x (k:=4) (m:=lm) (oc:=oc) ⟨rfl,rfl,rfl,by decide+kernel,by decide+kernel,rfl,by decide+kernel⟩ (fun vs H Q E h=>?_) (fun vs H Q E h=>?_) (fun A outer s H vs Q E hr h=>?_),.all fun us hl=>match us,hl with| [_,_],_=>rfl⟩
 ·obtain⟨t,x,l,rfl,_⟩:=h;rfl
 ·obtain⟨t,x,l,rfl,g,_⟩:=h;exact⟨g _ _ h1,g _ _ h2,g _ _ h3⟩
 ·obtain⟨t,x,l,rfl,g,ht,hx,hl',q⟩:=h;refine⟨_,(a0m kH hr.m rfl (a0v (a0b (pv 0) (a0b (a0w a1j (pv 2) (pv 1) (fun _ _=>rfl)) a0o rfl) rfl))),?_⟩;have hc:=g _ _ h2;have off: ∀{b:Ad} {u:HO},(∀φ,u≠ .ext φ)->H b=some u->(L2.drop H c) b=some u:=fun nu hb=>by
   rw[a1a (a8s hb hc fun e=>nu _ e)];exact hb
  have ln:=Tm.len;obtain⟨r,er⟩: ∃r,rs[l]? =some r:=⟨_,a0A (by lia)⟩;have et:mk[l]? =some (mk.getD l []):=by rw[a0I,a0A hl'];rfl
  have hr1:=off (u:= .tup _) (fun _ e=>nomatch e) (g _ _ (Tm.is l r _ er et));have mt:=mU _ (a0E et);obtain⟨x1,x2⟩:=d6s hx;obtain⟨y1,y2⟩:=d6s mt;refine⟨_,rfl,_,rfl,_,rfl,lm,_,_,_,rfl,rfl,SqL.of (off (u:= .lst _) (fun _ e=>nomatch e) (g _ _ hl)),a1x (j:=l) (v:= .ref r) (by rw[a0F,er];rfl),t,r,x,mk.getD l [],rfl,off (u:= .tup _) (fun _ e=>nomatch e) ht,hr1,fun y hy=>by rw[y1];exact x2 y hy,by lia,fun p H3 g3 e3 free=>q p _ (fun y o ho=>?_) ?_⟩
  ·by_cases hy:y=c
   ·subst hy;rw[hc]at ho;cases ho;exact a0a
   ·rw[a0f hy];exact g3 _ _ (by rw[a1a hy];exact ho)
  ·rw[a0f (a0j e3 free)];exact e3
theorem b3a{cd T:Ad}(F:DefAt K "level_group" a1q f fd .none (.ref cd))(hC:PySem.W.CodeHd base cd T)(bm:b4o mg base)(hq:(("level_group.<locals>.<lambda>":Str),(⟨121,61,121,110⟩:Pos),T)∈tabsL)(jZ:a0u P w K mg base "all_tiles_turned" 11 ["machine","level"] b2m)(kQ:a0u P w K mg base "still" 1 ["rooms"] b5i)(kH:a0u P w K mg base "behind" 1 ["one","other"] b0o)
  (kR:b4q P w K mg base "reached" 8 ["start","letters","step","most"] (a6p P w K mg base) [.non]) (jC:mg "len"=none) (kF:mg "sorted"=none):FnOk P w K mg base CX0 13 f fd ["machine","level"] c9l:=by
 refine F.fnOk qQ (fun vs H Q E h=>?_) (fun A outer s H vs Q E h hr=>?_)
 ·obtain⟨m,a,ts,n,fam,c,us,wds,rfl,_⟩:=h;rfl
 obtain⟨m,a,ts,n,fam,c,us,wds,rfl,M,ff,lv,lp,hT,q⟩:=h;refine⟨_,?_,(a0d (a0p (i:=2) qQ.nd rfl (Or.inr rfl) (a0m jZ hr.m rfl (a0v (a0b (pv 0) (a0b (pv 1) a0o rfl) rfl)))) (a0h (a0s (a0t (c4a rfl) rfl kF boot_sorted (a0g (b7i kR hr.m rfl (j:=2) rfl rfl rfl rfl (a0v (a0b (a0m kQ hr.m rfl (a0g (a0t a0n rfl jC a4C (a0g (a0w a0x (pv 1) a0l (fun _ _=>rfl)) a0i)) a0i)) (a0b (a0t a0n rfl jC a4C (a0g (pv 2) a0i)) (a0b (d4b (qual:="level_group.<locals>.<lambda>") rfl hC bm (fun _ _ _ _ _=>rfl) rfl rfl) a0o rfl) rfl) rfl))) a0i)))))⟩;refine⟨_,rfl,_,rfl,m,a,ts,n,fam,c,us,wds,rfl,M,ff,lv,lp,fun lm rs mk H1 g1 elm Tm Mk few200=>?_⟩;obtain⟨s',t',v',bs,ds,cs,h1,h2,h3,h4,h5,h6,h7,h8⟩:=id (lv.same g1);have l5:=h5.len;obtain⟨uU,few⟩:=lp.inU M ff;have n5:=M.n5;have nd:=a8p M ff lp;have mU: ∀t∈mk,t∈gU us n:=fun t ht=>by
  obtain⟨k,l,k',x,wd,wd',e1,e2,e3,e4,e5,e6⟩:=Mk.mem t ht;exact b8e M ff lp e1 e2 e3 e4 e5 e6
 refine⟨_,rfl,a,_,_,_,rfl,rfl,SqT.of h1,rfl,t',_,rfl,.inl (SqL.of h4),?_⟩
 try dsimp only
 rw[a0C,l5];refine⟨us.length,rfl,by lia,fun st H2 g2 e2=>?_⟩;have elm2:=g2 _ _ elm;have Tm2:=Tm.same g2;have T2:Tabs H2:=(hT.same g1).same g2;refine⟨_,rfl,lm,_,rfl,.inl (SqL.of elm2),?_⟩
 try dsimp only
 rw[a0C,Tm2.len];have end1: ∀(H3:Hp) (D:Ad) (ws:TW) (as:As),Keeps H H3->Tabs H3->WordsAt H3 D ws as->Told (b2l mk) mk.length (List.range us.length) ws->c8h [.ref D] H3 Q:=fun H3 D ws as k3 t3 W TT=>by
  have inG: ∀p∈ws,p.1∈gU us n:=fun p hp=>by
   obtain⟨r1,r2⟩:=TT.run p hp;rw[<-r2];refine a8z (b5r nd uU) (fun x hx l hl=>c0c n5 uU hx ?_) p.2 r1;rw[a0I,a0A hl];exact mU _ (a2Y hl)
  refine⟨D,_,ws.map (·.1),rfl,W.dict,?_,fun t ht e=>?_,?_,fun l bs gs hl Tb pm up=>?_⟩
  ·exact b3z W.len
  ·obtain⟨p,hp,rfl⟩:=a0R.mp ht;have z:=(d6s (inG p hp)).1;rw[e]at z;have:=b3y M ff lp
   simp at z;lia
  ·refine a1C (a7w (U:=gU us n) TT.keys fun x hx=>?_) (c9j n5);obtain⟨p,hp,rfl⟩:=a0R.mp hx;exact inG p hp
  ·have gl:=a0c hl (.lst (bs.map V.ref));refine q l bs gs mk ws _ (k3.trans gl.keeps) (t3.same gl) ?_ a0a (Tb.same gl) pm up Mk TT;cases y:L2.noT H l with
   |none=>rfl
   |some o=>
    have z:=k3 _ _ y;rw[hl]at z;cases z
 have go: ∀(fl cc:Ad) (ct:Vl) (H3:Hp) (tps:AV),H2 T=some (.tbl tps)->KeepsBut T H2 H3->H3 T=some (.tbl (a4e (⟨121,61,121,110⟩:Pos) cc))->H3 cc=some (a7i cc "level_group.<locals>.<lambda>")-> ∀(params:Arguments) (body:Expr) (scope:Scope) (pm:Vl) (c':Ad),H3 fl=some (b4n fl (a4m "level_group.<locals>.<lambda>" params body scope "makers" c' pm (.ref cc) ct))->
   ∀oc,H3 c'=none->(FnOk P w K mg base CX0 5 fl (a4m "level_group.<locals>.<lambda>" params body scope "makers" c' pm (.ref cc) ct) ["turn","number"] (a9o (Same (upd H3 c' (a4d c' lm oc))) (gU us n) mk.length (b2l mk)))->Binds K (a4m "level_group.<locals>.<lambda>" params body scope "makers" c' pm (.ref cc) ct) ["turn","number"] []->
   a6p P w K mg base [.ref st,nv mk.length,.ref fl,.non] (upd H3 c' (a4d c' lm oc)) (fun r H4=>H4 c'=some (a4d c' lm oc)/\c8h [r] (L2.drop H4 c') Q) E0:=fun fl cc ct H3 tps hT0 kb h1 h2 params body scope pm c' h3 oc hc hF hB=>by
  have k1:=kb.keeps hT0;have kc:=a0c hc (a4d c' lm oc);refine⟨st,fl,_,_,List.range us.length,mk.length,gU us n,b2l mk,rfl,kc _ _ (k1 _ _ (nU e2)),kc _ _ h3,b5r nd uU,fun x hx l hl=>c0c n5 uU hx ?_,c9j n5,by lia,hF,hB,fun D ws as H4 g4 W nw TT=>⟨g4 _ _ a0a,end1 _ D ws as (fun b o hb=>?_) (T2.but hq hT0 (fun b o nb hb=>?_) (.inr ⟨cc,?_,?_⟩)) ⟨W.len,?_,fun j a r e1 e2=>?_⟩ TT⟩⟩
  ·rw[a0I,a0A hl];exact mU _ (a2Y hl)
  ·have z:=((g1.trans g2).keeps.trans k1) b o hb;rw[a1a (a0j z hc)];exact g4 _ _ (kc _ _ z)
  ·have z:=kb b o nb hb;rw[a1a (a0j z hc)];exact g4 _ _ (kc _ _ z)
  ·rw[a1a (a0j h1 hc)];exact g4 _ _ (kc _ _ h1)
  ·rw[a1a (a0j h2 hc)];exact g4 _ _ (kc _ _ h2)
  ·rw[a1a (nE W.dict (g4 _ _ a0a))];exact W.dict
  ·have z:=W.list j a r e1 e2;rw[a1a (nE z (g4 _ _ a0a))];exact z
 rcases T2 _ hq with hT1|⟨cc,hT1,hcc⟩
 ·refine .inl ⟨hT1,fun fl cc ct hfl hcc ne=>⟨lm,rfl,fun oc hc=>?_⟩⟩;obtain⟨k1,hT2,hc1⟩:=d9p (⟨121,61,121,110⟩:Pos) "level_group.<locals>.<lambda>" hT1 hfl hcc ne _;have kc:=a0c hc (a4d (s.heap.objs.size+1) lm oc);have k1':=k1.keeps hT1;obtain⟨F1,F2⟩:=b8f rfl kH (kc _ _ (k1' _ _ (nU elm2))) ((a3c Tm2 k1').same kc) mU few (kc _ _ a0a) a0a (kc _ _ hc1);exact go fl cc ct _ _ hT1 k1 hT2 hc1 _ _ _ _ _ a0a oc hc F1 F2
 ·refine .inr ⟨cc,hT1,hcc,fun fl ct hfl=>⟨lm,rfl,fun oc hc=>?_⟩⟩;have k1: ∀lo,Same H2 (upd H2 fl lo):=fun lo=>a0c hfl lo;have kc:=a0c hc (a4d (s.heap.objs.size+1) lm oc);obtain⟨F1,F2⟩:=b8f rfl kH (kc _ _ (k1 _ _ _ elm2)) ((Tm2.same (k1 _)).same kc) mU few (kc _ _ a0a) a0a (kc _ _ (k1 _ _ _ hcc));exact go fl cc ct _ _ hT1 (fun b o _ hb=>k1 _ _ _ hb) (k1 _ _ _ hT1) (k1 _ _ _ hcc) _ _ _ _ _ a0a oc hc F1 F2
theorem d6u{ts:LN}{cs told:L3q}(o:Ord ts cs told):(∀c∈told,c∈cs)/\told.Nodup:=by
 induction o with
 |nil=>exact⟨fun _ h=>h,List.nodup_nil⟩
 | @cons cs told s h r ih=>
  obtain⟨i1,i2⟩:=ih;refine⟨fun c hc=>?_,a3F.mpr ⟨fun m=>?_,i2⟩⟩
  ·rcases a1L.mp hc with e|e
   ·rw[e];exact(a0S.mp (List.mem_of_head? h)).1
   ·exact(a0S.mp (i1 c e)).1
  ·have:=a1V (a0S.mp (i1 s m)).2;exact this rfl
theorem c9m{ts:LN}{cs told:L3q}(o:Ord ts cs told): ∀c∈cs,c∈told:=by
 induction o with
 |nil=>exact fun _ h=>h
 | @cons cs told s h r ih=>
  intro c hc;by_cases e:c=s
  ·rw[e];exact a0T ..
  ·exact a1D _ (ih c (a0S.mpr ⟨hc,a1A e⟩))
theorem d9t{ts:LN}{n:Nat}{fam:LN}(ff:FamOf ts n fam):(classes ts (big fam)).Pairwise fun c d=>a3s gl (c.headD []) (d.headD [])=true:=by
 unfold classes;rw[a5Q];refine a7L ?_ (a3B (a4F.trans a4F) ff.up);intro x y hx hy h;have hd: ∀z,z∈(big fam).filter (fun x=>(alike ts (big fam) x).head? ==some x)->(alike ts (big fam) z).headD []=z:=fun z hz=>by
  have e:=eq_of_beq (a0S.mp hz).2;rw[List.headD_eq_head?_getD,e];rfl
 rw[hd x hx,hd y hy];exact h
theorem b5t{H:Hp}{m:Ad}{ts:LN}{n:Nat}(M:Mach H m ts n){x y:Nsq}(hx:x∈a1n n)(h:rch ts x y=true):y.length<=x.length:=by
 obtain⟨word,hw,rfl⟩:=rch_iff.mp h;have z:=a3A (l₂:=x.map fun r=>a5x ts r word) (a7n (a2c M hx hw)) fun r hr=>by
  obtain⟨r0,h1,h2⟩:=(a2o M hx hw).mp hr;exact a0R.mpr ⟨r0,h1,h2⟩
 rw[a0C]at z;exact z
theorem d9u{x y:Nsq}(h:a3s gl x y=true):y.length<=x.length:=by
 unfold a3s plt gl at h;split at h
 ·lia
 ·have:=a1V h;lia
theorem d6v{x y:Nsq}(h:a3s gl x y=true)(e:x.length=y.length):ltl y x=false:=by
 cases z:ltl y x with
 |false=>rfl
 | true=>
  have h2:a3s gl y x=true:=by
   unfold a3s plt gl;rw[wB (by rw[e])];exact z
  have h3:=(a2v gl [x,y]).trans _ _ _ h h2;rw[(a2v gl [x,y]).irr]at h3;cases h3
theorem b4a{α:Type}{R:α->α->Prop}{xs:List α}{s d:α}(up:xs.Pairwise R)(h:xs.head? =some s)(hd:d∈xs):d=s∨R s d:=by
 cases xs with
 |nil=>cases h
 |cons x xs=>
  injection h with h
  subst h
  rcases a1L.mp hd with e|e
  ·exact .inl e
  ·exact .inr ((a7T.mp up).1 d e)
structure Due(ts:LN)(rest:L3q)(c:LN):Prop where
 most: ∀d∈rest,(d.headD []).length<=(c.headD []).length
 free: ∀d∈rest,d≠c->rch ts (d.headD []) (c.headD [])=false
 first: ∀d∈rest,(d.headD []).length=(c.headD []).length->(∀e∈rest,e≠d->(e.headD []).length=(d.headD []).length->rch ts (e.headD []) (d.headD [])=false)->ltl (d.headD []) (c.headD [])=false
theorem c9n{ts:LN}{cs:L3q}{s:LN}(un:b3v ts cs)(up:cs.Pairwise fun c d=>a3s gl (c.headD []) (d.headD [])=true)(sh: ∀c∈cs,∀d∈cs,rch ts (c.headD []) (d.headD [])=true->(d.headD []).length<=(c.headD []).length)(h:(cs.filter fun c=> !ledTo ts cs c).head? =some s):Due ts cs s:=by
 obtain⟨hs,fs⟩:=a0S.mp (List.mem_of_head? h);have free: ∀{c:LN},c∈cs->(∀e∈cs,e≠c->rch ts (e.headD []) (c.headD [])=false)->c∈cs.filter fun c=> !ledTo ts cs c:=fun {c} hc f=>by
  refine a0S.mpr ⟨hc,?_⟩;rw[Bool.not_eq_true',ledTo,a8B];intro e he;by_cases z:e=c
  ·rw[a1J (fun k=>k z),a9U];decide
  ·rw[f e he z,Bool.and_false];decide
 have ups:=a3B (a4F (p:=fun c=> !ledTo ts cs c)) up;have most: ∀d∈cs,(d.headD []).length<=(s.headD []).length:=fun d hd=>by
  by_cases lt:(d.headD []).length<=(s.headD []).length
  ·exact lt
  obtain⟨t,ht,ft⟩:=b5o (ts:=ts) (cs:=cs.filter fun e=>decide ((d.headD []).length<=(e.headD []).length)) (fun a ha b hb=>un a (a0S.mp ha).1 b (a0S.mp hb).1) _ d (a0S.mpr ⟨hd,a1A (a0K _)⟩) (a0K _);obtain⟨t1,t2⟩:=a0S.mp ht;have t2:=a1V t2;have ft2:t∈cs.filter fun c=> !ledTo ts cs c:=free t1 fun e he ne=>by
   cases r:rch ts (e.headD []) (t.headD [])with
   |false=>rfl
   |true=>
    have l:=sh e he t t1 r;have m:e∈cs.filter fun e=>decide ((d.headD []).length<=(e.headD []).length):=a0S.mpr ⟨he,a1A (by lia)⟩
    rw[ledTo,a8B]at ft;exact wC (by rw[a1A ne,r];rfl) (ft e m)
  rcases b4a ups h ft2 with z|z
  ·rw[<-z];exact t2
  ·have:=d9u z;lia
 refine⟨most,fun d hd ne=>?_,fun d hd e1 f=>?_⟩
 ·rw[Bool.not_eq_true',ledTo,a8B]at fs;have z:=fs d hd;rw[a1A ne,a9B]at z;exact a5S.mpr z
 ·have fd:d∈cs.filter fun c=> !ledTo ts cs c:=free hd fun e he ne=>by
   cases r:rch ts (e.headD []) (d.headD [])with
   |false=>rfl
   |true=>
    have l:=sh e he d hd r;have l2:=most e he;have z:=f e he ne (by lia);rw[r]at z;cases z
  rcases b4a ups h fd with z|z
  ·rw[z];exact a6c _
  ·exact d6v z e1.symm
theorem d6w{ts:LN}{cs told:L3q}(o:Ord ts cs told)(un:b3v ts cs)(up:cs.Pairwise fun c d=>a3s gl (c.headD []) (d.headD [])=true)(sh: ∀c∈cs,∀d∈cs,rch ts (c.headD []) (d.headD [])=true->(d.headD []).length<=(c.headD []).length): ∀(k:Nat) (c:LN),told[k]? =some c->Due ts (told.drop k) c:=by
 induction o with
 |nil=>exact fun k c e=>by simp at e
 | @cons cs told s h r ih=>
  intro k c e;cases k with
  |zero=>
   injection e with e
   subst e;have d:=c9n un up sh h;have all:=d6u (Ord.cons h r);have mem: ∀d,d∈s::told↔d∈cs:=fun d=>⟨all.1 d,c9m (Ord.cons h r) d⟩
   rw[a7A];exact⟨fun x hx=>d.most x ((mem x).mp hx),fun x hx=>d.free x ((mem x).mp hx),fun x hx e1 f=>d.first x ((mem x).mp hx) e1 fun e he=>f e ((mem e).mpr he)⟩
  |succ k=>
   have e':told[k]? =some c:=by simpa using e
   rw[List.drop_succ_cons];exact ih (fun a ha b hb=>un a (a0S.mp ha).1 b (a0S.mp hb).1) (a3B a4F up) (fun a ha b hb=>sh a (a0S.mp ha).1 b (a0S.mp hb).1) k c e'
section
variable{H:Hp}{m:Ad}{ts:LN}{n:Nat}{fam:LN}
theorem b8g(M:Mach H m ts n)(ff:FamOf ts n fam){c:LN}(hc:c∈classes ts (big fam)){x:Nsq}(hx:x∈c):x.length=(c.headD []).length:=by
 obtain⟨_,_,cx,call⟩:=a0r hc;obtain⟨xb,r1,r2⟩:=call x hx;have l1:=b5t M (ff.inU M (a0S.mp cx).1) (rch_iff.mpr r1);have l2:=b5t M (ff.inU M (a0S.mp xb).1) (rch_iff.mpr r2);lia
theorem d9v{x t:Nsq}(hx:x∈a1n n)(ht:t∈a1n n)(s:sub t x=true)(ne:t≠x):t.length<x.length:=by
 have ex: ∃r∈x,r∉t:=by
  apply a5H;intro no;refine ne (c2k ht hx s (sub_iff.mpr fun r hr=>?_));apply a5H;exact fun z=>no ⟨r,hr,z⟩
 obtain⟨r,hr,nr⟩:=ex;have z:=a3A (l₂:=x.erase r) (a7n ht) fun y hy=>(a6Y fun(e:y=r)=>nr (e▸hy)).mpr (sub_iff.mp s y hy);rw[a7K hr]at z;have:0<x.length:=a6H hr;lia
theorem d2w{x:Nsq}(hx:x∈big fam): ∃c∈classes ts (big fam),x∈c:=by
 have self:=a9f (ts:=ts) hx;cases e:alike ts (big fam) x with
 |nil=>rw[e]at self;cases self
 | cons y rest=>
  have my:y∈alike ts (big fam) x:=by rw[e];exact a0T ..
  obtain⟨yb,yr⟩:=a0S.mp my;rw[a2P]at yr;have r1:=rch_iff.mp yr.1;have r2:=rch_iff.mp yr.2;have same:alike ts (big fam) y=alike ts (big fam) x:=by
   unfold alike;refine a5T fun z _=>?_;rw[a3D,a2P,a2P,rch_iff,rch_iff,rch_iff,rch_iff];exact⟨fun⟨a,b⟩=>⟨r1.trans a,b.trans r2⟩,fun⟨a,b⟩=>⟨r2.trans a,b.trans r1⟩⟩
  refine⟨alike ts (big fam) y,a0R.mpr ⟨y,a0S.mpr ⟨yb,?_⟩,rfl⟩,by rw[same];exact self⟩;rw[same,e];simp
end
theorem d2x{H:Hp}{m:Ad}{ts:LN}{n:Nat}{fam c us wds:LN}(M:Mach H m ts n)(ff:FamOf ts n fam)(lp:LvP ts fam c us wds){k:Nat}{x wd:Nsq}(ex:c[k]? =some x)(ew:wds[k]? =some wd)(y:Nsq):y∈(us.map fun u=>a2l (a0k ts) u wd)↔y∈a2d fam x:=by
 obtain⟨p1,bj⟩:=lp.bij M ff ex ew;obtain⟨_,_,cx,call⟩:=a0r lp.cls;have fU:=ff.inU M (a0S.mp cx).1;have xU:=ff.inU M (a0S.mp (call x (a0E ex)).1).1;constructor
 ·intro hy;obtain⟨u,hu',rfl⟩:=a0R.mp hy;exact a9h M ff fU bj (by rw[<-lp.tl];exact hu')
 ·intro hy;have z:=a9h M ff xU bj.symm hy;rw[<-lp.tl]at z;obtain⟨y1,y2,y3,_⟩:=(a3y M ff).mp hy;exact a0R.mpr ⟨_,z,bj.symm.back M (ff.inU M y1) y3⟩
theorem c0e{H:Hp}{m:Ad}{ts:LN}{n:Nat}{fam c us wds:LN}(M:Mach H m ts n)(ff:FamOf ts n fam)(lp:LvP ts fam c us wds){k k' l:Nat}{x wd wd':Nsq}{js:Nsq}(ex:c[k]? =some x)(ew:wds[k]? =some wd)(ll:l<ts.length)(ey:c[k']? =some (a0k ts x l))(tb:a1u ts us wd wd' l js):js.Perm (List.range us.length):=by
 obtain⟨_,_,cx,call⟩:=a0r lp.cls;obtain⟨p,b1⟩:=lp.bij M ff ex ew;obtain⟨xb,rx1,rx2⟩:=call x (a0E ex);obtain⟨yb,ry1,ry2⟩:=call _ (a0E ey);have xU:=ff.inU M (a0S.mp xb).1;have fU:=ff.inU M (a0S.mp cx).1;obtain⟨p2,b2⟩:=c9h M (w:=[l]) xU (fun z hz=>by rw[a0J.mp hz];exact ll) rfl (ry2.trans rx1);have tf:=a3d M ff (c.headD []);rw[<-lp.tl]at tf;have und:us.Nodup:=tf.up.imp fun {a b} z e=>by
  subst e;rw[b8c]at z;cases z
 obtain⟨lj,tb⟩:=tb;have back: ∀u∈us,a2l (a0k ts) (a2l (a0k ts) (a0k ts (a2l (a0k ts) u wd) l) p2) p=u:=fun u hu=>by
  obtain⟨h1,h2,h3⟩:=tf.mem u hu;have uU:=ff.inU M h1;have s1:sub (a2l (a0k ts) u wd) x=true:=by
   have z:=a8o M uU fU b1.lw h3;rw[b1.to]at z;exact z
  have z:a2l (a0k ts) (a0k ts (a2l (a0k ts) u wd) l) p2=a2l (a0k ts) u wd:=b2.back M (a2c M uU b1.lw) s1;rw[z];exact b1.back M uU h3
 have at1: ∀i:Nat,i<js.length-> ∃u j',us[i]? =some u/\js[i]? =some j'/\j'<us.length/\ ∃u',us[j']? =some u'/\a2l (a0k ts) u' wd'=a0k ts (a2l (a0k ts) u wd) l:=fun i hi=>by
  obtain⟨u,eu⟩: ∃u,us[i]? =some u:=⟨_,a0A (by lia)⟩;obtain⟨j',ej⟩: ∃j',js[i]? =some j':=⟨_,a0A hi⟩;obtain⟨u',f1,f2⟩:=tb i u j' eu ej;exact⟨u,j',eu,ej,(a0B.mp f1).1,u',f1,f2⟩
 have nd:js.Nodup:=by
  rw[a9O,a2O];intro i j hi hj ij e;obtain⟨u,a,eu,ea,_,u',f1,f2⟩:=at1 i hi;obtain⟨v,b,ev,eb,_,v',g1,g2⟩:=at1 j hj;rw[a0A hi]at ea;rw[a0A hj]at eb;have ab:a=b:=by
   have z1:=a1X ea;have z2:=a1X eb;rw[<-z1,<-z2];exact e
  subst ab;rw[f1]at g1;cases g1;have uv:u=v:=by rw[<-back u (a0E eu),<-back v (a0E ev),<-f2,<-g2]
  subst uv;have:=(a2M (by lia) und).mp (eu.trans ev.symm);lia
 have sb: ∀a∈js,a<us.length:=fun a ha=>by
  obtain⟨i,ei⟩:=a1F.mp ha;obtain⟨_,j',_,ej,lt,_⟩:=at1 i (a0B.mp ei).1;rw[ei]at ej;cases ej;exact lt
 refine(List.perm_ext_iff_of_nodup nd List.nodup_range).mpr fun a=>⟨fun h=>a1Q.mpr (sb a h),fun h=>?_⟩;by_cases z:a∈js
 ·exact z
 ·have le:=a3A (l₂:=(List.range us.length).erase a) nd fun b hb=>(a6Y fun(e:b=a)=>z (by rw[<-e];exact hb)).mpr (a1Q.mpr (sb b hb));rw[a7K h,a2A]at le;have:=a1Q.mp h;lia
theorem LvH.keeps{H H':Hp}{a:Ad}{c us wds:LN}(h:LvH H a c us wds)(g:Keeps H H'):LvH H' a c us wds:=by
 obtain⟨s,t,v,bs,ds,cs,h1,h2,h3,h4,h5,h6,h7,h8⟩:=h;exact⟨s,t,v,bs,ds,cs,g _ _ (nU h1),g _ _ (nU h2),a3c h3 g,g _ _ (nU h4),a3c h5 g,g _ _ (nU h6),h7,fun k b wd e1 e2=>g _ _ (nU (h8 k b wd e1 e2))⟩
theorem b2n{H H':Hp}{l:Ad}{o:HO}(g:Keeps H H')(n:L2.noT H l=none):Keeps H (upd H' l o):=fun b u hb=>by
 rw[a0f (fun z=>by rw[z,n]at hb;cases hb)];exact g b u hb
inductive Gen (S:Nsq->Prop) (N:Nat):Nsq->Prop
 |base:Gen S N (List.range N)
 |step {x m:Nsq}:Gen S N x->S m->Gen S N (beh x m)
theorem d2y{mk:LN}{N:Nat}: ∀(v x:Nsq),(∀i∈v,i<mk.length)->Gen (· ∈mk) N x->Gen (· ∈mk) N (a2l (b2l mk) x v):=by
 intro v
 induction v with
 |nil=>exact fun x _ h=>h
 |cons i v ih=>
  intro x hv h;have li:=hv i (a0T ..);refine ih (b2l mk x i) (fun l hl=>hv l (a1D _ hl)) ?_;show Gen _ _ (beh x (mk.getD i []));rw[a0I,a0A li];exact .step h (a2Y li)
theorem d2z{mk:LN}{N:Nat}{ws:TW}(T:Told (b2l mk) mk.length (List.range N) ws)(t:Nsq):t∈ws.map (·.1)↔Gen (· ∈mk) N t:=by
 constructor
 ·intro h;obtain⟨p,hp,rfl⟩:=a0R.mp h;obtain⟨r1,r2⟩:=T.run p hp;rw[<-r2];exact d2y p.2 _ r1 .base
 ·intro h
  induction h with
  |base=>exact a0R.mpr ⟨_,a0E T.head,rfl⟩
  | @step x m _ hm ih=>
   obtain⟨i,hi⟩:=a4S hm;have li:=(a0B.mp hi).1;obtain⟨p,hp,rfl⟩:=a0R.mp ih;obtain⟨r1,r2⟩:=T.run p hp;obtain⟨u,h2,_⟩:=T.least _ (p.2++[i]) rfl fun x hx=>(a0Q.mp hx).elim (r1 x) fun z=>by rw[a0J.mp z];exact li
   have e3:a2l (b2l mk) (List.range N) (p.2++[i])=beh p.1 m:=by
    have eb:b2l mk p.1 i=beh p.1 m:=by
     show beh _ (mk.getD i [])=_;rw[a0I,hi];rfl
    rw[<-eb,<-r2];unfold a2l;rw[a4D];rfl
   rw[e3]at h2;exact a0R.mpr ⟨_,h2,rfl⟩
theorem d6x{S S':Nsq->Prop}{N:Nat}(h: ∀t,S t↔S' t)(t:Nsq):Gen S N t↔Gen S' N t:=by
 have e:S=S':=funext fun t=>propext (h t);rw[e]
def IsMk(ts c us wds:LN)(t:Nsq):Prop:= ∃(k l k':Nat) (x wd wd':Nsq),c[k]? =some x/\wds[k]? =some wd/\l<ts.length/\c[k']? =some (a0k ts x l)/\wds[k']? =some wd'/\a1u ts us wd wd' l t
theorem c4n{H:Hp}{m:Ad}{ts:LN}{n:Nat}{fam c us wds mk:LN}(M:Mach H m ts n)(ff:FamOf ts n fam)(lp:LvP ts fam c us wds)(Mk:Makers ts c us wds mk)(t:Nsq):t∈mk↔IsMk ts c us wds t:=by
 refine⟨Mk.mem t,?_⟩;rintro⟨k,l,k',x,wd,wd',e1,e2,e3,e4,e5,e6⟩;obtain⟨k2,wd2,t2,m2,f4,f5,f6⟩:=Mk.all k l x wd e1 e2 e3 (a0E e4);have ek:=(a2M (a0B.mp e4).1 (lp.nd ff)).mp (e4.trans f4.symm);subst ek;rw[e5]at f5;cases f5;rw[c0d M ff lp e4 e5 e6 f6];exact m2
theorem d6y{N:Nat}{x:Nsq}(h: ∀r∈x,r<N):beh x (List.range N)=x:=by
 unfold beh;have:x.map (fun r=>(List.range N).getD r 0)=x.map id:=a4E fun r hr=>by
  rw[a0I,a3C (h r hr)];rfl
 rw[this,List.map_id]
theorem d6z{N:Nat}{t:Nsq}(h:t.length=N):beh (List.range N) t=t:=by
 subst h;refine a3S fun j=>?_;unfold beh;rw[a0F];by_cases z:j<t.length
 ·rw[a3C z,a0A z];show some (t.getD j 0)=_;rw[a0I,a0A z];rfl
 ·rw[a1O (by simp;lia),List.getElem?_eq_none (by lia)];rfl
section
variable{S:Nsq->Prop}{N:Nat}
theorem pm_lt{t:Nsq}(h:t.Perm (List.range N)):t.length=N/\ ∀r∈t,r<N:=⟨by rw[h.length_eq,a2A],fun r hr=>a1Q.mp (h.mem_iff.mp hr)⟩
theorem d3a(hS: ∀m,S m->m.Perm (List.range N)){t:Nsq}(h:Gen S N t):t.Perm (List.range N):=by
 induction h with
 |base=>exact List.Perm.refl _
 | @step x m _ hm ih=>
  have z:=ih.map fun r=>m.getD r 0;exact z.trans ((List.Perm.of_eq (d6z (pm_lt (hS m hm)).1)).trans (hS m hm))
end
theorem c2m: ∀(n k:Nat) (g:Nsq),g.Perm (List.range' k n)->a9t g (List.range' k n)=none∨a9t g (List.range' k n)=some false
 |0,k,g,h=>by
  rw[h.eq_nil];exact .inl rfl
 |n+1,k,[],h=>wC h.length_eq (by simp)
 | n+1,k,a::g,h=>by
  rw[List.range'_succ]at h⊢;have ha:=h.mem_iff.mp (a0T ..);show(if a=k then a9t g (List.range' (k+1) n)else some (decide (a<k)))=none∨(if a=k then a9t g (List.range' (k+1) n)else some (decide (a<k)))=some false;by_cases e:a=k
  ·subst e;rw[wB rfl];exact c2m n (a+1) g (List.perm_cons a |>.mp h)
  ·rw[wA e];refine .inr (a1W some (a1J ?_))
   rcases a1L.mp ha with z|z
   ·exact wC z e
   ·have:=(List.mem_range'_1.mp z).1;lia
theorem c0f{N:Nat}{gs:LN}(pm: ∀t∈gs,t.Perm (List.range N))(up:gs.Pairwise fun x y=>ltl x y=true)(h:List.range N∈gs):gs[0]? =some (List.range N):=by
 cases gs with
 |nil=>cases h
 | cons g gs=>
  rcases a1L.mp h with e|e
  ·rw[e];rfl
  ·have z:=(a7T.mp up).1 _ e;have p:=pm g (a0T ..);rw[List.range_eq_range']at p z;have le:=p.length_eq;unfold ltl at z
   rcases c2m N 0 g p with y|y
   ·rw[y]at z;have:=a1V z;lia
   ·rw[y]at z;cases z
def Wds(ts c wds:LN):Prop:=wds.length=c.length/\ ∃ws,Told (a0k ts) ts.length (c.headD []) ws/\ ∀(k:Nat) (x wd:Nsq),c[k]? =some x->wds[k]? =some wd->(x,wd)∈ws
theorem LevAt.lvw{H:Hp}{l:Ad}{ts fam:LN}{ys:List WE}{a:Ad}{c:LN}(h:LevAt H l ts fam (big fam) ys a c)(hc:c∈classes ts (big fam)): ∃wds,LvH H a c (a2d fam (c.headD [])) wds/\LvP ts fam c (a2d fam (c.headD [])) wds/\Wds ts c wds:=by
 obtain⟨s,t,v,bs,ds,cs,i,y,h1,h2,h3,h4,h5,h6,h7,h8,h9,h10,h11,h12,h13,h14,h15,h16⟩:=h;obtain⟨wds,l1,l2⟩:=a7m (n:=c.length) (P:=fun k wd=> ∃x b,c[k]? =some x/\cs[k]? =some b/\(x,wd)∈y.2.1/\H b=some (.lst (wd.map nv))) fun k hk=>by
  obtain⟨x,ex⟩: ∃x,c[k]? =some x:=⟨_,a0A hk⟩;obtain⟨b,eb⟩: ∃b,cs[k]? =some b:=⟨_,a0A (by lia)⟩;obtain⟨wd,z1,z2⟩:=h16 k x b ex eb;exact⟨wd,x,b,ex,eb,z1,z2⟩
 have inw: ∀(k:Nat) (x wd:Nsq),c[k]? =some x->wds[k]? =some wd->(x,wd)∈y.2.1:=fun k x wd e1 e2=>by
  obtain⟨x',b',z1,_,z3,_⟩:=l2 k wd e2;rw[e1]at z1;cases z1;exact z3
 refine⟨wds,⟨s,t,v,bs,ds,cs,h1,h6,h7,h8,h9,h10,by lia,fun k b wd e1 e2=>?_⟩,⟨hc,rfl,l1,fun k x wd e1 e2=>h14.run _ (inw k x wd e1 e2)⟩,l1,y.2.1,h14,inw⟩;obtain⟨x',b',_,z2,_,z4⟩:=l2 k wd e2;rw[e1]at z2;cases z2;exact z4
structure Lv where
 c:LN
 us:LN
 wds:LN
 gs:LN
structure GrpOf(ts c us wds gs:LN):Prop where
 up:gs.Pairwise fun x y=>ltl x y=true
 mem: ∀t,t∈gs↔Gen (IsMk ts c us wds) us.length t
theorem d9w{H:Hp}{m:Ad}{ts:LN}{n:Nat}{fam c us wds mk gs:LN}{ws:TW}(M:Mach H m ts n)(ff:FamOf ts n fam)(lp:LvP ts fam c us wds)(pm:gs.Perm (ws.map (·.1)))(up:gs.Pairwise (fun x y=>ltl x y=true))(Mk:Makers ts c us wds mk)(TT:Told (b2l mk) mk.length (List.range us.length) ws):GrpOf ts c us wds gs:=
 ⟨up,fun t=>by rw[pm.mem_iff,d2z TT,d6x (c4n M ff lp Mk)]⟩
structure LvOk(ts fam:LN)(L:Lv):Prop where
 p:LvP ts fam L.c L.us L.wds
 w:Wds ts L.c L.wds
 g:GrpOf ts L.c L.us L.wds L.gs
structure RowOf(ts:LN)(n:Nat)(fam:LN)(Ls:List Lv):Prop where
 ff:FamOf ts n fam
 od:Ord ts (classes ts (big fam)) (Ls.map (·.c))
 few:Ls.length<=32
 ok: ∀L∈Ls,LvOk ts fam L
section
variable{H:Hp}{m:Ad}{ts:LN}{n:Nat}{fam:LN}{L:Lv}
theorem LvOk.isPm(M:Mach H m ts n)(ff:FamOf ts n fam)(ok:LvOk ts fam L): ∀t,IsMk ts L.c L.us L.wds t->t.Perm (List.range L.us.length):=fun _ ⟨_,_,_,_,_,_,f1,f2,f3,f4,_,f6⟩=>c0e M ff ok.p f1 f2 f3 f4 f6
theorem LvOk.pm(M:Mach H m ts n)(ff:FamOf ts n fam)(ok:LvOk ts fam L){t:Nsq}(h:t∈L.gs):t.Perm (List.range L.us.length):=d3a (ok.isPm M ff) ((ok.g.mem t).mp h)
theorem LvOk.inG(M:Mach H m ts n)(ff:FamOf ts n fam)(ok:LvOk ts fam L){t:Nsq}(h:t∈L.gs):t∈gU L.us n:=by
 have z:=(ok.g.mem t).mp h;have uU:=(ok.p.inU M ff).1
 induction z with
 |base=>exact b5r (a8p M ff ok.p) uU
 |step hx hm ih=>
  obtain⟨k,l,k',x,wd,wd',f1,f2,f3,f4,f5,f6⟩:=hm;exact c0c M.n5 uU (ih ((ok.g.mem _).mpr hx)) (b8e M ff ok.p f1 f2 f3 f4 f5 f6)
theorem LvOk.nd(ok:LvOk ts fam L):L.gs.Nodup:=ok.g.up.imp fun {a b} z e=>by
 subst e;rw[a6c]at z;cases z
theorem LvOk.few(M:Mach H m ts n)(ff:FamOf ts n fam)(ok:LvOk ts fam L):L.gs.length<=4000:=a1C (a7w (U:=gU L.us n) ok.nd fun _ ht=>ok.inG M ff ht) (c9j M.n5)
theorem LvOk.first(M:Mach H m ts n)(ff:FamOf ts n fam)(ok:LvOk ts fam L):L.gs[0]? =some (List.range L.us.length):=c0f (fun _ ht=>ok.pm M ff ht) ok.g.up ((ok.g.mem _).mpr .base)
end
def kvA(xs:LN)(as:As):List (List Key×V):=a3r (xs.map fun x=>(x,[])) as
theorem c9o{xs:LN}{as:As}(h:as.length=xs.length):(kvA xs as).length=xs.length:=by
 unfold kvA L2.a3r;rw[List.length_zipWith,a0C,h,a9T]
theorem c9p{xs:LN}{as:As}{x:Nsq}{a:Ad}(h:as.length=xs.length)(hx:x∉xs):b6t (kvA xs as) (nk x) (.ref a)=kvA (xs++[x]) (as++[a]):=by
 unfold kvA;rw[b4j _ (b1s (by rw[b2f];exact hx)),a1B];exact(b4p (ws:=xs.map fun x=>(x,[])) (p:=(x,[])) (a:=a) (by rw[a0C,h])).symm
theorem d9x{xs:LN}{as:As}{x:Nsq}{a:Ad}{k:Nat}(nd:xs.Nodup)(e1:xs[k]? =some x)(e2:as[k]? =some a):b2w (kvA xs as) (nk x)=some (.ref a):=c1f (p:=(x,[])) (by rw[b2f];exact nd) (by rw[a0F,e1];rfl) e2
theorem d9y{xs:LN}{as:As}{x:Nsq}(h:x∉xs):b2w (kvA xs as) (nk x)=none:=b1s (by rw[b2f];exact h)
theorem b2o{H:Hp}{D b a:Ad}{xs:LN}{as:As}{x:Nsq}{k:Nat}(nd:xs.Nodup)(hD:H D=some (.dT (kvA xs as)))(hb:H b=some (.tup (x.map nv)))(e1:xs[k]? =some x)(e2:as[k]? =some a):DGet H D (.ref b) (some (.ref a)):=
 .inr ⟨_,nk x,b,.inl hD,rfl,by rw[a7a];exact hb,(d9x nd e1 e2).symm⟩
theorem b5u{H:Hp}{D b:Ad}{xs:LN}{as:As}{x:Nsq}(hD:H D=some (.dT (kvA xs as)))(hb:H b=some (.tup (x.map nv)))(h:x∉xs):DGet H D (.ref b) none:=
 .inr ⟨_,nk x,b,.inl hD,rfl,by rw[a7a];exact hb,(d9y h).symm⟩
def tl(ts us:LN)(wd:Nsq):LN:=us.map fun u=>a2l (a0k ts) u wd
def TiledAs(H:Hp)(ts us wds:LN)(as:As):Prop:= ∀(k:Nat) (wd:Nsq) (a:Ad),wds[k]? =some wd->as[k]? =some a-> ∃es,H a=some (.lst (es.map .ref))/\TupsAt H es (tl ts us wd)
def TiledAt(H:Hp)(t:Ad)(ts c us wds:LN):Prop:= ∃as,H t=some (.dT (kvA c as))/\as.length=c.length/\TiledAs H ts us wds as
def TurnL(H:Hp)(ts c us wds:LN)(x wd:Nsq)(vs:List V):Prop:=vs.length=ts.length/\ ∀(l:Nat) (v:V),vs[l]? =some v->(a0k ts x l∉c/\v= .non)∨ ∃(p:Ad) (js:Nsq) (k':Nat) (wd':Nsq),v= .ref p/\H p=some (.tup (js.map nv))/\c[k']? =some (a0k ts x l)/\wds[k']? =some wd'/\a1u ts us wd wd' l js
def TurnsAs(H:Hp)(ts c us wds:LN)(as:As):Prop:= ∀(k:Nat) (x wd:Nsq) (a:Ad),c[k]? =some x->wds[k]? =some wd->as[k]? =some a-> ∃vs,H a=some (.lst vs)/\TurnL H ts c us wds x wd vs
def TurnsAt(H:Hp)(t:Ad)(ts c us wds:LN):Prop:= ∃as,H t=some (.dT (kvA c as))/\as.length=c.length/\TurnsAs H ts c us wds as
def Stays(f:HO->Bool)(H H':Hp):Prop:= ∀b o,f o=false->H b=some o->H' b=some o
def isTb:HO->Bool
 | .tbl _=>true
 |_=>false
def isTD:HO->Bool
 | .tbl _=>true
 | .dT _=>true
 |_=>false
def isIn:HO->Bool
 | .ins _ _ _=>true
 |_=>false
def isLs:HO->Bool
 | .lst _=>true
 |_=>false
abbrev Lts:=Stays isTD
abbrev d9z:=Stays isLs
theorem Stays.a{f:HO->Bool}{H H':Hp}{b:Ad}{o:HO}(g:Stays f H H')(h:H b=some o)(d:f o=false:=by rfl):H' b=some o:=g b o d h
theorem nz{H:Hp}{a:Ad}{o:HO}(h:H a=some o)(d:isTb o=false:=by rfl):L2.noT H a=some o:=b1t h fun φ e=>by subst e;cases d
theorem b5v{H H':Hp}(g:Keeps H H'):Stays isTb H H':=fun b o d h=>g b o (nz h d)
theorem a2g{H H':Hp}(g:Same H H'):Lts H H':=fun b o _ h=>g b o h
theorem Stays.off{H:Hp}{D:Ad}{kvs:List (List Key×V)}{o:HO}(h:H D=some (.dT kvs)):Lts H (upd H D o):=fun b u n hb=>by
 rw[a0f (a8s hb h fun e=>by rw[e]at n;cases n)];exact hb
theorem Stays.offL{H:Hp}{D:Ad}{xs:List V}{o:HO}(h:H D=some (.lst xs)):d9z H (upd H D o):=fun b u n hb=>by
 rw[a0f (a8s hb h fun e=>by rw[e]at n;cases n)];exact hb
theorem Stays.offI{H:Hp}{D C d:Ad}{fs:List (Str×V)}{o:HO}(h:H D=some (.ins C d fs)):Stays isIn H (upd H D o):=fun b u n hb=>by
 rw[a0f (a8s hb h fun e=>by rw[e]at n;cases n)];exact hb
section
variable{f:HO->Bool}{H H':Hp}{ts c us wds:LN}
theorem Stays.tups{bs:As}{us:LN}(g:Stays f H H')(T:TupsAt H bs us)(f2: ∀xs,f (.tup xs)=false:=by intro;rfl):TupsAt H' bs us:=⟨T.len,fun i b u e1 e2=>g _ _ (f2 _) (T.is i b u e1 e2)⟩
theorem TiledAs.lts{as:As}(h:TiledAs H ts us wds as)(g:Stays f H H')(f1: ∀xs,f (.lst xs)=false:=by intro;rfl)(f2: ∀xs,f (.tup xs)=false:=by intro;rfl):TiledAs H' ts us wds as:=fun k wd a e1 e2=>let⟨es,z1,z2⟩:=h k wd a e1 e2;⟨es,g _ _ (f1 _) z1,g.tups z2 f2⟩
theorem TurnL.lts{x wd:Nsq}{vs:List V}(h:TurnL H ts c us wds x wd vs)(g:Stays f H H')(f2: ∀xs,f (.tup xs)=false:=by intro;rfl):TurnL H' ts c us wds x wd vs:=⟨h.1,fun l v e=>(h.2 l v e).imp id fun⟨p,js,k',wd',z1,z2,z3⟩=>⟨p,js,k',wd',z1,g _ _ (f2 _) z2,z3⟩⟩
theorem TurnsAs.lts{as:As}(h:TurnsAs H ts c us wds as)(g:Stays f H H')(f1: ∀xs,f (.lst xs)=false:=by intro;rfl)(f2: ∀xs,f (.tup xs)=false:=by intro;rfl):TurnsAs H' ts c us wds as:=fun k x wd a e1 e2 e3=>let⟨vs,z1,z2⟩:=h k x wd a e1 e2 e3;⟨vs,g _ _ (f1 _) z1,z2.lts g f2⟩
theorem TiledAt.keeps{t:Ad}(h:TiledAt H t ts c us wds)(g:Keeps H H'):TiledAt H' t ts c us wds:=let⟨as,z1,z2,z3⟩:=h;⟨as,g _ _ (nz z1),z2,z3.lts (b5v g)⟩
theorem TurnsAt.keeps{t:Ad}(h:TurnsAt H t ts c us wds)(g:Keeps H H'):TurnsAt H' t ts c us wds:=let⟨as,z1,z2,z3⟩:=h;⟨as,g _ _ (nz z1),z2,z3.lts (b5v g)⟩
end
def lpF(m g t u:Ad)(k:Nat):List (Str×V):=[("machine",.ref m),("group",.ref g),("tiles",.ref t),("turns",.ref u),("tile_count",nv k)]
section
variable{m g t u:Ad}{k:Nat}
theorem lpF_m:(lpF m g t u k).lookup ("machine":Str)=some (.ref m):=by kernel_rfl
theorem c0g:(lpF m g t u k).lookup ("group":Str)=some (.ref g):=by kernel_rfl
theorem b8h:(lpF m g t u k).lookup ("tiles":Str)=some (.ref t):=by kernel_rfl
theorem lpF_u:(lpF m g t u k).lookup ("turns":Str)=some (.ref u):=by kernel_rfl
theorem lpF_k:(lpF m g t u k).lookup ("tile_count":Str)=some (nv k):=by kernel_rfl
end
def StepAt(C:Ad)(H:Hp)(q m:Ad)(ts:LN)(L:Lv):Prop:= ∃(dx g t u:Ad) (gr:As),H q=some (.ins C dx (lpF m g t u L.us.length))/\H g=some (.lst (gr.map .ref))/\TupsAt H gr L.gs/\TiledAt H t ts L.c L.us L.wds/\TurnsAt H u ts L.c L.us L.wds
theorem StepAt.keeps{C:Ad}{H H':Hp}{q m:Ad}{ts:LN}{L:Lv}(h:StepAt C H q m ts L)(k:Keeps H H'):StepAt C H' q m ts L:=
 let⟨dx,g,t,u,gr,h1,h2,h3,h4,h5⟩:=h;⟨dx,g,t,u,gr,k _ _ (nz h1),k _ _ (nz h2),a3c h3 k,h4.keeps k,h5.keeps k⟩
structure StepsAt(C:Ad)(H:Hp)(qs:As)(m:Ad)(ts:LN)(Ls:List Lv):Prop where
 len:qs.length=Ls.length
 is: ∀(i:Nat) (q:Ad) (L:Lv),qs[i]? =some q->Ls[i]? =some L->StepAt C H q m ts L
theorem StepsAt.keeps{C:Ad}{H H':Hp}{qs:As}{m:Ad}{ts:LN}{Ls:List Lv}(h:StepsAt C H qs m ts Ls)(k:Keeps H H'):StepsAt C H' qs m ts Ls:=⟨h.len,fun i q L e1 e2=>(h.is i q L e1 e2).keeps k⟩
def rowF(r s:Ad):List (Str×V):=[("rooms",.ref r),("steps",.ref s)]
theorem d4l{r s:Ad}:(rowF r s).lookup ("rooms":Str)=some (.ref r):=by kernel_rfl
theorem b8i{r s:Ad}:(rowF r s).lookup ("steps":Str)=some (.ref s):=by kernel_rfl
def RowAt(CL CR:Ad)(H:Hp)(p m:Ad)(ts:LN)(n:Nat)(Ls:List Lv):Prop:= ∃(dx r s:Ad) (qs:As),H p=some (.ins CR dx (rowF r s))/\H r=some (.tup ((List.range n).map nv))/\H s=some (.lst (qs.map .ref))/\StepsAt CL H qs m ts Ls
theorem RowAt.keeps{CL CR:Ad}{H H':Hp}{p m:Ad}{ts:LN}{n:Nat}{Ls:List Lv}(h:RowAt CL CR H p m ts n Ls)(k:Keeps H H'):RowAt CL CR H' p m ts n Ls:=
 let⟨dx,r,s,qs,h1,h2,h3,h4⟩:=h;⟨dx,r,s,qs,k _ _ (nz h1),k _ _ (nz h2),k _ _ (nz h3),h4.keeps k⟩
def c2n(C:Ad):Sp:=fun vs H Q _=> ∃(H0:Hp) (p dx m a:Ad) (ts:LN) (n:Nat) (fam c us wds:LN),vs=[.ref p,.ref m,.ref a]/\Same H0 H/\H0 p=none/\H p=some (.ins C dx [])/\Mach H0 m ts n/\FamOf ts n fam/\LvH H0 a c us wds/\LvP ts fam c us wds/\Tabs H0/\
 ∀gs H',Keeps H0 H'->Tabs H'->GrpOf ts c us wds gs->StepAt C H' p m ts ⟨c,us,wds,gs⟩->Q .non H'
def b8j(CL CR:Ad):Sp:=fun vs H Q _=> ∃(H0:Hp) (p dx m:Ad) (ts:LN) (n:Nat),vs=[.ref p,.ref m]/\Same H0 H/\H0 p=none/\H p=some (.ins CR dx [])/\Mach H0 m ts n/\Tabs H0/\
 ∀fam Ls H',Keeps H0 H'->Tabs H'->RowOf ts n fam Ls->RowAt CL CR H' p m ts n Ls->Q .non H'
theorem Tabs.offI{H:Hp}{p C dx:Ad}{fs:List (Str×V)}{o:HO}(t:Tabs H)(h:H p=some (.ins C dx fs)):Tabs (upd H p o):=fun q hq=>by
 have k: ∀{b:Ad} {u:HO},u≠ .ins C dx fs->H b=some u->upd H p o b=some u:=fun n hb=>by
  rw[a0f (a8s hb h n)];exact hb
 rcases t q hq with t|⟨cc,t1,t2⟩
 ·exact .inl (k (fun e=>nomatch e) t)
 ·exact .inr ⟨cc,k (fun e=>nomatch e) t1,k (fun e=>nomatch e) t2⟩
theorem Tabs.offD{H:Hp}{D:Ad}{kvs:List (List Key×V)}{o:HO}(t:Tabs H)(h:H D=some (.dT kvs)):Tabs (upd H D o):=t.most fun b u n _ hb=>by
 rw[a0f (a8s hb h fun e=>n _ e)];exact hb
theorem a5h{H H':Hp}{l:Ad}{o:HO}(g:Keeps H H')(n:H l=none):Keeps H (upd H' l o):=b2n g (c1g n)
theorem b4b{H H':Hp}{l:Ad}(g:Keeps H H')(n:H' l=none):L2.noT H l=none:=by
 cases y:L2.noT H l with
 |none=>rfl
 |some o=>
  rw[g _ _ y]at n;cases n
theorem StepAt.off{C C':Ad}{H:Hp}{q m p d:Ad}{ts:LN}{L:Lv}{fs:List (Str×V)}{o:HO}(h:StepAt C H q m ts L)(hp:H p=some (.ins C' d fs))(n:fs.length≠5):StepAt C (upd H p o) q m ts L:=by
 obtain⟨dx,g,t,u,gr,h1,h2,h3,⟨as,t1,t2,t3⟩,as2,u1,u2,u3⟩:=h;have lo:Stays isIn H (upd H p o):=Stays.offI hp;refine⟨dx,g,t,u,gr,?_,lo.a h2,lo.tups h3,⟨as,lo.a t1,t2,t3.lts lo⟩,as2,lo.a u1,u2,u3.lts lo⟩;rw[a0f (a8s h1 hp fun e=>by injection e with _ _ e;exact n (by rw[<-e];rfl))];exact h1
theorem a6r{α:Type}{P:Nat->α->Prop}{xs:List α}{x:α}(h: ∀k y,xs[k]? =some y->P k y)(hx:P xs.length x)(k:Nat)(y:α)(e:(xs++[x])[k]? =some y):P k y:=by
 by_cases hk:k<xs.length
 ·rw[a0N hk]at e;exact h k y e
 ·have lk:=(a0B.mp e).1;rw[a0L,a5B]at lk;have ek:k=xs.length:=by lia
  subst ek;rw[a0M (a0K _),a5D]at e;cases e;exact hx
theorem c4o{C:Ad}(F:Fun K "__init__" "LevelParts.__init__" a3h f fd)(u_LevelParts:OwnC K C ["machine","group","tiles","turns","tile_count"])(qA:a0u P w K mg base "level_group" 13 ["machine","level"] c9l)(jJ:a0u P w K mg base "tiles_of_set" 7 ["machine","level","k"] b2h)(jP:a0u P w K mg base "tiles_turned" 9 ["machine","level","k","letter"] b5q)(kC:mg "enumerate"=none)(jD:mg "range"=none)(jC:mg "len"=none):FnOk P w K mg base CX0 15 f fd ["self","machine","level"] (c2n C):=by
 refine F.ok kJ (fun vs H Q E h=>?_) (fun cdv A outer s H vs Q E hr h=>?_)
 ·obtain⟨H0,p,dx,m,a,ts,n,fam,c,us,wds,rfl,_⟩:=h;rfl
 obtain⟨H0,p,dx,m,a,ts,n,fam,c,us,wds,rfl,g0,np,hp,M,ff,lv,lp,hT,q⟩:=h;have hu:=hr.units;have hu1:=a7s hr;obtain⟨s',t',v',bs,ds,cs,h1,h2,h3,h4,h5,h6,h7,h8⟩:=id lv;have lb:=h3.len;have l5:=h5.len;obtain⟨uU,few⟩:=lp.inU M ff;obtain⟨rs,hm,hrl,_⟩:=M.refs;have t4:=M.few;have nd:=lp.nd ff;have c32:c.length<=32:=by
  rw[(a0r lp.cls).2.1];exact a1C (a1Y _ _) (a1C (a1Y _ _) (ff.few M))
 refine⟨_,(a0d (b0x (pv 0) (pv 1) rfl) (a0d (b0x (pv 0) (a0m qA hr.m rfl (a0v (a0b (pv 1) (a0b (pv 2) a0o rfl) rfl))) rfl) (a0d (b0x (pv 0) b0c rfl) (a0d (b0x (pv 0) b0c rfl) (a0d (a3o a2J rfl (c8g rfl kC (a0g (a0w a0x (pv 2) a0l (fun _ _=>rfl)) a0i)) (b3h rfl (a2m (a1c (i:=3) kJ.nd rfl (Or.inr rfl)) (a2m (a1c (i:=4) kJ.nd rfl (Or.inl rfl)) a8u))) (a0d (b1f hu1 (a2f (pv 0) rfl) (pv 4) (a0m jJ hr.m rfl (a0v (a0b (pv 1) (a0b (pv 2) (a0b (pv 3) a0o rfl) rfl) rfl))) rfl) (a0h (b1f hu1 (a2f (pv 0) rfl) (pv 4) (a1m (CompSc.to (N:=["self","machine","level","k","rooms"]) (osc:=a0e a3h) (vs:=["letter"]) {}) rfl rfl (a2s rfl jD (a0g (a0t a0n rfl jC a4C (a0g (pv 1) a0i)) a0i)) (fun _ _ _ _=>a2q) (fun _ _ _ _=>(a0m jP hr.m rfl (a0v (a0b (pv 2) (a0b (pv 3) (a0b (pv 4) (a0b (pv 0) a0o rfl) rfl) rfl) rfl))))) rfl)))) (a0h (b0x (pv 0) (a0t a0n rfl jC a4C (a0g (a0w a0x (pv 2) a0l (fun _ _=>rfl)) a0i)) rfl))))))),?_⟩;refine⟨_,rfl,_,rfl,p,C,dx,_,rfl,hp,u_LevelParts.cl,u_LevelParts.no,by show 0<1000;decide,?_⟩;have g1:Same H0 (upd H p (.ins C dx (a3p "machine" (.ref m) []))):=a1e g0 np;have p1:upd H p (.ins C dx (a3p "machine" (.ref m) [])) p=some (.ins C dx (a3p "machine" (.ref m) [])):=a0a;generalize upd H p (.ins C dx (a3p "machine" (.ref m) []))=H1 at g1 p1⊢;refine⟨_,rfl,_,rfl,m,a,ts,n,fam,c,us,wds,rfl,M.same g1,ff,lv.same g1,lp,hT.same g1,fun g gr gs mk ws H2 k2 T2 ng eg Tg pm up Mk TT=>?_⟩;have G:=d9w M ff lp pm up Mk TT;have p2:=k2 _ _ (nz p1);refine⟨_,rfl,p,C,dx,_,rfl,p2,u_LevelParts.cl,u_LevelParts.no,by show 1<1000;decide,?_⟩;have gp:g≠p:=nE eg p2;have k3:Keeps H0 (upd H2 p (.ins C dx (a3p "group" (.ref g) (a3p "machine" (.ref m) [])))):=a5h (g1.keeps.trans k2) np;have T3:Tabs (upd H2 p (.ins C dx (a3p "group" (.ref g) (a3p "machine" (.ref m) [])))):=T2.offI p2;have p3:upd H2 p (.ins C dx (a3p "group" (.ref g) (a3p "machine" (.ref m) []))) p=some (.ins C dx [("machine",.ref m),("group",.ref g)]):=by rw[a0a];exact a1W (fun l=>some (HO.ins C dx l)) (by kernel_rfl)
 have eg3:upd H2 p (.ins C dx (a3p "group" (.ref g) (a3p "machine" (.ref m) []))) g=some (.lst (gr.map .ref)):=by rw[a0f gp];exact eg
 have Tg3:TupsAt (upd H2 p (.ins C dx (a3p "group" (.ref g) (a3p "machine" (.ref m) [])))) gr gs:=a4x Tg p2 fun _ e=>nomatch e;generalize upd H2 p (.ins C dx (a3p "group" (.ref g) (a3p "machine" (.ref m) [])))=H3 at k3 T3 p3 eg3 Tg3⊢;intro t ht;have kt:=a0c ht (.dT []);have npt:p≠t:=a0j p3 ht;have ntT:=b4b k3 ht;refine⟨_,rfl,p,C,dx,_,rfl,kt _ _ p3,u_LevelParts.cl,u_LevelParts.no,by show 2<1000;decide,?_⟩;have k4:Keeps H0 (upd (upd H3 t (.dT [])) p (.ins C dx (a3p "tiles" (.ref t) [("machine",.ref m),("group",.ref g)]))):=a5h (k3.trans kt.keeps) np;have T4:Tabs (upd (upd H3 t (.dT [])) p (.ins C dx (a3p "tiles" (.ref t) [("machine",.ref m),("group",.ref g)]))):=(T3.same kt).offI (kt _ _ p3);have p4:upd (upd H3 t (.dT [])) p (.ins C dx (a3p "tiles" (.ref t) [("machine",.ref m),("group",.ref g)])) p=some (.ins C dx [("machine",.ref m),("group",.ref g),("tiles",.ref t)]):=by rw[a0a];exact a1W (fun l=>some (HO.ins C dx l)) (by kernel_rfl)
 have eg4:upd (upd H3 t (.dT [])) p (.ins C dx (a3p "tiles" (.ref t) [("machine",.ref m),("group",.ref g)])) g=some (.lst (gr.map .ref)):=by rw[a0f gp];exact kt _ _ eg3
 have Tg4:TupsAt (upd (upd H3 t (.dT [])) p (.ins C dx (a3p "tiles" (.ref t) [("machine",.ref m),("group",.ref g)]))) gr gs:=a4x (Tg3.same kt) (kt _ _ p3) fun _ e=>nomatch e;have et4:upd (upd H3 t (.dT [])) p (.ins C dx (a3p "tiles" (.ref t) [("machine",.ref m),("group",.ref g)])) t=some (.dT []):=by rw[a0f npt.symm];exact a0a
 generalize upd (upd H3 t (.dT [])) p (.ins C dx (a3p "tiles" (.ref t) [("machine",.ref m),("group",.ref g)]))=H4 at k4 T4 p4 eg4 Tg4 et4⊢;clear k3 T3 p3 eg3 Tg3 kt ht k2 T2 p2 eg Tg g1 p1 g0 hp;intro u hu';have kt:=a0c hu' (.dT []);have npu:p≠u:=a0j p4 hu';have ntu:t≠u:=a0j et4 hu';refine⟨_,rfl,p,C,dx,_,rfl,kt _ _ p4,u_LevelParts.cl,u_LevelParts.no,by show 3<1000;decide,?_⟩;have k5:Keeps H0 (upd (upd H4 u (.dT [])) p (.ins C dx (a3p "turns" (.ref u) [("machine",.ref m),("group",.ref g),("tiles",.ref t)]))):=a5h (k4.trans kt.keeps) np;have T5:Tabs (upd (upd H4 u (.dT [])) p (.ins C dx (a3p "turns" (.ref u) [("machine",.ref m),("group",.ref g),("tiles",.ref t)]))):=(T4.same kt).offI (kt _ _ p4);have p5:upd (upd H4 u (.dT [])) p (.ins C dx (a3p "turns" (.ref u) [("machine",.ref m),("group",.ref g),("tiles",.ref t)])) p=some (.ins C dx [("machine",.ref m),("group",.ref g),("tiles",.ref t),("turns",.ref u)]):=by rw[a0a];exact a1W (fun l=>some (HO.ins C dx l)) (by kernel_rfl)
 have eg5:upd (upd H4 u (.dT [])) p (.ins C dx (a3p "turns" (.ref u) [("machine",.ref m),("group",.ref g),("tiles",.ref t)])) g=some (.lst (gr.map .ref)):=by rw[a0f gp];exact kt _ _ eg4
 have Tg5:TupsAt (upd (upd H4 u (.dT [])) p (.ins C dx (a3p "turns" (.ref u) [("machine",.ref m),("group",.ref g),("tiles",.ref t)]))) gr gs:=a4x (Tg4.same kt) (kt _ _ p4) fun _ e=>nomatch e;have et5:upd (upd H4 u (.dT [])) p (.ins C dx (a3p "turns" (.ref u) [("machine",.ref m),("group",.ref g),("tiles",.ref t)])) t=some (.dT []):=by rw[a0f npt.symm];exact kt _ _ et4
 have eu5:upd (upd H4 u (.dT [])) p (.ins C dx (a3p "turns" (.ref u) [("machine",.ref m),("group",.ref g),("tiles",.ref t)])) u=some (.dT []):=by rw[a0f npu.symm];exact a0a
 have nuT:=b4b k4 hu';generalize upd (upd H4 u (.dT [])) p (.ins C dx (a3p "turns" (.ref u) [("machine",.ref m),("group",.ref g),("tiles",.ref t)]))=H5 at k5 T5 p5 eg5 Tg5 et5 eu5⊢;clear k4 T4 p4 eg4 Tg4 et4 kt hu'
 let Pv:Nat->L2.St->Hp->Prop:=fun i σ H'=>Keeps H0 H'/\Tabs H'/\H' p=some (.ins C dx [("machine",.ref m),("group",.ref g),("tiles",.ref t),("turns",.ref u)])/\H' g=some (.lst (gr.map .ref))/\TupsAt H' gr gs/\(∃as,H' t=some (.dT (kvA (c.take i) as))/\as.length=i/\TiledAs H' ts us wds as)/\(∃as,H' u=some (.dT (kvA (c.take i) as))/\as.length=i/\TurnsAs H' ts c us wds as)/\ ∃o3 o4,σ=[some (.ref p),some (.ref m),some (.ref a),o3,o4]
 have nk0:=fun {H':Hp} (k:Keeps H0 H')=>b5v k;refine⟨_,rfl,a,_,_,_,rfl,rfl,SqT.of ((nk0 k5).a h1),rfl,s',_,rfl,SqL.of ((nk0 k5).a h2),c1x (xs:=bs.map .ref) Pv ⟨k5,T5,p5,eg5,Tg5,⟨[],et5,rfl,fun k wd a _ e=>by simp at e⟩,⟨[],eu5,rfl,fun k x wd a _ _ e=>by simp at e⟩,_,_,rfl⟩ (fun i σ H' _ p=>SqL.of ((nk0 p.1).a h2)) (fun i Tp v σ H6 hv nT pv=>?_) (fun σ H6 pv=>?_)⟩
 ·obtain⟨k6,T6,p6,eg6,Tg6,⟨as,et6,la,ta⟩,⟨as2,eu6,la2,tb⟩,o3,o4,rfl⟩:=pv;rw[a0F]at hv;obtain⟨b,eb,rfl⟩:=a0O.mp hv;have li:=(a0B.mp eb).1;obtain⟨x,ex⟩: ∃x,c[i]? =some x:=⟨_,a0A (by lia)⟩;obtain⟨wd,ew⟩: ∃wd,wds[i]? =some wd:=⟨_,a0A (by rw[lp.len];lia)⟩;have lwd:=(lp.go i x wd ex ew).1;have tk:c.take (i+1)=c.take i++[x]:=by rw[a2L,ex];rfl
  have xn:x∉c.take i:=fun h=>by
   obtain⟨j,ej⟩:=a1F.mp h;have lj:=(a0B.mp ej).1;rw[a0W]at lj;rw[a2G (by lia)]at ej;have:=(a2M (by lia) nd).mp (ej.trans ex.symm)
   lia
  have lt:(c.take i).length=i:=by rw[a0W];lia
  have kT:=a0c nT (.tup [.int (i:Nat),.ref b]);have eT:upd H6 Tp (.tup [.int (i:Nat),.ref b]) Tp=some (.tup [.int (i:Nat),.ref b]):=a0a;generalize upd H6 Tp (.tup [.int (i:Nat),.ref b])=H7 at kT eT⊢;have k7:=k6.trans kT.keeps;refine⟨Tp,_,rfl,SqT.of eT,rfl,_,_,rfl,_,_,rfl,rfl,?_⟩;refine⟨_,rfl,_,rfl,_,rfl,m,a,i,ts,n,c,us,wds,wd,rfl,M.keeps k7,LvH.keeps lv k7,ew,uU,few,lwd,fun l es H8 g8 el Tes=>?_⟩;have g68:=kT.trans g8;have k8:=k6.trans g68.keeps;have hb8:=(nk0 k8).a (h3.is i b x eb ex);refine⟨_,rfl,p,C,dx,_,_,rfl,g68 _ _ p6,u_LevelParts.cl,u_LevelParts.no,(by kernel_rfl),_,rfl,t,_,rfl,DPut.t (g68 _ _ et6) (by rw[a7a];exact hb8) (by rw[c9o (by lia),a0Y];lia),?_⟩;rw[c9p (by lia) xn,<-tk];have et8:=g68 _ _ et6;have lo:Lts H6 (upd H8 t (.dT (kvA (c.take (i+1)) (as++[l])))):=fun b o n hb=>Stays.off et8 b o n (g68 _ _ hb);have lo8:Lts H8 (upd H8 t (.dT (kvA (c.take (i+1)) (as++[l])))):=Stays.off et8;have k9:Keeps H0 (upd H8 t (.dT (kvA (c.take (i+1)) (as++[l])))):=b2n k8 ntT;have T9:Tabs (upd H8 t (.dT (kvA (c.take (i+1)) (as++[l])))):=(T6.same g68).offD et8;have et9:upd H8 t (.dT (kvA (c.take (i+1)) (as++[l]))) t=some (.dT (kvA (c.take (i+1)) (as++[l]))):=a0a;have eu9:upd H8 t (.dT (kvA (c.take (i+1)) (as++[l]))) u=some (.dT (kvA (c.take i) as2)):=by rw[a0f ntu.symm];exact g68 _ _ eu6
  have ta9:TiledAs (upd H8 t (.dT (kvA (c.take (i+1)) (as++[l])))) ts us wds (as++[l]):=fun k wd' a' e1 e2=>a6r (P:=fun k a=> ∀wd,wds[k]? =some wd-> ∃es,upd H8 t (.dT (kvA (c.take (i+1)) (as++[l]))) a=some (.lst (es.map .ref))/\TupsAt (upd H8 t (.dT (kvA (c.take (i+1)) (as++[l])))) es (tl ts us wd)) (fun k a e wd e'=>(ta.lts lo) k wd a e' e) (fun wd' e=>by
   rw[la,ew]at e;cases e;exact⟨es,lo8.a el,lo8.tups Tes⟩) k a' e2 wd' e1
  have p9:=lo.a p6;have eg9:=lo.a eg6;have Tg9:=lo.tups Tg6;have tb9:=tb.lts lo;generalize upd H8 t (.dT (kvA (c.take (i+1)) (as++[l])))=H9 at k9 T9 et9 eu9 ta9 p9 eg9 Tg9 tb9⊢;clear lo lo8 g68 g8 k8 hb8 et8 kT eT k7 el Tes;refine⟨_,rfl,m,_,rfl,.inr (SqT.of ((nk0 k9).a hm)),(ts.length:Int),by rw[a0C,hrl],by lia,by lia,a4a (fun j ys H'=>Same H9 H'/\ys.length=j/\ ∀(l:Nat) (v:V),ys[l]? =some v->(a0k ts x l∉c/\v= .non)∨ ∃(p:Ad) (js:Nsq) (k':Nat) (wd':Nsq),v= .ref p/\H' p=some (.tup (js.map nv))/\c[k']? =some (a0k ts x l)/\wds[k']? =some wd'/\a1u ts us wd wd' l js) (by rw[a1U];exact small (by lia)) ⟨Same.refl _,rfl,fun l v e=>by simp at e⟩ (fun j ys H' _ pv=>Nat.le_of_eq pv.2.1) (fun j ys H' hj pv=>?_) (fun ys H' pv sg hsg=>?_)⟩
  ·obtain⟨g,ly,al⟩:=pv;have e0:V.int (0+(j:Int))=nv j:=by show V.int (0+(j:Int))=V.int (j:Int);rw[a7J]
   have hj':j<ts.length:=by simpa using hj
   rw[e0];have k10:=k9.trans g.keeps;refine⟨a1l,a4r ⟨_,rfl,_,rfl,_,rfl,_,rfl,m,a,i,j,ts,n,fam,c,us,wds,x,wd,rfl,M.keeps k10,ff,LvH.keeps lv k10,lp,ex,ew,hj',fun no H2 g2=>?_,fun k' wd' ey ew' pp js H2 g2 ep tb'=>?_⟩⟩
   ·refine⟨g.trans g2,by rw[a0L,ly];rfl,fun l v e=>a6r (P:=fun l v=>(a0k ts x l∉c/\v=V.non)∨ ∃(p:Ad) (js:Nsq) (k':Nat) (wd':Nsq),v= .ref p/\H2 p=some (.tup (js.map nv))/\c[k']? =some (a0k ts x l)/\wds[k']? =some wd'/\a1u ts us wd wd' l js) (fun l v e=>(al l v e).imp id fun⟨p,js,k',wd',z1,z2,z3⟩=>⟨p,js,k',wd',z1,g2 _ _ z2,z3⟩) (.inl ⟨by rw[ly];exact no,rfl⟩) l v e⟩
   ·refine⟨g.trans g2,by rw[a0L,ly];rfl,fun l v e=>a6r (P:=fun l v=>(a0k ts x l∉c/\v=V.non)∨ ∃(p:Ad) (js:Nsq) (k':Nat) (wd':Nsq),v= .ref p/\H2 p=some (.tup (js.map nv))/\c[k']? =some (a0k ts x l)/\wds[k']? =some wd'/\a1u ts us wd wd' l js) (fun l v e=>(al l v e).imp id fun⟨p,js,k',wd',z1,z2,z3⟩=>⟨p,js,k',wd',z1,g2 _ _ z2,z3⟩) (.inr ⟨pp,js,k',wd',rfl,ep,by rw[ly];exact ey,ew',by rw[ly];exact tb'⟩) l v e⟩
  ·obtain⟨g,ly,al⟩:=pv;rw[a1U]at ly;have ks:=a0c hsg (.lst ys);have es:upd H' sg (.lst ys) sg=some (.lst ys):=a0a;have g10:=g.trans ks;have TL:TurnL (upd H' sg (.lst ys)) ts c us wds x wd ys:=TurnL.lts ⟨ly,al⟩ (a2g ks);generalize upd H' sg (.lst ys)=H10 at ks es g10 TL⊢;have k10:=k9.trans g10.keeps;have hb10:=(nk0 k10).a (h3.is i b x eb ex);have eu10:=g10 _ _ eu9;refine⟨_,rfl,p,C,dx,_,_,rfl,g10 _ _ p9,u_LevelParts.cl,u_LevelParts.no,(by kernel_rfl),_,rfl,u,_,rfl,DPut.t eu10 (by rw[a7a];exact hb10) (by rw[c9o (by lia),a0Y];lia),?_⟩;rw[c9p (by lia) xn,<-tk];have lo:Lts H9 (upd H10 u (.dT (kvA (c.take (i+1)) (as2++[sg])))):=fun b o n hb=>Stays.off eu10 b o n (g10 _ _ hb)
   have lo10:Lts H10 (upd H10 u (.dT (kvA (c.take (i+1)) (as2++[sg])))):=Stays.off eu10;refine⟨b2n k10 nuT,(T9.same g10).offD eu10,lo.a p9,lo.a eg9,lo.tups Tg9,⟨as++[l],by rw[a0f ntu];exact g10 _ _ et9,by rw[a0L,la];rfl,ta9.lts lo⟩,⟨as2++[sg],a0a,by rw[a0L,la2];rfl,fun k x' wd' a' e1 e2 e3=>?_⟩,_,_,rfl⟩;refine a6r (P:=fun k a=> ∀x wd,c[k]? =some x->wds[k]? =some wd-> ∃vs,upd H10 u (.dT (kvA (c.take (i+1)) (as2++[sg]))) a=some (.lst vs)/\TurnL (upd H10 u (.dT (kvA (c.take (i+1)) (as2++[sg])))) ts c us wds x wd vs) (fun k a e x wd e1 e2=>(tb9.lts lo) k x wd a e1 e2 e) (fun x' wd' e1 e2=>?_) k a' e3 x' wd' e1 e2;rw[la2,ex]at e1;rw[la2,ew]at e2;cases e1;cases e2;exact⟨ys,lo10.a es,TL.lts lo10⟩
 ·obtain⟨k6,T6,p6,eg6,Tg6,⟨as,et6,la,ta⟩,⟨as2,eu6,la2,tb⟩,o3,o4,rfl⟩:=pv;rw[a0C,lb]at et6 eu6 la la2;rw[a2B]at et6 eu6;refine⟨_,rfl,a,_,_,_,rfl,rfl,SqT.of ((nk0 k6).a h1),rfl,t',_,rfl,.inl (SqL.of ((nk0 k6).a h4)),_,rfl,p,C,dx,_,rfl,p6,u_LevelParts.cl,u_LevelParts.no,by show 4<1000;decide,?_⟩;rw[show((ds.map V.ref).length)=us.length by rw[a0C,l5]];have lo:Stays isIn H6 (upd H6 p (.ins C dx (a3p "tile_count" (nv us.length) [("machine",.ref m),("group",.ref g),("tiles",.ref t),("turns",.ref u)]))):=Stays.offI p6;refine q gs _ (a5h k6 np) (T6.offI p6) G ⟨dx,g,t,u,gr,?_,lo.a eg6,lo.tups Tg6,⟨as,lo.a et6,la,ta.lts lo⟩,as2,lo.a eu6,la2,tb.lts lo⟩;rw[a0a];exact a1W (fun l=>some (HO.ins C dx l)) (by kernel_rfl)
theorem c0h{CL CR T:Ad}(F:Fun K "__init__" "Row.__init__" b0m f fd)(u_Row:OwnC K CR ["rooms","steps"])(qH:c8j P w K mg base "LevelParts" CL 15 ["self","machine","level"] (c2n CL))(qV:a0u P w K mg base "levels" 18 ["machine"] (c2h T (⟨49,40,49,93⟩:Pos)))(kQ:a0u P w K mg base "still" 1 ["rooms"] b5i)(jC:mg "len"=none):FnOk P w K mg base CX0 20 f fd ["self","machine"] (b8j CL CR):=by
 refine F.ok c8p (fun vs H Q E h=>?_) (fun cdv A outer s H vs Q E hr h=>?_)
 ·obtain⟨H0,p,dx,m,ts,n,rfl,_⟩:=h;rfl
 obtain⟨H0,p,dx,m,ts,n,rfl,g0,np,hp,M,hT,q⟩:=h;have hu:=hr.units;have hu1:=a7s hr;obtain⟨rs,r0,hm,hrl,at0,hr0,ln0,_⟩:=M.at (l:=0) M.some1;have n5:=M.n5;refine⟨_,(a0d (b0x (pv 0) (a0m kQ hr.m rfl (a0g (a0t a0n rfl jC a4C (a0g (a0w a0x (pv 1) a0l (fun _ _=>rfl)) a0i)) a0i)) rfl) (a0h (b0x (pv 0) (a1m (CompSc.to (N:=["self","machine"]) (osc:=a0e b0m) (vs:=["level"]) {}) rfl rfl (a2a (a0m qV hr.m rfl (a0g (pv 1) a0i))) (fun _ _ _ _=>a2q) (fun _ _ _ _=>(c1y qH hr.m rfl (a0v (a0b (pv 2) (a0b (pv 0) a0o rfl) rfl))))) rfl))),?_⟩;refine⟨_,rfl,m,_,_,_,rfl,rfl,SqT.of (g0 _ _ hm),at0,r0,_,rfl,.inr (SqT.of (g0 _ _ hr0)),?_⟩
 try dsimp only
 rw[a0C,ln0];refine⟨n,rfl,by lia,fun r H1 g1 er=>?_⟩;have p1:=g1 _ _ hp;have np1:p≠r:=nE p1 er;refine⟨_,rfl,p,CR,dx,_,rfl,p1,u_Row.cl,u_Row.no,by show 0<1000;decide,?_⟩;have g2:Same H0 (upd H1 p (.ins CR dx (a3p "rooms" (.ref r) []))):=a1e (g0.trans g1) np;have p2:upd H1 p (.ins CR dx (a3p "rooms" (.ref r) [])) p=some (.ins CR dx [("rooms",.ref r)]):=a0a;have er2:upd H1 p (.ins CR dx (a3p "rooms" (.ref r) [])) r=some (.tup ((List.range n).map nv)):=by rw[a0f np1.symm];exact er
 generalize upd H1 p (.ins CR dx (a3p "rooms" (.ref r) []))=H2 at g2 p2 er2⊢;clear g1 er p1 g0 hp;refine⟨_,rfl,m,ts,n,rfl,M.same g2,hT.same g2,fun l as told fam ys H3 k3 T3 nl el ff od sub lim LL nw ap nwl=>?_⟩;have k03:=g2.keeps.trans k3;have la:=LL.len;refine⟨l,rfl,⟨_,SqL.of el⟩,a2j (xs:=as.map .ref) (fun i vs H'=>Keeps H3 H'/\Tabs H'/\ ∃(qs:As) (Ls:List Lv),vs=qs.map V.ref/\Ls.length=i/\Ls.map (·.c)=told.take i/\(∀L∈Ls,LvOk ts fam L)/\StepsAt CL H' qs m ts Ls) (by rw[a0C];exact small (by lia)) ⟨Keeps.refl _,T3,[],[],rfl,rfl,rfl,(fun L h=>nomatch h),rfl,fun i q L e=>by simp at e⟩ (fun i vs H' _ pv=>?_) (fun i v vs H' hv pv=>?_) (fun vs H' pv sg hsg=>?_)⟩
 ·obtain⟨k4,_,qs,Ls,rfl,lq,_,_,S⟩:=pv;exact⟨SqL.of (k4 _ _ (nz el)),by rw[a0C,S.len,lq];exact a0K _⟩
 ·obtain⟨k4,T4,qs,Ls,rfl,lq,eL,oks,S⟩:=pv;rw[a0F]at hv;obtain⟨lv,elv,rfl⟩:=a0O.mp hv;have li:=(a0B.mp elv).1;obtain⟨c,ec⟩: ∃c,told[i]? =some c:=⟨_,a0A (by lia)⟩;obtain⟨wds,lvh,lp,wd⟩:=(LL.is i lv c elv ec).lvw (sub c (a0E ec));have k04:=k03.trans k4;refine⟨a1l,a4r ⟨_,rfl,_,rfl,fun x dx' nx ndx nex=>?_⟩⟩;have gx:Same H' (upd (upd H' dx' (.own x)) x (.ins CL dx' [])):=fun b o hb=>by
   rw[a0f (a0j hb nx),a0f (a0j hb ndx)];exact hb
  refine⟨H',x,dx',m,lv,ts,n,fam,c,_,wds,rfl,gx,nx,a0a,M.keeps k04,ff,LvH.keeps lvh k4,lp,T4,fun gs H5 k5 T5 G St=>⟨rfl,k4.trans k5,T5,qs++[x],Ls++[⟨c,a2d fam (c.headD []),wds,gs⟩],by rw[a1B];rfl,by rw[a0L,lq];rfl,?_,fun L hL=>?_,⟨by rw[a0L,a0L,S.len];rfl,fun j q' L e1 e2=>?_⟩⟩⟩
  ·rw[a1B,eL,a2L,ec];rfl
  ·rcases a0Q.mp hL with z|z
   ·exact oks L z
   ·rw[a0J.mp z];exact⟨lp,wd,G⟩
  ·refine a6r (P:=fun j q=> ∀L,(Ls++[⟨c,a2d fam (c.headD []),wds,gs⟩])[j]? =some L->StepAt CL H5 q m ts L) (fun j q e L e2=>?_) (fun L e2=>?_) j q' e1 L e2
   ·have lj:=(a0B.mp e).1;rw[a0N (by rw[<-S.len];exact lj)]at e2;exact(S.is j q L e e2).keeps k5
   ·rw[S.len,a0M (a0K _),a5D]at e2;cases e2;exact St
 ·obtain⟨k4,T4,qs,Ls,rfl,lq,eL,oks,S⟩:=pv;rw[a0C]at lq eL;rw[la,a2B]at eL;have ks:=a0c hsg (.lst (qs.map V.ref));have k2s:=(k3.trans k4).trans ks.keeps;have p5:=k2s _ _ (nz p2);refine⟨_,rfl,p,CR,dx,_,rfl,p5,u_Row.cl,u_Row.no,by show 1<1000;decide,?_⟩;have lo:Stays isIn (upd H' sg (.lst (qs.map V.ref))) (upd (upd H' sg (.lst (qs.map V.ref))) p (.ins CR dx (a3p "steps" (.ref sg) [("rooms",.ref r)]))):=Stays.offI p5;refine q fam Ls _ (a5h ((k03.trans k4).trans ks.keeps) np) ((T4.same ks).offI p5) ⟨ff,by rw[eL];exact od,by rw[lq,la];exact lim,oks⟩ ⟨dx,r,sg,qs,?_,lo.a (k2s _ _ (nz er2)),lo.a a0a,S.len,fun i q' L e1 e2=>((S.is i q' L e1 e2).keeps ks.keeps).off p5 (by show ¬1=5;decide)⟩;rw[a0a];exact a1W (fun l=>some (HO.ins CR dx l)) (by kernel_rfl)
def a5y(k:Nat)(L:Lv):List (Bool×Nat×Nat):=(if 1<L.gs.length then[(true,k,L.gs.length)]else[])++[(false,k,L.us.length)]
def a1o(Ls:List Lv):Nat->List (Bool×Nat×Nat)
 |0=>[]
 |i+1=>a1o Ls i++(match Ls[i]? with|some L=>a5y i L|none=>[])
def a0q(Ls:List Lv):List (Bool×Nat×Nat):=a1o Ls Ls.length
theorem c9q(k:Nat)(L:Lv):(a5y k L).length<=2:=by
 unfold a5y;by_cases h:1<L.gs.length
 ·rw[wB h];exact a0K 2
 ·rw[wA h];exact a7E 1
theorem a4k(Ls:List Lv): ∀i,(a1o Ls i).length<=2 * i
 |0=>a0K _
 | i+1=>by
  have z:=a4k Ls i;unfold a1o;rw[a0L];cases e:Ls[i]? with
  |none=>
   simp only[List.length_nil];lia
  |some L=>
   have y:=c9q i L;simp only;lia
theorem a5i{Ls:List Lv}{i:Nat}{L:Lv}(e:Ls[i]? =some L):a1o Ls (i+1)=a1o Ls i++a5y i L:=by
 show a1o Ls i++_=_;rw[e]
def d3b:Bool->Str
 |true=>"turn"
 |false=>"bring"
structure PartsAt(H:Hp)(as:As)(ps:List (Bool×Nat×Nat)):Prop where
 len:as.length=ps.length
 is: ∀(i:Nat) (a:Ad) (p:Bool×Nat×Nat),as[i]? =some a->ps[i]? =some p->H a=some (.tup [.str (d3b p.1),nv p.2.1,nv p.2.2])
theorem PartsAt.st{f:HO->Bool}{H H':Hp}{as:As}{ps:List (Bool×Nat×Nat)}(h:PartsAt H as ps)(g:Stays f H H')(f2: ∀xs,f (.tup xs)=false:=by intro;rfl):PartsAt H' as ps:=⟨h.len,fun i a p e1 e2=>g _ _ (f2 _) (h.is i a p e1 e2)⟩
theorem PartsAt.snoc{H:Hp}{as:As}{ps:List (Bool×Nat×Nat)}{a:Ad}{p:Bool×Nat×Nat}(h:PartsAt H as ps)(e:H a=some (.tup [.str (d3b p.1),nv p.2.1,nv p.2.2])):PartsAt H (as++[a]) (ps++[p]):=by
 refine⟨by rw[a0L,a0L,h.len];rfl,fun i a' p' e1 e2=>?_⟩;refine a6r (P:=fun i a'=> ∀p',(ps++[p])[i]? =some p'->H a'=some (.tup [.str (d3b p'.1),nv p'.2.1,nv p'.2.2])) (fun i a' e1 p' e2=>?_) (fun p' e2=>?_) i a' e1 p' e2
 ·rw[a0N (by rw[<-h.len];exact(a0B.mp e1).1)]at e2;exact h.is i a' p' e1 e2
 ·rw[h.len,a0M (a0K _),a5D]at e2;cases e2;exact e
def d3c(C:Ad):Sp:=fun vs H Q _=> ∃(q m:Ad) (ts:LN) (L:Lv),vs=[.ref q]/\StepAt C H q m ts L/\Q (.bl (decide (1<L.gs.length))) H
theorem b5w{C:Ad}(F:Fun K "is_turning" "LevelParts.is_turning" a2r f fd)(u_LevelParts:OwnC K C ["machine","group","tiles","turns","tile_count"])(jC:mg "len"=none):FnOk P w K mg base CX0 1 f fd ["self"] (d3c C):=by
 refine F.ok a6n (fun vs H Q E h=>?_) (fun cdv A outer s H vs Q E hr h=>?_)
 ·obtain⟨q,m,ts,L,rfl,_⟩:=h;rfl
 obtain⟨q,m,ts,L,rfl,⟨dx,g,t,u,gr,h1,h2,h3,_⟩,k⟩:=h;refine⟨_,(a0h (a0s (b0t d4w (a0t a0n rfl jC a4C (a0g (a2f (pv 0) rfl) a0i)) a0l (a2e _)))),?_⟩;refine⟨_,rfl,q,C,dx,_,_,rfl,h1,u_LevelParts.cl,u_LevelParts.no,c0g,g,_,rfl,.inl (SqL.of h2),_,_,rfl,rfl,?_⟩;show Q (.bl (decide ((1:Int)<(((gr.map V.ref).length:Nat):Int)))) H;rw[a0C,h3.len,show decide ((1:Int)<((L.gs.length:Nat):Int))=decide (1<L.gs.length)from decide_eq_decide.mpr (by lia)];exact k
def c0i(CL CR:Ad):Sp:=fun vs H Q _=> ∃(p m:Ad) (ts:LN) (n:Nat) (Ls:List Lv),vs=[.ref p]/\RowAt CL CR H p m ts n Ls/\Ls.length<=32/\
 ∀l as H',Same H H'->H l=none->H' l=some (.lst (as.map .ref))->PartsAt H' as (a0q Ls)->Q (.ref l) H'
theorem d3d{CL CR:Ad}(F:Fun K "parts" "Row.parts" b1z f fd)(u_LevelParts:OwnC K CL ["machine","group","tiles","turns","tile_count"])(u_Row:OwnC K CR ["rooms","steps"])(jA:a2h P w K mg base CL "is_turning" 1 ["self"] (d3c CL))(kC:mg "enumerate"=none)(jC:mg "len"=none):FnOk P w K mg base CX0 3 f fd ["self"] (c0i CL CR):=by
 refine F.ok qE (fun vs H Q E h=>?_) (fun cdv A outer s H vs Q E hr h=>?_)
 ·obtain⟨p,m,ts,n,Ls,rfl,_⟩:=h;rfl
 obtain⟨p,m,ts,n,Ls,rfl,⟨dx,r,st,qs,h1,h2,h3,S⟩,few,q⟩:=h;have hu:=hr.units;refine⟨_,(a0d (a0p (i:=1) qE.nd rfl (Or.inl rfl) (a2t a0i)) (a0d (a3o a2J rfl (c8g rfl kC (a0g (a2f (pv 0) rfl) a0i)) (b3h rfl (a2m (a1c (i:=2) qE.nd rfl (Or.inl rfl)) (a2m (a1c (i:=3) qE.nd rfl (Or.inl rfl)) a8u))) (a0d (c1a (a4l (b3f (a5e (pv 3) u_LevelParts.cl jA hr.m)) (a0h (a3f (a6z a1P a2D a2E a2b (pv 1) (a0g (a4o (a0v (a0b c5a (a0b (pv 2) (a0b (a0t a0n rfl jC a4C (a0g (a2f (pv 3) rfl) a0i)) a0o rfl) rfl) rfl))) a0i)))) a1v)) (a0h (a3f (a6z a1P a2D a2E a2b (pv 1) (a0g (a4o (a0v (a0b c5a (a0b (pv 2) (a0b (a2f (pv 3) rfl) a0o rfl) rfl) rfl))) a0i)))))) (a0h (a0s (pv 1))))),?_⟩;refine⟨by show 0<=sizeLine;decide,fun fo hfo=>?_⟩;have k0:=a0c hfo (.lst []);have lq:=S.len
 let Pv:Nat->L2.St->Hp->Prop:=fun i σ H'=>Same H H'/\ ∃(as:As) (o2 o3:Option V),H' fo=some (.lst (as.map .ref))/\PartsAt H' as (a1o Ls i)/\σ=[some (.ref p),some (.ref fo),o2,o3]
 refine⟨_,rfl,p,CR,dx,_,_,rfl,k0 _ _ h1,u_Row.cl,u_Row.no,b8i,st,_,rfl,SqL.of (k0 _ _ h3),c1x (xs:=qs.map .ref) Pv ⟨k0,[],_,_,a0a,⟨rfl,fun i a p e=>by simp at e⟩,rfl⟩ (fun i σ H' _ p=>SqL.of (p.1 _ _ h3)) (fun i Tp v σ H1 hv nT pv=>?_) (fun σ H1 pv=>?_)⟩
 ·obtain⟨g1,as,o2,o3,ef,PA1,rfl⟩:=pv;rw[a0F]at hv;obtain⟨b,eb,rfl⟩:=a0O.mp hv;have li:=(a0B.mp eb).1;obtain⟨L,eL⟩: ∃L,Ls[i]? =some L:=⟨_,a0A (by lia)⟩;have kT:=a0c nT (.tup [.int (i:Nat),.ref b]);have eT:upd H1 Tp (.tup [.int (i:Nat),.ref b]) Tp=some (.tup [.int (i:Nat),.ref b]):=a0a;generalize upd H1 Tp (.tup [.int (i:Nat),.ref b])=H2 at kT eT⊢;have g2:=g1.trans kT;have SA:=(S.is i b L eb eL).keeps g2.keeps;obtain⟨dxl,g,t,u,gr,s1,s2,s3,s4⟩:=id SA;refine⟨Tp,_,rfl,SqT.of eT,rfl,_,_,rfl,_,_,rfl,rfl,?_⟩;have f0:=kT _ _ ef;have lz:=a4k Ls i;have la:=PA1.len;have hps: ∀{H':Hp},Same H2 H'->H' fo=some (.lst (as.map .ref)):=fun g=>g _ _ f0;refine⟨fun σ' H'=>Same H H'/\ ∃as',H' fo=some (.lst (as'.map .ref))/\PartsAt H' as' (a1o Ls i++(if 1<L.gs.length then[(true,i,L.gs.length)]else[]))/\σ'=[some (.ref p),some (.ref fo),some (nv i),some (.ref b)],⟨_,rfl,b,dxl,_,rfl,s1,(by kernel_rfl),b,m,ts,L,rfl,SA,_,rfl,c5v (fun c=>?_) (fun c=>?_)⟩,fun σ' H' z=>?_⟩
  ·have c1:1<L.gs.length:=a1V c;refine⟨_,rfl,.inl ⟨rfl,_,SqL.of f0⟩,_,rfl,_,rfl,b,CL,dxl,_,_,rfl,s1,u_LevelParts.cl,u_LevelParts.no,c0g,g,_,rfl,.inl (SqL.of s2),by show 3<=sizeLine;decide,fun tp htp=>?_⟩;rw[show(gr.map V.ref).length=L.gs.length by rw[a0C,s3.len]];have kt:=a0c htp (.tup [.str "turn",nv i,nv L.gs.length]);refine⟨fo,_,_,rfl,rfl,kt _ _ f0,by rw[a0C,a0Y];lia,?_⟩;have lo:d9z (upd H2 tp (.tup [.str "turn",nv i,nv L.gs.length])) (upd (upd H2 tp (.tup [.str "turn",nv i,nv L.gs.length])) fo (.lst (as.map V.ref++[.ref tp]))):=Stays.offL (kt _ _ f0);rw[wB c1];exact⟨a1e (g2.trans kt) hfo,as++[tp],by rw[a0a,a1B];rfl,((PA1.st (a2g (kT.trans kt))).st lo).snoc (lo.a a0a),rfl⟩
  ·have c1: ¬1<L.gs.length:=a7U (a5S.mpr c);rw[wA c1,a2I];exact⟨g2,as,f0,PA1.st (a2g kT),rfl⟩
  ·obtain⟨g3,as',f3,PA3,rfl⟩:=z;obtain⟨dxl,g,t,u,gr,s1,s2,s3,s4⟩:=(S.is i b L eb eL).keeps g3.keeps;have lz3:as'.length<=2 * i+2:=by
    rw[PA3.len,a0L];have:(if 1<L.gs.length then[(true,i,L.gs.length)]else[]).length<=2:=by
     by_cases h:1<L.gs.length
     ·rw[wB h];exact a7E 1
     ·rw[wA h];exact a3K 2
    lia
   refine⟨_,rfl,.inl ⟨rfl,_,SqL.of f3⟩,_,rfl,_,rfl,b,CL,dxl,_,_,rfl,s1,u_LevelParts.cl,u_LevelParts.no,lpF_k,by show 3<=sizeLine;decide,fun tp htp=>?_⟩;have kt:=a0c htp (.tup [.str "bring",nv i,nv L.us.length]);refine⟨fo,_,_,rfl,rfl,kt _ _ f3,by rw[a0C,a0Y];lia,?_⟩;have lo:d9z (upd H' tp (.tup [.str "bring",nv i,nv L.us.length])) (upd (upd H' tp (.tup [.str "bring",nv i,nv L.us.length])) fo (.lst (as'.map V.ref++[.ref tp]))):=Stays.offL (kt _ _ f3);refine⟨a1e (g3.trans kt) hfo,as'++[tp],_,_,by rw[a0a,a1B];rfl,?_,rfl⟩;rw[a5i eL];unfold a5y;rw[<-a1G];exact((PA3.st (a2g kt)).st lo).snoc (lo.a a0a)
 ·obtain⟨g1,as,o2,o3,ef,PA1,rfl⟩:=pv;rw[a0C,lq]at PA1;exact⟨_,rfl,q fo as H1 g1 hfo ef PA1⟩
def plc(Ls:List Lv)(i:Nat):Nat:=(a1o Ls i).length
def a1y(Ls:List Lv)(row:Nsq)(i:Nat)(L:Lv):Nat×Nat:=if 1<L.gs.length then(row.getD (plc Ls i) 0,row.getD (plc Ls i+1) 0)else(0,row.getD (plc Ls i) 0)
def a3u(Ls:List Lv)(row:Nsq):Nat->List (Nat×Nat)
 |0=>[]
 |i+1=>a3u Ls row i++(match Ls[i]? with|some L=>[a1y Ls row i L]|none=>[])
def a1r(Ls:List Lv)(row:Nsq):List (Nat×Nat):=a3u Ls row Ls.length
structure RowIn(Ls:List Lv)(row:Nsq):Prop where
 len:row.length=(a0q Ls).length
 lt: ∀(j:Nat) (p:Bool×Nat×Nat) (r:Nat),(a0q Ls)[j]? =some p->row[j]? =some r->r<p.2.2
theorem a3n{Ls:List Lv}{row:Nsq}{i:Nat}{L:Lv}(e:Ls[i]? =some L):a3u Ls row (i+1)=a3u Ls row i++[a1y Ls row i L]:=by
 show a3u Ls row i++_=_;rw[e]
theorem a1k{Ls:List Lv}{row:Nsq}: ∀{i:Nat},i<=Ls.length->(a3u Ls row i).length=i
 |0,_=>rfl
 |i+1,h=>by
  rw[a3n (a0A h),a0L,a1k (a1S h)];rfl
theorem b8k{α:Type}{t:Nat->List α}(h: ∀i,∃r,t (i+1)=t i++r): ∀{i j:Nat},i<=j-> ∃r,t j=t i++r
 |i,0,hj=>⟨[],by rw[Nat.le_zero.mp hj,a2I]⟩
 | i,j+1,hj=>by
  by_cases e:i=j+1
  ·exact⟨[],by rw[e,a2I]⟩
  ·obtain⟨r,z⟩:=b8k h (show i<=j by lia);obtain⟨r2,z2⟩:=h j;exact⟨r++r2,by rw[z2,z,a1G]⟩
theorem b2p(Ls:List Lv){i j:Nat}(h:i<=j): ∃r,a1o Ls j=a1o Ls i++r:=b8k (t:=a1o Ls) (fun i=>⟨_,rfl⟩) h
theorem a7o(Ls:List Lv)(row:Nsq){i j:Nat}(h:i<=j): ∃r,a3u Ls row j=a3u Ls row i++r:=b8k (t:=a3u Ls row) (fun i=>⟨_,rfl⟩) h
theorem c2o{Ls:List Lv}{i:Nat}{L:Lv}(e:Ls[i]? =some L):plc Ls (i+1)=plc Ls i+(if 1<L.gs.length then 2 else 1):=by
 unfold plc;rw[a5i e,a0L];unfold a5y;by_cases h:1<L.gs.length
 ·rw[wB h,wB h];rfl
 ·rw[wA h,wA h];rfl
theorem b5x{Ls:List Lv}{row:Nsq}{i:Nat}{L:Lv}(e:Ls[i]? =some L):(a1r Ls row)[i]? =some (a1y Ls row i L):=by
 have li:=(a0B.mp e).1;obtain⟨r,z⟩:=a7o Ls row (show i+1<=Ls.length from li);unfold a1r;rw[z,a3n e,a1G,a0M (by rw[a1k (a1S li)];exact a0K _),a1k (a1S li),a5D];rfl
theorem b5y{Ls:List Lv}{i j:Nat}{L:Lv}{p:Bool×Nat×Nat}(e:Ls[i]? =some L)(ep:(a5y i L)[j]? =some p):(a0q Ls)[plc Ls i+j]? =some p:=by
 have li:=(a0B.mp e).1;obtain⟨r,z⟩:=b2p Ls (show i+1<=Ls.length from li);unfold a0q plc;rw[z,a5i e,a1G,a0M (a3P _ _),a3Z,a0N (a0B.mp ep).1];exact ep
theorem d4m{Ls:List Lv}{i:Nat}{L:Lv}(e:Ls[i]? =some L):plc Ls i+(if 1<L.gs.length then 1 else 0)<(a0q Ls).length:=by
 have li:=(a0B.mp e).1;obtain⟨r,z⟩:=b2p Ls (show i+1<=Ls.length from li);have y:=c2o e;unfold a0q;rw[z,a0L];unfold plc at y⊢;by_cases h:1<L.gs.length
 ·rw[wB h]at y⊢;lia
 ·rw[wA h]at y⊢;lia
structure PairOk(L:Lv)(p:Nat×Nat):Prop where
 g:p.1<L.gs.length
 t:p.2<L.us.length
theorem getD_of{xs:Nsq}{j:Nat}(h:j<xs.length):xs[j]? =some (xs.getD j 0):=by rw[a0I,a0A h];rfl
theorem RowIn.pair{Ls:List Lv}{row:Nsq}(R:RowIn Ls row){i:Nat}{L:Lv}(e:Ls[i]? =some L)(g0:0<L.gs.length):PairOk L (a1y Ls row i L):=by
 have z:=d4m e;have len:=R.len;unfold a1y;by_cases h:1<L.gs.length
 ·rw[wB h]at z⊢;have p1:(a5y i L)[0]? =some (true,i,L.gs.length):=by unfold a5y;rw[wB h];rfl
  have p2:(a5y i L)[1]? =some (false,i,L.us.length):=by unfold a5y;rw[wB h];rfl
  exact⟨R.lt _ _ _ (b5y e p1) (getD_of (by lia)),R.lt _ _ _ (b5y e p2) (getD_of (by lia))⟩
 ·rw[wA h]at z⊢;have p1:(a5y i L)[0]? =some (false,i,L.us.length):=by unfold a5y;rw[wA h];rfl
  exact⟨g0,R.lt _ _ _ (b5y e p1) (getD_of (by lia))⟩
def a4y(L:Lv)(p:Nat×Nat):Nat:=(L.gs.getD p.1 []).getD p.2 0
def a7p(ts:LN)(L:Lv)(here:Nsq)(p:Nat×Nat):Nsq:=if here∈L.c then(tl ts L.us (L.wds.getD (ixl L.c here) [])).getD (a4y L p) []else here
def a1s(ts:LN)(n:Nat)(Ls:List Lv)(prs:List (Nat×Nat)):Nat->List Nat
 |0=>List.range n
 |i+1=>match Ls[i]?,prs[i]? with
  |some L,some p=>a7p ts L (a1s ts n Ls prs i) p
  |_,_=>a1s ts n Ls prs i
theorem b8l{ts:LN}{n:Nat}{Ls:List Lv}{prs:List (Nat×Nat)}{i:Nat}{L:Lv}{p:Nat×Nat}(e1:Ls[i]? =some L)(e2:prs[i]? =some p):a1s ts n Ls prs (i+1)=a7p ts L (a1s ts n Ls prs i) p:=by
 show(match Ls[i]?,prs[i]? with|some L,some p=>a7p ts L (a1s ts n Ls prs i) p|_,_=>a1s ts n Ls prs i)=_;rw[e1,e2]
structure WOk(L:Lv)(p:Nat×Nat):Prop where
 nd:L.c.Nodup
 wl:L.wds.length=L.c.length
 g1:p.1<L.gs.length
 g2:p.2<(L.gs.getD p.1 []).length
 g3:a4y L p<L.us.length
section
variable{H:Hp}{m:Ad}{ts:LN}{n:Nat}{fam:LN}{L:Lv}
theorem LvOk.g0(M:Mach H m ts n)(ff:FamOf ts n fam)(ok:LvOk ts fam L):0<L.gs.length:=(a0B.mp (ok.first M ff)).1
theorem a3z{gs:LN}{k:Nat}(h:k<gs.length):gs[k]? =some (gs.getD k []):=by rw[a0I,a0A h];rfl
theorem LvOk.wok(M:Mach H m ts n)(ff:FamOf ts n fam)(ok:LvOk ts fam L){p:Nat×Nat}(po:PairOk L p):WOk L p:=by
 have pm:=ok.pm M ff (a0E (a3z po.g));have l:(L.gs.getD p.1 []).length=L.us.length:=by rw[pm.length_eq,a2A]
 refine⟨ok.p.nd ff,ok.p.len,po.g,by rw[l];exact po.t,?_⟩;exact a1Q.mp (pm.mem_iff.mp (a0E (getD_of (by rw[l];exact po.t))))
theorem LvOk.wthn_in(M:Mach H m ts n)(ff:FamOf ts n fam)(ok:LvOk ts fam L){here:Nsq}(hh:here∈L.c){p:Nat×Nat}(po:PairOk L p):a7p ts L here p∈a2d fam here:=by
 have w:=ok.wok M ff po;obtain⟨l,e⟩:=a4j hh;unfold a7p tl;rw[wB hh,a0I,a0F];have eu:L.us[a4y L p]? =some (L.us.getD (a4y L p) []):=a3z w.g3;rw[eu];have ew:L.wds[ixl L.c here]? =some (L.wds.getD (ixl L.c here) []):=a3z (by rw[w.wl];exact l);obtain⟨b,bj⟩:=ok.p.bij M ff e ew;have mu:=a0E eu;rw[ok.p.tl]at mu;have:=a9h M ff (ff.inU M (a0S.mp (a0r ok.p.cls).2.2.1).1) bj mu;rw[<-ok.p.tl]at this;exact this
theorem LvOk.wthn_fam(M:Mach H m ts n)(ff:FamOf ts n fam)(ok:LvOk ts fam L){here:Nsq}(hh:here∈fam){p:Nat×Nat}(po:PairOk L p):a7p ts L here p∈fam:=by
 by_cases h:here∈L.c
 ·exact((a3y M ff).mp (ok.wthn_in M ff h po)).1
 ·unfold a7p;rw[wA h];exact hh
theorem b2q(ff:FamOf ts n fam):List.range n∈fam:=(ff.mem _).mpr (.inl ⟨[],(fun _ h=>nomatch h),rfl⟩)
theorem RowIn.po(M:Mach H m ts n){Ls:List Lv}(R:RowOf ts n fam Ls){row:Nsq}(ri:RowIn Ls row)(i:Nat)(L:Lv)(p:Nat×Nat)(e1:Ls[i]? =some L)(e2:(a1r Ls row)[i]? =some p):PairOk L p:=by
 rw[b5x e1]at e2;cases e2;exact ri.pair e1 ((R.ok L (a0E e1)).g0 M R.ff)
end
def c2p(C:Ad):Sp:=fun vs H Q _=> ∃(q h pa m:Ad) (ts:LN) (L:Lv) (here:Nsq) (p:Nat×Nat),vs=[.ref q,.ref h,.ref pa]/\StepAt C H q m ts L/\H h=some (.tup (here.map nv))/\H pa=some (.tup [nv p.1,nv p.2])/\WOk L p/\
 ∀a,H a=some (.tup ((a7p ts L here p).map nv))->Q (.ref a) H
theorem c9r{C:Ad}(F:Fun K "within" "LevelParts.within" a3k f fd)(u_LevelParts:OwnC K C ["machine","group","tiles","turns","tile_count"]):FnOk P w K mg base CX0 1 f fd ["self","here","pair"] (c2p C):=by
 refine F.ok a8f (fun vs H Q E h=>?_) (fun cdv A outer s H vs Q E hr h=>?_)
 ·obtain⟨q,h,pa,m,ts,L,here,p,rfl,_⟩:=h;rfl
 obtain⟨q,h,pa,m,ts,L,here,p,rfl,⟨dx,g,t,u,gr,h1,h2,h3,⟨as,t1,t2,t3⟩,_⟩,hh,hp,wo,k⟩:=h;have hu:=hr.units;have hu1:=a7s hr;refine⟨_,(a0d (a4l (b3e (b1e hu1 (pv 1) (a2f (pv 0) rfl))) (a0h (a0s (pv 1))) a1v) (a0h (a0s (a0w a1j (a5j hu1 (a2f (pv 0) rfl) (pv 1) (fun _ _=>rfl)) (a0w a0x (a0w a1j (a2f (pv 0) rfl) (a0w a0x (pv 2) a0l (fun _ _=>rfl)) (fun _ _=>rfl)) (a0w a0x (pv 2) a0l (fun _ _=>rfl)) (fun _ _=>rfl)) (fun _ _=>rfl))))),?_⟩;by_cases c:here∈L.c
 ·obtain⟨li,ei⟩:=a4j c;obtain⟨b,eb⟩: ∃b,as[ixl L.c here]? =some b:=⟨_,a0A (by lia)⟩;have ew:L.wds[ixl L.c here]? =some (L.wds.getD (ixl L.c here) []):=a3z (by rw[wo.wl];exact li);obtain⟨es,e1,e2⟩:=t3 _ _ _ ew eb;have dg:=b2o wo.nd t1 hh ei eb;have lg:=h3.len;obtain⟨gb,egb⟩: ∃gb,gr[p.1]? =some gb:=⟨_,a0A (by rw[lg];exact wo.g1)⟩;have hgb:=h3.is p.1 gb _ egb (a3z wo.g1);have et:(tl ts L.us (L.wds.getD (ixl L.c here) []))[a4y L p]? =some (a7p ts L here p):=by
   unfold a7p;rw[wB c];exact a3z (by unfold tl;rw[List.length_map];exact wo.g3)
  obtain⟨r,er⟩: ∃r,es[a4y L p]? =some r:=⟨_,a0A (by rw[e2.len];exact(a0B.mp et).1)⟩;refine⟨_,rfl,_,rfl,q,C,dx,_,_,rfl,h1,u_LevelParts.cl,u_LevelParts.no,b8h,t,_,rfl,dg,_,rfl,a9l ?_⟩;refine⟨_,rfl,q,C,dx,_,_,rfl,h1,u_LevelParts.cl,u_LevelParts.no,b8h,_,rfl,t,_,rfl,dg,_,rfl,q,C,dx,_,_,rfl,h1,u_LevelParts.cl,u_LevelParts.no,c0g,_,rfl,pa,_,_,_,rfl,rfl,SqT.of hp,rfl,g,_,_,_,rfl,rfl,SqL.of h2,a1x (j:=p.1) (v:= .ref gb) (by rw[a0F,egb];rfl),_,rfl,pa,_,_,_,rfl,rfl,SqT.of hp,rfl,gb,_,_,_,rfl,rfl,SqT.of hgb,b2x wo.g2,b,_,_,_,rfl,rfl,SqL.of e1,a1x (j:=a4y L p) (v:= .ref r) (by rw[a0F,er];rfl),?_⟩;exact k r (e2.is _ r _ er et)
 ·have dg:=b5u t1 hh c;refine⟨_,rfl,_,rfl,q,C,dx,_,_,rfl,h1,u_LevelParts.cl,u_LevelParts.no,b8h,t,_,rfl,dg,_,rfl,b1c ?_⟩;refine⟨_,rfl,k h ?_⟩;unfold a7p;rw[wA c];exact hh
structure PairsAt(H:Hp)(as:As)(ps:List (Nat×Nat)):Prop where
 len:as.length=ps.length
 is: ∀(i:Nat) (a:Ad) (p:Nat×Nat),as[i]? =some a->ps[i]? =some p->H a=some (.tup [nv p.1,nv p.2])
theorem PairsAt.st{f:HO->Bool}{H H':Hp}{as:As}{ps:List (Nat×Nat)}(h:PairsAt H as ps)(g:Stays f H H')(f2: ∀xs,f (.tup xs)=false:=by intro;rfl):PairsAt H' as ps:=⟨h.len,fun i a p e1 e2=>g _ _ (f2 _) (h.is i a p e1 e2)⟩
theorem PairsAt.snoc{H:Hp}{as:As}{ps:List (Nat×Nat)}{a:Ad}{p:Nat×Nat}(h:PairsAt H as ps)(e:H a=some (.tup [nv p.1,nv p.2])):PairsAt H (as++[a]) (ps++[p]):=by
 refine⟨by rw[a0L,a0L,h.len];rfl,fun i a' p' e1 e2=>?_⟩;refine a6r (P:=fun i a'=> ∀p',(ps++[p])[i]? =some p'->H a'=some (.tup [nv p'.1,nv p'.2])) (fun i a' e1 p' e2=>?_) (fun p' e2=>?_) i a' e1 p' e2
 ·rw[a0N (by rw[<-h.len];exact(a0B.mp e1).1)]at e2;exact h.is i a' p' e1 e2
 ·rw[h.len,a0M (a0K _),a5D]at e2;cases e2;exact e
def b5z(CL CR:Ad):Sp:=fun vs H Q _=> ∃(p ra m:Ad) (ts:LN) (n:Nat) (Ls:List Lv) (row:Nsq),vs=[.ref p,.ref ra]/\RowAt CL CR H p m ts n Ls/\Ls.length<=32/\H ra=some (.tup (row.map nv))/\row.length=(a0q Ls).length/\
 ∀l as H',Same H H'->H l=none->H' l=some (.lst (as.map .ref))->PairsAt H' as (a1r Ls row)->Q (.ref l) H'
theorem c9s{CL CR:Ad}(F:Fun K "paired" "Row.paired" a9d f fd)(u_LevelParts:OwnC K CL ["machine","group","tiles","turns","tile_count"])(u_Row:OwnC K CR ["rooms","steps"])(jA:a2h P w K mg base CL "is_turning" 1 ["self"] (d3c CL)):FnOk P w K mg base CX0 3 f fd ["self","row"] (b5z CL CR):=by
 refine F.ok jR (fun vs H Q E h=>?_) (fun cdv A outer s H vs Q E hr h=>?_)
 ·obtain⟨p,ra,m,ts,n,Ls,row,rfl,_⟩:=h;rfl
 obtain⟨p,ra,m,ts,n,Ls,row,rfl,⟨dx,r,st,qs,h1,h2,h3,S⟩,few,hra,lr,q⟩:=h;have hu:=hr.units;refine⟨_,(a0d (a0p (i:=2) jR.nd rfl (Or.inl rfl) (a2t a0i)) (a0d (a0p (i:=3) jR.nd rfl (Or.inl rfl) a0l) (a0d (a3o a2J rfl (a2a (a2f (pv 0) rfl)) (a1c (i:=4) jR.nd rfl (Or.inl rfl)) (a0d (a0p (i:=5) jR.nd rfl (Or.inl rfl) a0l) (a0d (c1a (a4l (b3f (a5e (pv 4) u_LevelParts.cl jA hr.m)) (a0d (a0p (i:=5) jR.nd rfl (Or.inl rfl) (a0w a0x (pv 1) (pv 3) (fun _ _=>rfl))) (a0h (d3k (i:=3) jR.nd rfl (Or.inl rfl) a0l d3l))) a1v)) (a0d (a3f (a6z a1P a2D a2E a2b (pv 2) (a0g (a4o (a0v (a0b (pv 5) (a0b (a0w a0x (pv 1) (pv 3) (fun _ _=>rfl)) a0o rfl) rfl))) a0i))) (a0h (d3k (i:=3) jR.nd rfl (Or.inl rfl) a0l d3l)))))) (a0h (a0s (pv 2)))))),?_⟩;refine⟨by show 0<=sizeLine;decide,fun fo hfo=>?_⟩;have k0:=a0c hfo (.lst []);have lq:=S.len
 let Pv:Nat->L2.St->Hp->Prop:=fun i σ H'=>Same H H'/\ ∃(as:As) (o4 o5:Option V),H' fo=some (.lst (as.map .ref))/\PairsAt H' as (a3u Ls row i)/\σ=[some (.ref p),some (.ref ra),some (.ref fo),some (nv (plc Ls i)),o4,o5]
 refine⟨_,rfl,p,CR,dx,_,_,rfl,k0 _ _ h1,u_Row.cl,u_Row.no,b8i,st,rfl,⟨_,SqL.of (k0 _ _ h3)⟩,a4n (xs:=qs.map .ref) Pv ⟨k0,[],_,_,a0a,⟨rfl,fun i a p e=>by simp at e⟩,rfl⟩ (fun i σ H' _ p=>SqL.of (p.1 _ _ h3)) (fun i v σ H1 hv pv=>?_) (fun σ H1 pv=>?_)⟩
 ·obtain⟨g1,as,o4,o5,ef,PA1,rfl⟩:=pv;rw[a0F]at hv;obtain⟨b,eb,rfl⟩:=a0O.mp hv;have li:=(a0B.mp eb).1;obtain⟨L,eL⟩: ∃L,Ls[i]? =some L:=⟨_,a0A (by lia)⟩;have SA:=(S.is i b L eb eL).keeps g1.keeps;obtain⟨dxl,g,t,u,gr,s1,s2,s3,s4⟩:=id SA;have pl:=d4m eL;have pn:=c2o eL;have la:=PA1.len;rw[a1k (by lia)]at la;refine⟨fun σ' H'=>H'=H1/\σ'=[some (.ref p),some (.ref ra),some (.ref fo),some (nv (plc Ls i+if 1<L.gs.length then 1 else 0)),some (.ref b),some (nv (a1y Ls row i L).1)],⟨_,rfl,b,dxl,_,rfl,s1,(by kernel_rfl),b,m,ts,L,rfl,SA,_,rfl,c5v (fun c=>?_) (fun c=>?_)⟩,fun σ' H' z=>?_⟩
  ·have c1:1<L.gs.length:=a1V c;rw[wB c1]at pl⊢;refine⟨_,rfl,_,rfl,ra,_,_,_,rfl,rfl,SqT.of (g1 _ _ hra),b2x (k:=plc Ls i) (by lia),?_⟩;unfold a1y;rw[wB c1];exact⟨_,rfl,_,_,rfl,rfl,rfl,rfl⟩
  ·have c1: ¬1<L.gs.length:=a7U (a5S.mpr c);rw[wA c1]at pl⊢;unfold a1y;rw[wA c1];exact⟨rfl,rfl⟩
  ·obtain⟨rfl,rfl⟩:=z;have lr2:plc Ls i+(if 1<L.gs.length then 1 else 0)<row.length:=by rw[lr];exact pl
   refine⟨_,rfl,.inl ⟨rfl,_,SqL.of ef⟩,_,rfl,_,rfl,_,rfl,ra,_,_,_,rfl,rfl,SqT.of (g1 _ _ hra),b2x lr2,by show 2<=sizeLine;decide,fun tp htp=>?_⟩;have e2:(a1y Ls row i L).2=row.getD (plc Ls i+if 1<L.gs.length then 1 else 0) 0:=by
    unfold a1y;by_cases c:1<L.gs.length
    ·rw[wB c,wB c]
    ·rw[wA c,wA c];rfl
   rw[<-e2];have kt:=a0c htp (.tup [nv (a1y Ls row i L).1,nv (a1y Ls row i L).2]);refine⟨fo,_,_,rfl,rfl,kt _ _ ef,by rw[a0C,a0Y];lia,_,rfl,_,_,rfl,rfl,?_⟩;have lo:d9z (upd H' tp (.tup [nv (a1y Ls row i L).1,nv (a1y Ls row i L).2])) (upd (upd H' tp (.tup [nv (a1y Ls row i L).1,nv (a1y Ls row i L).2])) fo (.lst (as.map V.ref++[.ref tp]))):=Stays.offL (kt _ _ ef);refine⟨a1e (g1.trans kt) hfo,as++[tp],some (.ref b),some (nv (a1y Ls row i L).1),by rw[a0a,a1B];rfl,?_,?_⟩
   ·rw[a3n eL];exact((PA1.st (a2g kt)).st lo).snoc (lo.a a0a)
   ·rw[pn];by_cases c:1<L.gs.length
    ·rw[wB c,wB c];rfl
    ·rw[wA c,wA c];rfl
 ·obtain⟨g1,as,o4,o5,ef,PA1,rfl⟩:=pv;rw[a0C,lq]at PA1;exact⟨_,rfl,q fo as H1 g1 hfo ef PA1⟩
def d7a(Ls:List Lv)(i:Nat)(x:Nsq):Prop:= ∀(j:Nat) (L:Lv),j<i->Ls[j]? =some L->x∉L.c
section
variable{H:Hp}{m:Ad}{ts:LN}{n:Nat}{fam:LN}{Ls:List Lv}
theorem RowOf.due(M:Mach H m ts n)(R:RowOf ts n fam Ls){i:Nat}{L:Lv}(e:Ls[i]? =some L):Due ts ((Ls.map (·.c)).drop i) L.c:=by
 refine d6w R.od (a7e ts _) (d9t R.ff) (fun c hc d hd r=>?_) i L.c (by rw[a0F,e];rfl);exact b5t M (R.ff.inU M (a0S.mp (a0r hc).2.2.1).1) r
theorem RowOf.in_drop{i j:Nat}{L:Lv}(h:i<=j)(e:Ls[j]? =some L):L.c∈(Ls.map (·.c)).drop i:=by
 refine a0E (i:=j-i) ?_;rw[a5E,a0F,show i+(j-i)=j by lia,e];rfl
theorem RowOf.len_le(M:Mach H m ts n)(R:RowOf ts n fam Ls){i j:Nat}{L L':Lv}(h:i<=j)(e:Ls[i]? =some L)(e':Ls[j]? =some L'){x y:Nsq}(hx:x∈L.c)(hy:y∈L'.c):y.length<=x.length:=by
 rw[b8g M R.ff (R.ok L (a0E e)).p.cls hx,b8g M R.ff (R.ok L' (a0E e')).p.cls hy];exact(R.due M e).most _ (RowOf.in_drop h e')
theorem b8m(M:Mach H m ts n)(R:RowOf ts n fam Ls){i:Nat}{L:Lv}(e:Ls[i]? =some L){here:Nsq}(hf:here∈fam)(pa:d7a Ls i here){p:Nat×Nat}(po:PairOk L p):d7a Ls (i+1) (a7p ts L here p):=by
 by_cases c:here∈L.c
 ·have ok:=R.ok L (a0E e);obtain⟨t1,t2,t3,_⟩:=(a3y M R.ff).mp (ok.wthn_in M R.ff c po);have lt:=d9v (R.ff.inU M hf) (R.ff.inU M t1) t3 t2;intro j L' hj e' hx;have:=R.len_le M (show j<=i by lia) e' e hx c;lia
 ·have ew:a7p ts L here p=here:=by unfold a7p;rw[wA c]
  rw[ew];intro j L' hj e' hx;by_cases z:j=i
  ·subst z;rw[e]at e';cases e';exact c hx
  ·exact pa j L' (by lia) e' hx
def a2x(ts:LN)(L:Lv)(here:Nsq):LN:=tl ts L.us (L.wds.getD (ixl L.c here) [])
theorem LvOk.tls_iff(M:Mach H m ts n)(ff:FamOf ts n fam){L:Lv}(ok:LvOk ts fam L){here:Nsq}(c:here∈L.c)(y:Nsq):y∈a2x ts L here↔y∈a2d fam here:=by
 obtain⟨li,ei⟩:=a4j c;exact d2x M ff ok.p ei (a3z (by rw[ok.p.len];exact li)) y
theorem b6a{L:Lv}{here:Nsq}(c:here∈L.c)(p:Nat×Nat):a7p ts L here p=(a2x ts L here).getD (a4y L p) []:=by
 unfold a7p;rw[wB c];rfl
theorem a9i{L:Lv}{here:Nsq}:(a2x ts L here).length=L.us.length:=by unfold a2x tl;rw[List.length_map]
def a3w(tls:LN)(rooms:Nsq):Nat:=(tls.map (sub rooms)).idxOf true
theorem c2q{tls:LN}{rooms:Nsq}(h: ∃t∈tls,sub rooms t=true):true∈tls.map (sub rooms)/\a3w tls rooms<tls.length/\sub rooms (tls.getD (a3w tls rooms) [])=true:=by
 obtain⟨t,ht,st⟩:=h;have m1:true∈tls.map (sub rooms):=a0R.mpr ⟨t,ht,st⟩;have l1:a3w tls rooms<(tls.map (sub rooms)).length:=a4N.mpr m1;have l2:a3w tls rooms<tls.length:=by rw[a0C]at l1;exact l1
 have z:(tls.map (sub rooms))[a3w tls rooms]? =some true:=by rw[a0A l1];exact a1W some (a7V l1)
 refine⟨m1,l2,?_⟩;rw[a0F,a0A l2]at z;rw[a0I,a0A l2];exact a1X z
theorem LvOk.has_tile(M:Mach H m ts n)(ff:FamOf ts n fam){L:Lv}(ok:LvOk ts fam L){here u:Nsq}(c:here∈L.c)(hu:u∈fam)(ne:u≠here)(s:sub u here=true): ∃t∈a2x ts L here,sub u t=true:=by
 obtain⟨t,ht,st⟩:=(a3d M ff here).all u hu ne s;exact⟨t,(ok.tls_iff M ff c t).mpr ht,st⟩
theorem LvOk.big_len{L:Lv}(ok:LvOk ts fam L){here:Nsq}(c:here∈L.c):1<here.length/\here∈fam:=by
 obtain⟨h1,h2⟩:=a0S.mp ((a0r ok.p.cls).2.2.2 here c).1;exact⟨a1V h2,h1⟩
end
structure Al(ps:List (Bool×Nat×Nat))(rs:Nsq):Prop where
 len:rs.length=ps.length
 lt: ∀(j:Nat) (p:Bool×Nat×Nat) (r:Nat),ps[j]? =some p->rs[j]? =some r->r<p.2.2
theorem Al.app{ps ps':List (Bool×Nat×Nat)}{rs rs':Nsq}(h:Al ps rs)(h':Al ps' rs'):Al (ps++ps') (rs++rs'):=by
 refine⟨by rw[a0L,a0L,h.len,h'.len],fun j p r e1 e2=>?_⟩;by_cases c:j<ps.length
 ·rw[a0N c]at e1;rw[a0N (by rw[h.len];exact c)]at e2;exact h.lt j p r e1 e2
 ·rw[a0M (by lia)]at e1;rw[a0M (by rw[h.len];lia),h.len]at e2;exact h'.lt _ p r e1 e2
theorem Al.one{p:Bool×Nat×Nat}{r:Nat}(h:r<p.2.2):Al [p] [r]:=⟨rfl,fun j p' r' e1 e2=>by
 cases j with
 |zero=>cases e1;cases e2;exact h
 |succ j=>cases e1⟩
def c4p(L:Lv)(p:Nat×Nat):Nsq:=(if 1<L.gs.length then[p.1]else[])++[p.2]
def a8q(Ls:List Lv)(prs:List (Nat×Nat)):Nat->List Nat
 |0=>[]
 |i+1=>a8q Ls prs i++(match Ls[i]?,prs[i]? with|some L,some p=>c4p L p|_,_=>[])
def c9t(Ls:List Lv)(prs:List (Nat×Nat)):Nsq:=a8q Ls prs Ls.length
theorem b0r{Ls:List Lv}{prs:List (Nat×Nat)}{i:Nat}{L:Lv}{p:Nat×Nat}(e1:Ls[i]? =some L)(e2:prs[i]? =some p):a8q Ls prs (i+1)=a8q Ls prs i++c4p L p:=by
 show a8q Ls prs i++_=_;rw[e1,e2]
theorem d7b{i:Nat}{L:Lv}{p:Nat×Nat}(po:PairOk L p):Al (a5y i L) (c4p L p):=by
 unfold a5y c4p;refine Al.app ?_ (Al.one po.t);by_cases c:1<L.gs.length
 ·rw[wB c,wB c];exact Al.one po.g
 ·rw[wA c,wA c];exact⟨rfl,fun j p r e=>by simp at e⟩
theorem c2r{Ls:List Lv}{prs:List (Nat×Nat)}(hl:prs.length=Ls.length)(po: ∀(i:Nat) (L:Lv) (p:Nat×Nat),Ls[i]? =some L->prs[i]? =some p->PairOk L p): ∀i,i<=Ls.length->Al (a1o Ls i) (a8q Ls prs i)
 |0,_=>⟨rfl,fun j p r e=>by simp[a1o]at e⟩
 |i+1,h=>by
  have e1:=a0A (show i<Ls.length from h);have e2:=a0A (show i<prs.length by lia);rw[a5i e1,b0r e1 e2];exact(c2r hl po i (a1S h)).app (d7b (po i _ _ e1 e2))
theorem e0a{Ls:List Lv}{prs:List (Nat×Nat)}(hl:prs.length=Ls.length)(po: ∀(i:Nat) (L:Lv) (p:Nat×Nat),Ls[i]? =some L->prs[i]? =some p->PairOk L p):RowIn Ls (c9t Ls prs):=let z:=c2r hl po Ls.length (a0K _);⟨z.len,z.lt⟩
theorem b8n{Ls:List Lv}{prs:List (Nat×Nat)}(hl:prs.length=Ls.length): ∀i,i<=Ls.length->(a8q Ls prs i).length=plc Ls i
 |0,_=>rfl
 | i+1,h=>by
  have e1:=a0A (show i<Ls.length from h);have e2:=a0A (show i<prs.length by lia);rw[b0r e1 e2,a0L,b8n hl i (a1S h),c2o e1];unfold c4p;by_cases c:1<(Ls[i]'h).gs.length
  ·rw[wB c,wB c];rfl
  ·rw[wA c,wA c];rfl
theorem c0j{H:Hp}{m:Ad}{ts:LN}{n:Nat}(M:Mach H m ts n){x:Nsq}(h:x∈a1n n):x.length<=5:=a1C (a4i M.n5 h) M.n5
def c9u(C:Ad):Sp:=fun vs H Q _=> ∃(q h ra m:Ad) (ts:LN) (L:Lv) (here rooms:Nsq),vs=[.ref q,.ref h,.ref ra]/\StepAt C H q m ts L/\H h=some (.tup (here.map nv))/\H ra=some (.tup (rooms.map nv))/\here∈L.c/\L.c.Nodup/\L.wds.length=L.c.length/\L.us.length<=32/\rooms.length<=5/\(∃t∈a2x ts L here,sub rooms t=true)/\
 ∀H',Same H H'->Q (nv (a3w (a2x ts L here) rooms)) H'
def b4c(CL CR:Ad):Sp:=fun vs H Q _=> ∃(p l m:Ad) (as:As) (ts:LN) (n:Nat) (Ls:List Lv) (prs:List (Nat×Nat)),vs=[.ref p,.ref l]/\RowAt CL CR H p m ts n Ls/\Ls.length<=32/\H l=some (.lst (as.map .ref))/\PairsAt H as prs/\prs.length=Ls.length/\
 ∀t H',Same H H'->H' t=some (.tup ((c9t Ls prs).map nv))->Q (.ref t) H'
theorem b6b{C:Ad}(F:Fun K "least_tile" "LevelParts.least_tile" a1t f fd)(u_LevelParts:OwnC K C ["machine","group","tiles","turns","tile_count"])(jU:a0u P w K mg base "lies_in" 1 ["one","other"] d2p):FnOk P w K mg base CX0 3 f fd ["self","here","rooms"] (c9u C):=by
 refine F.ok a6o (fun vs H Q E h=>?_) (fun cdv A outer s H vs Q E hr h=>?_)
 ·obtain⟨q,h,ra,m,ts,L,here,rooms,rfl,_⟩:=h;rfl
 obtain⟨q,h,ra,m,ts,L,here,rooms,rfl,⟨dx,g,t,u,gr,h1,h2,h3,⟨as,t1,t2,t3⟩,_⟩,hh,hra,c,nd,wl,few,r5,ex,k⟩:=h;have hu:=hr.units;have hu1:=a7s hr;refine⟨_,(a0h (a0s (a6z a1P a6A a6B c8k (a1m (CompSc.to (N:=["self","here","rooms"]) (osc:=a0e a1t) (vs:=["part"]) {}) rfl rfl (a2a (a5j hu1 (a2f (pv 0) rfl) (pv 1) (fun _ _=>rfl))) (fun _ _ _ _=>a2q) (fun _ _ _ _=>(a0m jU hr.m rfl (a0v (a0b (pv 3) (a0b (pv 0) a0o rfl) rfl))))) (a0g c4z a0i)))),?_⟩;obtain⟨li,ei⟩:=a4j c;obtain⟨b,eb⟩: ∃b,as[ixl L.c here]? =some b:=⟨_,a0A (by lia)⟩;have ew:L.wds[ixl L.c here]? =some (L.wds.getD (ixl L.c here) []):=a3z (by rw[wl];exact li);obtain⟨es,e1,e2⟩:=t3 _ _ _ ew eb;have dg:=b2o nd t1 hh ei eb;have le:=e2.len;have lt:(a2x ts L here).length=L.us.length:=a9i;have le2:es.length=L.us.length:=by rw[le];exact lt
 refine⟨_,rfl,q,C,dx,_,_,rfl,h1,u_LevelParts.cl,u_LevelParts.no,b8h,_,rfl,t,_,rfl,dg,b,rfl,⟨_,SqL.of e1⟩,a2j (xs:=es.map .ref) (fun i ys H'=>Same H H'/\ys=(((a2x ts L here).take i).map (sub rooms)).map V.bl) (by rw[a0C];exact small (by lia)) ⟨Same.refl _,rfl⟩ (fun i ys H' _ p=>?_) (fun i v ys H' hv p=>?_) (fun ys H' p sg hsg=>?_)⟩
 ·obtain⟨g,rfl⟩:=p;refine⟨SqL.of (g _ _ e1),?_⟩;rw[a0C,a0C,a0W];exact Nat.min_le_left _ _
 ·obtain⟨g,rfl⟩:=p;rw[a0F]at hv;obtain⟨d,ed,rfl⟩:=a0O.mp hv;obtain⟨u,eu⟩: ∃u,(a2x ts L here)[i]? =some u:=⟨_,a0A (by rw[lt,<-le2];exact(a0B.mp ed).1)⟩;refine⟨a1l,a4r ⟨_,rfl,_,rfl,ra,d,rooms,u,rfl,g _ _ hra,g _ _ (e2.is i d u ed eu),r5,fun H2 g2=>⟨g.trans g2,?_⟩⟩⟩;rw[a2L,eu,a1B,a1B];rfl
 ·obtain⟨g,rfl⟩:=p;rw[a0C,le2,<-lt,a2B];obtain⟨m1,_,_⟩:=c2q ex;have ks:=a0c hsg (.lst (((a2x ts L here).map (sub rooms)).map V.bl));refine⟨.inl ⟨rfl,_,SqL.of a0a⟩,sg,_,rfl,rfl,SqL.of a0a,m1,k _ (g.trans ks)⟩
theorem c0k{CL CR:Ad}(F:Fun K "unpaired" "Row.unpaired" a6m f fd)(u_LevelParts:OwnC K CL ["machine","group","tiles","turns","tile_count"])(u_Row:OwnC K CR ["rooms","steps"])(jA:a2h P w K mg base CL "is_turning" 1 ["self"] (d3c CL))(qY:mg "zip"=none)(jE:mg "tuple"=none):FnOk P w K mg base CX0 3 f fd ["self","pairs"] (b4c CL CR):=by
 refine F.ok kM (fun vs H Q E h=>?_) (fun cdv A outer s H vs Q E hr h=>?_)
 ·obtain⟨p,l,m,as,ts,n,Ls,prs,rfl,_⟩:=h;rfl
 obtain⟨p,l,m,as,ts,n,Ls,prs,rfl,⟨dx,r,st,qs,h1,h2,h3,S⟩,few,el,PA,lp,q⟩:=h;have hu:=hr.units;have lq:=S.len;have la:=PA.len;refine⟨_,(a0d (a0p (i:=2) kM.nd rfl (Or.inl rfl) (a2t a0i)) (a0d (a3o a2J rfl (c8e rfl qY (a0v (a0b (a2f (pv 0) rfl) (a0b (pv 1) a0o rfl) rfl))) (b3h rfl (a2m (a1c (i:=3) kM.nd rfl (Or.inl rfl)) (a2m (a1c (i:=4) kM.nd rfl (Or.inl rfl)) a8u))) (a0d (c1a (a4l (b3f (a5e (pv 3) u_LevelParts.cl jA hr.m)) (a0h (a3f (a6z a1P a2D a2E a2b (pv 2) (a0g (a0w a0x (pv 4) a0l (fun _ _=>rfl)) a0i)))) a1v)) (a0h (a3f (a6z a1P a2D a2E a2b (pv 2) (a0g (a0w a0x (pv 4) a0l (fun _ _=>rfl)) a0i)))))) (a0h (a0s (a1i a1d rfl jE a6V (a0g (pv 2) a0i)))))),?_⟩;refine⟨by show 0<=sizeLine;decide,fun fo hfo=>?_⟩;have k0:=a0c hfo (.lst [])
 let Pv:Nat->L2.St->Hp->Prop:=fun i σ H'=>Same H H'/\ ∃(o3 o4:Option V),H' fo=some (.lst ((a8q Ls prs i).map nv))/\(a8q Ls prs i).length<=2 * i/\σ=[some (.ref p),some (.ref l),some (.ref fo),o3,o4]
 refine⟨_,rfl,p,CR,dx,_,_,rfl,k0 _ _ h1,u_Row.cl,u_Row.no,b8i,_,rfl,st,l,_,_,rfl,SqL.of (k0 _ _ h3),SqL.of (k0 _ _ el),c1w (xs:=qs.map .ref) (ys:=as.map .ref) Pv ⟨k0,_,_,a0a,a0K _,rfl⟩ (fun i σ H' p=>⟨SqL.of (p.1 _ _ h3),SqL.of (p.1 _ _ el)⟩) (fun i x y Tp σ H1 hx hy nT pv=>?_) (fun σ H1 pv=>?_)⟩
 ·obtain⟨g1,o3,o4,ef,l2,rfl⟩:=pv;rw[a0F]at hx hy;obtain⟨b,eb,rfl⟩:=a0O.mp hx;obtain⟨pa,epa,rfl⟩:=a0O.mp hy;have li:=(a0B.mp eb).1;obtain⟨L,eL⟩: ∃L,Ls[i]? =some L:=⟨_,a0A (by lia)⟩;obtain⟨pr,epr⟩: ∃pr,prs[i]? =some pr:=⟨_,a0A (by lia)⟩;have kT:=a0c nT (.tup [.ref b,.ref pa]);have eT:upd H1 Tp (.tup [.ref b,.ref pa]) Tp=some (.tup [.ref b,.ref pa]):=a0a;generalize upd H1 Tp (.tup [.ref b,.ref pa])=H2 at kT eT⊢;have g2:=g1.trans kT;have f2:=kT _ _ ef;have SA:=(S.is i b L eb eL).keeps g2.keeps;obtain⟨dxl,g,t,u,gr,s1,s2⟩:=id SA;have hpa:=g2 _ _ (PA.is i pa pr epa epr);refine⟨Tp,_,rfl,SqT.of eT,rfl,_,_,rfl,_,_,rfl,rfl,?_⟩;refine⟨fun σ' H'=>Same H H'/\H' fo=some (.lst ((a8q Ls prs i++(if 1<L.gs.length then[pr.1]else[])).map nv))/\σ'=[some (.ref p),some (.ref l),some (.ref fo),some (.ref b),some (.ref pa)],⟨_,rfl,b,dxl,_,rfl,s1,(by kernel_rfl),b,m,ts,L,rfl,SA,_,rfl,c5v (fun c=>?_) (fun c=>?_)⟩,fun σ' H' z=>?_⟩
  ·have c1:1<L.gs.length:=a1V c;rw[wB c1];refine⟨_,rfl,.inl ⟨rfl,_,SqL.of f2⟩,_,rfl,pa,_,_,_,rfl,rfl,SqT.of hpa,rfl,fo,_,_,rfl,rfl,f2,by rw[a0C,a0Y];lia,?_⟩;exact⟨a1e g2 hfo,by rw[a0a,a1B];rfl,rfl⟩
  ·have c1: ¬1<L.gs.length:=a7U (a5S.mpr c);rw[wA c1,a2I];exact⟨g2,f2,rfl⟩
  ·obtain⟨g3,f3,rfl⟩:=z;have hpa3:=g3 _ _ (PA.is i pa pr epa epr);have l3:(a8q Ls prs i++(if 1<L.gs.length then[pr.1]else[])).length<=2 * i+1:=by
    rw[a0L];by_cases h:1<L.gs.length
    ·rw[wB h];exact Nat.add_le_add_right l2 1
    ·rw[wA h];exact a1C l2 (a7E _)
   refine⟨_,rfl,.inl ⟨rfl,_,SqL.of f3⟩,_,rfl,pa,_,_,_,rfl,rfl,SqT.of hpa3,rfl,fo,_,_,rfl,rfl,f3,by rw[a0C,a0Y];lia,?_⟩;have eu:a8q Ls prs (i+1)=a8q Ls prs i++(if 1<L.gs.length then[pr.1]else[])++[pr.2]:=by rw[b0r eL epr,a1G];rfl
   refine⟨a1e g3 hfo,_,_,by rw[a0a,eu,a1B (l₂:=[pr.2])];rfl,?_,rfl⟩;rw[eu,a0L];exact a1C (Nat.add_le_add_right l3 1) (by lia)
 ·obtain⟨g1,o3,o4,ef,l2,rfl⟩:=pv;have lm:min (qs.map V.ref).length (as.map V.ref).length=Ls.length:=by rw[a0C,a0C,lq,la,lp,a9T]
  rw[lm]at ef;refine⟨_,rfl,fo,_,rfl,.inl ⟨SqL.of ef,fun t ht=>?_⟩⟩;exact q t _ (g1.trans (a0c ht _)) a0a
def trn(ts:LN)(L:Lv)(here:Nsq)(l:Nat):Nsq:=(a2x ts L here).map fun u=>ixl (a2x ts L (a0k ts here l)) (a0k ts u l)
def a6x(ts:LN)(L:Lv)(here there:Nsq)(l:Nat):Nsq×Option Nat:=
 if there∈L.c then(if here∈L.c/\a0k ts here l=there then(trn ts L here l,none)else(List.range L.us.length,some (a3w (a2x ts L there) (a0k ts here l))))else(List.range L.us.length,none)
def a5t(L:Lv)(d:Nsq×Option Nat)(a:Nat):Nat:=L.gs.idxOf (beh (L.gs.getD a []) d.1)
def a8r(L:Lv)(d:Nsq×Option Nat)(a b:Nat):Nat:=match d.2 with
 |none=>b
 |some j=>(L.gs.getD a []).idxOf j
def b6i(L:Lv)(d:Nsq×Option Nat)(p:Nat×Nat):Nat×Nat:=(a5t L d p.1,a8r L d p.1 p.2)
section
variable{H:Hp}{m:Ad}{ts:LN}{n:Nat}{fam:LN}{Ls:List Lv}{L:Lv}
theorem l1w{l:Nat}(hl:l<ts.length): ∀z∈[l],z<ts.length:=fun z hz=>by rw[a0J.mp hz];exact hl
theorem LvOk.tls_nd(M:Mach H m ts n)(ff:FamOf ts n fam)(ok:LvOk ts fam L){here:Nsq}(c:here∈L.c):(a2x ts L here).Nodup:=by
 obtain⟨li,ei⟩:=a4j c;obtain⟨p,bj⟩:=ok.p.bij M ff ei (a3z (by rw[ok.p.len];exact li));unfold a2x tl;rw[List.Nodup,a5Q];refine a7L (fun {a b} ha hb ne e=>ne ?_) (a8p M ff ok.p);rw[ok.p.tl]at ha hb;obtain⟨a1,_,a3,_⟩:=(a3y M ff).mp ha;obtain⟨b1,_,b3,_⟩:=(a3y M ff).mp hb;rw[<-bj.back M (ff.inU M a1) a3,<-bj.back M (ff.inU M b1) b3,e]
theorem b8o{here:Nsq}{j:Nat}{u:Nsq}(e:L.us[j]? =some u):(a2x ts L here)[j]? =some (a2l (a0k ts) u (L.wds.getD (ixl L.c here) [])):=by
 unfold a2x tl;rw[a0F,e];rfl
theorem LvOk.trn_eq(M:Mach H m ts n)(ff:FamOf ts n fam)(ok:LvOk ts fam L){here:Nsq}{l:Nat}(ct:a0k ts here l∈L.c){js:Nsq}(tb:a1u ts L.us (L.wds.getD (ixl L.c here) []) (L.wds.getD (ixl L.c (a0k ts here l)) []) l js):js=trn ts L here l:=by
 obtain⟨t1,t2⟩:=tb;refine a3S fun j=>?_;by_cases hj:j<L.us.length
 ·have eu:=a0A hj;have ej:=a0A (show j<js.length by lia);obtain⟨u',e1,e2⟩:=t2 j _ _ eu ej;unfold trn;rw[a0F,b8o eu,ej];exact a1W some (c2l (ok.tls_nd M ff ct) (j:=js[j]) (by rw[b8o e1,e2])).symm
 ·have l2:(trn ts L here l).length=L.us.length:=by unfold trn;rw[List.length_map,a9i]
  rw[a1O (by lia),a1O (by lia)]
theorem LvOk.trn_by(M:Mach H m ts n)(ff:FamOf ts n fam)(ok:LvOk ts fam L){here:Nsq}{l:Nat}(hl:l<ts.length)(ch:here∈L.c)(ct:a0k ts here l∈L.c):a1u ts L.us (L.wds.getD (ixl L.c here) []) (L.wds.getD (ixl L.c (a0k ts here l)) []) l (trn ts L here l):=by
 obtain⟨l1,e1⟩:=a4j ch;obtain⟨l2,e2⟩:=a4j ct;have w1:=a3z (show ixl L.c here<L.wds.length by rw[ok.p.len];exact l1);have w2:=a3z (show ixl L.c (a0k ts here l)<L.wds.length by rw[ok.p.len];exact l2);refine⟨by unfold trn;rw[List.length_map,a9i],fun j u j' eu ej=>?_⟩;unfold trn at ej;rw[a0F,b8o eu]at ej;have ej:ixl (a2x ts L (a0k ts here l)) (a0k ts (a2l (a0k ts) u (L.wds.getD (ixl L.c here) [])) l)=j':=a1X ej;have mi:a0k ts (a2l (a0k ts) u (L.wds.getD (ixl L.c here) [])) l∈a2x ts L (a0k ts here l):=b8d M ff ok.p e1 w1 hl e2 w2 (a0E eu);obtain⟨x1,x2⟩:=a4j mi;rw[ej]at x2;unfold a2x tl at x2;rw[a0F]at x2;obtain⟨u',y1,y2⟩:=a0O.mp x2;exact⟨u',y1,y2⟩
theorem LvOk.trn_gs(M:Mach H m ts n)(ff:FamOf ts n fam)(ok:LvOk ts fam L){here:Nsq}{l:Nat}(hl:l<ts.length)(ch:here∈L.c)(ct:a0k ts here l∈L.c){g:Nsq}(hg:g∈L.gs):beh g (trn ts L here l)∈L.gs:=by
 obtain⟨l1,e1⟩:=a4j ch;obtain⟨l2,e2⟩:=a4j ct;exact(ok.g.mem _).mpr (.step ((ok.g.mem g).mp hg) ⟨_,l,_,here,_,_,e1,a3z (by rw[ok.p.len];exact l1),hl,e2,a3z (by rw[ok.p.len];exact l2),ok.trn_by M ff hl ch ct⟩)
theorem c2s(M:Mach H m ts n)(ff:FamOf ts n fam){x:Nsq}(hx:x∈fam){l:Nat}(hl:l<ts.length):a0k ts x l∈fam:=c9i M ff (w:=[l]) hx (l1w hl)
theorem c9v{gs:LN}{g:Nsq}(h:g∈gs):gs.idxOf g<gs.length/\gs.getD (gs.idxOf g) []=g:=by
 have l:=a4N.mpr h;refine⟨l,?_⟩;rw[a0I,a0A l];exact a7V l
theorem d7c{gs:Nsq}{g:Nat}(h:g∈gs):gs.idxOf g<gs.length/\gs.getD (gs.idxOf g) 0=g:=by
 have l:=a4N.mpr h;refine⟨l,?_⟩;rw[a0I,a0A l];exact a7V l
theorem LvOk.still(M:Mach H m ts n)(ff:FamOf ts n fam)(ok:LvOk ts fam L){a:Nat}(h:a<L.gs.length):beh (L.gs.getD a []) (List.range L.us.length)=L.gs.getD a []:=d6y fun r hr=>a1Q.mp ((ok.pm M ff (a0E (a3z h))).mem_iff.mp hr)
theorem LvOk.idx_still(M:Mach H m ts n)(ff:FamOf ts n fam)(ok:LvOk ts fam L){a:Nat}(h:a<L.gs.length):L.gs.idxOf (beh (L.gs.getD a []) (List.range L.us.length))=a:=by
 rw[ok.still M ff h];obtain⟨l,e⟩:=c9v (a0E (a3z h));exact(a2M l ok.nd).mp ((a3z l).trans (by rw[e];exact(a3z h).symm))
theorem c4q(M:Mach H m ts n)(R:RowOf ts n fam Ls){i:Nat}(e:Ls[i]? =some L){here:Nsq}{l:Nat}(hl:l<ts.length)(hf:here∈fam)(pa:d7a Ls i here)(ct:a0k ts here l∈L.c):here∈L.c:=by
 have ok:=R.ok L (a0E e);have rc:Rch ts here (a0k ts here l):=⟨[l],l1w hl,rfl⟩;have le:=b5t M (R.ff.inU M hf) (rch_iff.mpr rc);have b1:=(ok.big_len ct).1;obtain⟨c',hc',xc⟩:=d2w (ts:=ts) (a0S.mpr ⟨hf,a1A (show 1<here.length by lia)⟩);obtain⟨L',hL,rfl⟩:=a0R.mp (c9m R.od c' hc');obtain⟨j,ej⟩:=a1F.mp hL;by_cases hji:j<i
 ·exact wC xc (pa j L' hji ej)
 ·by_cases ec:L'.c=L.c
  ·rw[<-ec];exact xc
  ·have z:=(R.due M e).free L'.c (RowOf.in_drop (by lia) ej) ec;have r1:=((a0r hc').2.2.2 here xc).2.1;have r2:=((a0r ok.p.cls).2.2.2 _ ct).2.2;rw[rch_iff.mpr ((r1.trans rc).trans r2)]at z;cases z
theorem b2r(M:Mach H m ts n)(R:RowOf ts n fam Ls){i:Nat}(e:Ls[i]? =some L){here there:Nsq}{l:Nat}(hl:l<ts.length)(hf:here∈fam)(pa:d7a Ls i here)(s:sub (a0k ts here l) there=true)(ct:there∈L.c)(no: ¬(here∈L.c/\a0k ts here l=there)): ∃t∈a2x ts L there,sub (a0k ts here l) t=true:=by
 refine(R.ok L (a0E e)).has_tile M R.ff ct (c2s M R.ff hf hl) (fun z=>no ⟨?_,z⟩) s;exact c4q M R e hl hf pa (by rw[z];exact ct)
theorem LvOk.wthn_sub(M:Mach H m ts n)(ff:FamOf ts n fam)(ok:LvOk ts fam L){here:Nsq}{p:Nat×Nat}(po:PairOk L p):sub (a7p ts L here p) here=true:=by
 by_cases c:here∈L.c
 ·exact((a3y M ff).mp (ok.wthn_in M ff c po)).2.2.1
 ·unfold a7p;rw[wA c];exact sub_iff.mpr fun r hr=>hr
theorem b0s(M:Mach H m ts n)(R:RowOf ts n fam Ls){i:Nat}(e:Ls[i]? =some L){here there:Nsq}{l:Nat}{p:Nat×Nat}(po:PairOk L p)(hl:l<ts.length)(hf:here∈fam)(pa:d7a Ls i here)(tf:there∈fam)(s:sub (a0k ts here l) there=true):
  PairOk L (b6i L (a6x ts L here there l) p)/\sub (a0k ts (a7p ts L here p) l) (a7p ts L there (b6i L (a6x ts L here there l) p))=true/\beh (L.gs.getD p.1 []) (a6x ts L here there l).1∈L.gs/\(∀j,(a6x ts L here there l).2=some j->j∈L.gs.getD p.1 []):=by
 have ok:=R.ok L (a0E e);have gp:=a3z po.g;have mg:=a0E gp;have pm:=ok.pm M R.ff mg;have gl:(L.gs.getD p.1 []).length=L.us.length:=by rw[pm.length_eq,a2A]
 have wf:=ok.wthn_fam M R.ff hf po;have mono:sub (a0k ts (a7p ts L here p) l) (a0k ts here l)=true:=a8o M (R.ff.inU M wf) (R.ff.inU M hf) (l1w hl) (ok.wthn_sub M R.ff po);by_cases ct:there∈L.c
 ·by_cases ch:here∈L.c/\a0k ts here l=there
  ·obtain⟨ch,et⟩:=ch;have ed:a6x ts L here there l=(trn ts L here l,none):=by unfold a6x;rw[wB ct,wB ⟨ch,et⟩]
   rw[ed];have ct':a0k ts here l∈L.c:=by rw[et];exact ct
   have mb:=ok.trn_gs M R.ff hl ch ct' mg;obtain⟨i1,i2⟩:=c9v mb;refine⟨⟨i1,po.t⟩,?_,mb,fun j z=>nomatch z⟩;have tix:a4y L (b6i L (trn ts L here l,none) p)=(trn ts L here l).getD (a4y L p) 0:=by
    show(L.gs.getD (L.gs.idxOf (beh (L.gs.getD p.1 []) (trn ts L here l))) []).getD p.2 0=_;rw[i2];unfold beh;rw[a0I,a0F,getD_of (by rw[gl];exact po.t)];rfl
   have w:=ok.wok M R.ff po;obtain⟨t1,t2⟩:=ok.trn_by M R.ff hl ch ct';have eu:=a3z w.g3;have ej:(trn ts L here l)[a4y L p]? =some ((trn ts L here l).getD (a4y L p) 0):=getD_of (by rw[t1];exact w.g3);obtain⟨u',y1,y2⟩:=t2 _ _ _ eu ej;have a1:a7p ts L here p=a2l (a0k ts) (L.us.getD (a4y L p) []) (L.wds.getD (ixl L.c here) []):=by rw[b6a ch,a0I,b8o eu];rfl
   have a2:a7p ts L there (b6i L (trn ts L here l,none) p)=a2l (a0k ts) u' (L.wds.getD (ixl L.c (a0k ts here l)) []):=by rw[b6a ct,tix,a0I,b8o y1,et];rfl
   rw[a1,a2,y2];exact sub_iff.mpr fun r hr=>hr
  ·have ed:a6x ts L here there l=(List.range L.us.length,some (a3w (a2x ts L there) (a0k ts here l))):=by unfold a6x;rw[wB ct,wA ch]
   rw[ed];obtain⟨_,l2,st⟩:=c2q (b2r M R e hl hf pa s ct ch);rw[a9i]at l2;have mj:a3w (a2x ts L there) (a0k ts here l)∈L.gs.getD p.1 []:=pm.mem_iff.mpr (a1Q.mpr l2);obtain⟨j1,j2⟩:=d7c mj;have e1:a5t L (List.range L.us.length,some (a3w (a2x ts L there) (a0k ts here l))) p.1=p.1:=ok.idx_still M R.ff po.g;refine⟨⟨by show a5t L _ p.1<_;rw[e1];exact po.g,by rw[gl]at j1;exact j1⟩,?_,by show beh _ (List.range L.us.length)∈_;rw[ok.still M R.ff po.g];exact mg,fun j z=>by cases z;exact mj⟩;have tix:a4y L (b6i L (List.range L.us.length,some (a3w (a2x ts L there) (a0k ts here l))) p)=a3w (a2x ts L there) (a0k ts here l):=by
    show(L.gs.getD (a5t L _ p.1) []).getD ((L.gs.getD p.1 []).idxOf _) 0=_;rw[e1,j2]
   rw[b6a ct,tix];exact b2g mono st
 ·have ed:a6x ts L here there l=(List.range L.us.length,none):=by unfold a6x;rw[wA ct]
  rw[ed];have e1:a5t L (List.range L.us.length,none) p.1=p.1:=ok.idx_still M R.ff po.g;have en:b6i L (List.range L.us.length,none) p=p:=Prod.ext e1 rfl;rw[en];refine⟨po,?_,by show beh _ (List.range L.us.length)∈_;rw[ok.still M R.ff po.g];exact mg,fun j z=>nomatch z⟩;have ew:a7p ts L there p=there:=by unfold a7p;rw[wA ct]
  rw[ew];exact b2g mono s
end
def thr(ts:LN)(n:Nat)(Ls:List Lv)(prs:List (Nat×Nat))(l:Nat):Nat->List Nat
 |0=>List.range n
 |i+1=>match Ls[i]?,prs[i]? with
  |some L,some p=>a7p ts L (thr ts n Ls prs l i) (b6i L (a6x ts L (a1s ts n Ls prs i) (thr ts n Ls prs l i) l) p)
  |_,_=>thr ts n Ls prs l i
def nps(ts:LN)(n:Nat)(Ls:List Lv)(prs:List (Nat×Nat))(l:Nat):Nat->List (Nat×Nat)
 |0=>[]
 |i+1=>nps ts n Ls prs l i++(match Ls[i]?,prs[i]? with
  |some L,some p=>[b6i L (a6x ts L (a1s ts n Ls prs i) (thr ts n Ls prs l i) l) p]
  |_,_=>[])
def a7f(ts:LN)(n:Nat)(Ls:List Lv)(row:Nsq)(l:Nat):Nsq:=c9t Ls (nps ts n Ls (a1r Ls row) l Ls.length)
section
variable{H:Hp}{m:Ad}{ts:LN}{n:Nat}{fam:LN}{Ls:List Lv}{prs:List (Nat×Nat)}{l i:Nat}{L:Lv}{p:Nat×Nat}
theorem d4n(e1:Ls[i]? =some L)(e2:prs[i]? =some p):thr ts n Ls prs l (i+1)=a7p ts L (thr ts n Ls prs l i) (b6i L (a6x ts L (a1s ts n Ls prs i) (thr ts n Ls prs l i) l) p):=by
 show(match Ls[i]?,prs[i]? with|some L,some p=>_|_,_=>_)=_;rw[e1,e2]
theorem c9w(e1:Ls[i]? =some L)(e2:prs[i]? =some p):nps ts n Ls prs l (i+1)=nps ts n Ls prs l i++[b6i L (a6x ts L (a1s ts n Ls prs i) (thr ts n Ls prs l i) l) p]:=by
 show nps ts n Ls prs l i++_=_;rw[e1,e2]
theorem a5u(hl:prs.length=Ls.length): ∀{i:Nat},i<=Ls.length->(nps ts n Ls prs l i).length=i
 |0,_=>rfl
 |i+1,h=>by
  rw[c9w (a0A h) (a0A (show i<prs.length by lia)),a0L,a5u hl (a1S h)];rfl
theorem d4o(hl:prs.length=Ls.length)(e1:Ls[i]? =some L)(e2:prs[i]? =some p):(nps ts n Ls prs l Ls.length)[i]? =some (b6i L (a6x ts L (a1s ts n Ls prs i) (thr ts n Ls prs l i) l) p):=by
 have li:=(a0B.mp e1).1;obtain⟨r,z⟩:=b8k (t:=nps ts n Ls prs l) (fun i=>⟨_,rfl⟩) (show i+1<=Ls.length from li);rw[z,c9w e1 e2,a1G,a0M (by rw[a5u hl (a1S li)];exact a0K _),a5u hl (a1S li),a5D];rfl
structure Both(ts fam:LN)(Ls:List Lv)(l i:Nat)(here there:Nsq):Prop where
 hf:here∈fam
 hp:d7a Ls i here
 tf:there∈fam
 tp:d7a Ls i there
 s:sub (a0k ts here l) there=true
theorem b6c(M:Mach H m ts n)(R:RowOf ts n fam Ls)(hl:prs.length=Ls.length)(po: ∀(i:Nat) (L:Lv) (p:Nat×Nat),Ls[i]? =some L->prs[i]? =some p->PairOk L p)(ll:l<ts.length): ∀i,i<=Ls.length->Both ts fam Ls l i (a1s ts n Ls prs i) (thr ts n Ls prs l i)
 |0,_=>by
  refine⟨b2q R.ff,fun j L hj=>wC hj (a5R j),b2q R.ff,fun j L hj=>wC hj (a5R j),?_⟩;exact sub_iff.mpr fun r hr=>a1Q.mpr ((mem_setsU.mp (R.ff.inU M (c2s M R.ff (b2q R.ff) ll))).2 r hr)
 |i+1,h=>by
  have b:=b6c M R hl po ll i (a1S h);have e1:=a0A (show i<Ls.length from h);have e2:=a0A (show i<prs.length by lia);have pk:=po i _ _ e1 e2;obtain⟨n1,n2,_,_⟩:=b0s M R e1 pk ll b.hf b.hp b.tf b.s;have ok:=R.ok _ (a0E e1);rw[b8l e1 e2,d4n e1 e2];exact⟨ok.wthn_fam M R.ff b.hf pk,b8m M R e1 b.hf b.hp pk,ok.wthn_fam M R.ff b.tf n1,b8m M R e1 b.tf b.tp n1,n2⟩
theorem e0b(M:Mach H m ts n)(R:RowOf ts n fam Ls)(hl:prs.length=Ls.length)(po: ∀(i:Nat) (L:Lv) (p:Nat×Nat),Ls[i]? =some L->prs[i]? =some p->PairOk L p)(ll:l<ts.length)(i:Nat)(L:Lv)(q:Nat×Nat)(e1:Ls[i]? =some L)(e2:(nps ts n Ls prs l Ls.length)[i]? =some q):PairOk L q:=by
 have li:=(a0B.mp e1).1;have e3:=a0A (show i<prs.length by lia);rw[d4o hl e1 e3]at e2;cases e2;have b:=b6c M R hl po ll i (a1S li);exact(b0s M R e1 (po i _ _ e1 e3) ll b.hf b.hp b.tf b.s).1
theorem b6d(M:Mach H m ts n)(R:RowOf ts n fam Ls){row:Nsq}(ri:RowIn Ls row)(ll:l<ts.length):RowIn Ls (a7f ts n Ls row l):=e0a (a5u (a1k (a0K _)) (a0K _)) (e0b M R (a1k (a0K _)) (ri.po M R) ll)
end
def zN(x:Nsq):Zs:=x.map fun r=>((r:Nat):Int)
theorem e0c{x:Nsq}{i:Int}:i∈zN x↔ ∃r∈x,((r:Nat):Int)=i:=a0R
theorem zN_mem{x:Nsq}{r:Nat}:((r:Nat):Int)∈zN x↔r∈x:=by
 rw[e0c];exact⟨fun⟨r',h,e⟩=>by rwa[<-a8Y e],fun h=>⟨r,h,rfl⟩⟩
theorem d4p{r:Nat}: ∀{x:Nsq},(zN x).idxOf ((r:Nat):Int)=x.idxOf r
 | []=>rfl
 | a::x=>by
  show(((a:Nat):Int)::zN x).idxOf ((r:Nat):Int)=_;rw[List.idxOf_cons,List.idxOf_cons,d4p];have e:(((a:Nat):Int)==((r:Nat):Int))=(a==r):=by
   rw[a3D,a6T,a6T];exact⟨fun h=>by lia,fun h=>by lia⟩
  rw[e]
def DeedAt(H:Hp)(r:Ad)(d:Nsq×Option Nat):Prop:= ∃(a:Ad) (v:V),H r=some (.tup [.ref a,v])/\H a=some (.tup (d.1.map nv))/\v=(match d.2 with|none=> .non|some j=>nv j)
theorem DeedAt.same{H H':Hp}{r:Ad}{d:Nsq×Option Nat}(h:DeedAt H r d)(g:Same H H'):DeedAt H' r d:=let⟨a,v,h1,h2,h3⟩:=h;⟨a,v,g _ _ h1,g _ _ h2,h3⟩
def c9x(C:Ad)(K:W.Frag):Sp:=fun vs H Q _=> ∃(q h t m:Ad) (ts:LN) (n:Nat) (fam:LN) (L:Lv) (here there:Nsq) (l:Nat),vs=[.ref q,.ref h,.ref t,nv l]/\StepAt C H q m ts L/\Mach H m ts n/\FamOf ts n fam/\LvOk ts fam L/\H h=some (.tup (here.map nv))/\H t=some (.tup (there.map nv))/\here∈fam/\l<ts.length/\(there∈L.c-> ¬(here∈L.c/\a0k ts here l=there)-> ∃t∈a2x ts L there,sub (a0k ts here l) t=true)/\
 ∀r H',Same H H'->DeedAt H' r (a6x ts L here there l)->Q (.ref r) H'
def b2s(C:Ad):Sp:=fun vs H Q _=> ∃(q da m:Ad) (ts:LN) (L:Lv) (d:Nsq×Option Nat) (a:Nat),vs=[.ref q,.ref da,nv a]/\StepAt C H q m ts L/\DeedAt H da d/\a<L.gs.length/\(∀x∈L.gs.getD a [],x<d.1.length)/\(L.gs.getD a []).length<=1000/\beh (L.gs.getD a []) d.1∈L.gs/\ ∀H',Same H H'->Q (nv (a5t L d a)) H'
def b2t(C:Ad):Sp:=fun vs H Q _=> ∃(q da m:Ad) (ts:LN) (L:Lv) (d:Nsq×Option Nat) (a b:Nat),vs=[.ref q,.ref da,nv a,nv b]/\StepAt C H q m ts L/\DeedAt H da d/\a<L.gs.length/\(∀j,d.2=some j->j∈L.gs.getD a [])/\Q (nv (a8r L d a b)) H
def c9y(C:Ad):Sp:=fun vs H Q _=> ∃(q da pa m:Ad) (ts:LN) (L:Lv) (d:Nsq×Option Nat) (p:Nat×Nat),vs=[.ref q,.ref da,.ref pa]/\StepAt C H q m ts L/\DeedAt H da d/\H pa=some (.tup [nv p.1,nv p.2])/\p.1<L.gs.length/\(∀x∈L.gs.getD p.1 [],x<d.1.length)/\(L.gs.getD p.1 []).length<=1000/\beh (L.gs.getD p.1 []) d.1∈L.gs/\(∀j,d.2=some j->j∈L.gs.getD p.1 [])/\
 ∀t H',Same H H'->H' t=some (.tup [nv (b6i L d p).1,nv (b6i L d p).2])->Q (.ref t) H'
theorem c9z{gs:LN}{g:Nsq}: ∀i,i<gs.idxOf g->gs[i]? ≠some g:=fun i hi e=>by
 have y:=List.not_of_lt_findIdx (p:=(· ==g)) (xs:=gs) (i:=i) hi;obtain⟨li,ei⟩:=a0B.mp e;rw[ei,a7C]at y;cases y
theorem c4r{C:Ad}(F:Fun K "deed_of" "LevelParts.deed_of" a3l f fd)(u_LevelParts:OwnC K C ["machine","group","tiles","turns","tile_count"])(jH:a0u P w K mg base "carried" 3 ["machine","rooms","word"] (a5f K))(jQ:a2h P w K mg base C "least_tile" 3 ["self","here","rooms"] (c9u C)):FnOk P w K mg base CX0 5 f fd ["self","here","there","letter"] (c9x C K):=by
 refine F.ok jY (fun vs H Q E h=>?_) (fun cdv A outer s H vs Q E hr h=>?_)
 ·obtain⟨q,h,t,m,ts,n,fam,L,here,there,l,rfl,_⟩:=h;rfl
 obtain⟨q,h,th,m,ts,n,fam,L,here,there,l,rfl,SA,M,ff,ok,hh,ht,hf,hl,ext,k⟩:=h;have hu:=hr.units;have hu1:=a7s hr;obtain⟨dx,g,t,u,gr,h1,h2,h3,⟨as,t1,t2,t3⟩,as2,u1,u2,u3⟩:=id SA;have nd:=ok.p.nd ff;have e0:=ok.first M ff;obtain⟨g0,eg0⟩: ∃g0,gr[0]? =some g0:=⟨_,a0A (by rw[h3.len];exact(a0B.mp e0).1)⟩;have hg0:=h3.is 0 g0 _ eg0 e0;have hU:=ff.inU M hf;have x5:=c0j M hU;have xn:=(mem_setsU.mp hU).2;refine⟨_,(a0d (a0p (i:=4) jY.nd rfl (Or.inl rfl) (a0w a1j (a2f (pv 0) rfl) a0l (fun _ _=>rfl))) (a0d (a4l (b3e (b1e hu1 (pv 2) (a2f (pv 0) rfl))) (a0h (a0s (a4o (a0v (a0b (pv 4) (a0b b3c a0o rfl) rfl))))) a1v) (a0d (a0p (i:=5) jY.nd rfl (Or.inl rfl) (a0m jH hr.m rfl (a0v (a0b (a2f (pv 0) rfl) (a0b (pv 1) (a0b (a2t (a0g (pv 3) a0i)) a0o rfl) rfl) rfl)))) (a0d (a4l (PW.pt (b3g (b3e (c0v hu1 (pv 1) (a2f (pv 0) rfl))) (a8t (a1p (c0y hu) (pv 5) (pv 2) (a2e _))))) (a0h (a0s (a4o (a0v (a0b (a0w a1j (a5j hu1 (a2f (pv 0) rfl) (pv 1) (fun _ _=>rfl)) (pv 3) (fun _ _=>rfl)) (a0b b3c a0o rfl) rfl))))) a1v) (a0h (a0s (a4o (a0v (a0b (pv 4) (a0b (a1f (pv 0) u_LevelParts.cl jQ hr.m (a0v (a0b (pv 2) (a0b (pv 5) a0o rfl) rfl))) a0o rfl) rfl))))))))),?_⟩;refine⟨_,rfl,q,C,dx,_,_,rfl,h1,u_LevelParts.cl,u_LevelParts.no,c0g,g,_,_,_,rfl,rfl,SqL.of h2,(a1x (j:=0) (v:= .ref g0) (by rw[a0F,eg0];rfl):atI _ ((0:Nat):Int)=_),?_⟩;by_cases ct:there∈L.c
 ·obtain⟨li,ei⟩:=a4j ct;obtain⟨b,eb⟩: ∃b,as[ixl L.c there]? =some b:=⟨_,a0A (by lia)⟩;refine⟨_,rfl,_,rfl,q,C,dx,_,_,rfl,h1,u_LevelParts.cl,u_LevelParts.no,b8h,t,_,rfl,b2o nd t1 ht ei eb,_,rfl,a9l ?_⟩;refine⟨_,rfl,q,C,dx,_,_,rfl,h1,u_LevelParts.cl,u_LevelParts.no,lpF_m,_,rfl,_,rfl,by show 1<=sizeLine;decide,fun p1 hp1=>?_⟩;have kp:=a0c hp1 (.lst [nv l]);refine⟨m,h,p1,ts,n,here,[l],rfl,M.same kp,SqT.of (kp _ _ hh),x5,xn,SqL.of a0a,l1w hl,fun en H2 g2' e2=>?_⟩;have g2:=kp.trans g2';have e2':H2 en=some (.tup ((a0k ts here l).map nv)):=e2;clear e2 g2' kp;by_cases ch:here∈L.c
  ·obtain⟨lh,eh⟩:=a4j ch;obtain⟨bh,ebh⟩: ∃b,as[ixl L.c here]? =some b:=⟨_,a0A (by lia)⟩;refine⟨_,rfl,_,rfl,q,C,dx,_,_,rfl,g2 _ _ h1,u_LevelParts.cl,u_LevelParts.no,b8h,t,_,rfl,b2o nd (g2 _ _ t1) (g2 _ _ hh) eh ebh,_,rfl,b1c ?_⟩;refine⟨_,rfl,_,rfl,en,th,0,_,_,rfl,rfl,a5c (SqT.of e2'),a5c (SqT.of (g2 _ _ ht)),by decide,fun cc hc=>⟨_,rfl,?_⟩⟩;have hc':cc=decide (a0k ts here l=there):=by
    rw[a3D,a6M,<-dt_natsT];exact hc
   subst hc';by_cases et:a0k ts here l=there
   ·rw[a1A et];refine b1c ?_;obtain⟨b2,eb2⟩: ∃b,as2[ixl L.c here]? =some b:=⟨_,a0A (by lia)⟩;have ew:=a3z (show ixl L.c here<L.wds.length by rw[ok.p.len];exact lh);obtain⟨vs,v1,v2,v3⟩:=u3 _ _ _ _ eh ew eb2;obtain⟨v,ev⟩: ∃v,vs[l]? =some v:=⟨_,a0A (by lia)⟩
    rcases v3 l v ev with⟨no,_⟩|⟨pj,js,k',wd',rfl,ep,ek,ewk,tb⟩
    ·exact wC (by rw[et];exact ct) no
    have ek':k'=ixl L.c (a0k ts here l):=(c2l nd ek).symm;subst ek';have ew':wd'=L.wds.getD (ixl L.c (a0k ts here l)) []:=by rw[a0I,ewk];rfl
    subst ew';have ej:=ok.trn_eq M ff (by rw[et];exact ct) tb;subst ej;refine⟨_,rfl,q,C,dx,_,_,rfl,g2 _ _ h1,u_LevelParts.cl,u_LevelParts.no,lpF_u,_,rfl,u,_,rfl,b2o nd (g2 _ _ u1) (g2 _ _ hh) eh eb2,_,rfl,b2,_,_,_,rfl,rfl,SqL.of (g2 _ _ v1),a1x ev,by show 2<=sizeLine;decide,fun r hr'=>?_⟩;have kr:=a0c hr' (.tup [.ref pj,.non]);refine k r _ (g2.trans kr) ⟨pj,.non,a0a,?_,?_⟩
    ·rw[kr _ _ (g2 _ _ ep)];unfold a6x;rw[wB ct,wB ⟨ch,et⟩]
    ·unfold a6x;rw[wB ct,wB ⟨ch,et⟩]
   ·rw[a1J et];refine a9l ?_;have no: ¬(here∈L.c/\a0k ts here l=there):=fun z=>et z.2
    have ed:a6x ts L here there l=(List.range L.us.length,some (a3w (a2x ts L there) (a0k ts here l))):=by unfold a6x;rw[wB ct,wA no]
    refine⟨_,rfl,_,rfl,q,dx,_,rfl,g2 _ _ h1,(by kernel_rfl),_,rfl,_,rfl,q,th,en,m,ts,L,there,a0k ts here l,rfl,SA.keeps g2.keeps,g2 _ _ ht,e2',ct,nd,ok.p.len,(ok.p.inU M ff).2,c0j M (a5g M hU hl),ext ct no,fun H3 g3=>⟨by show 2<=sizeLine;decide,fun r hr'=>?_⟩⟩;have kr:=a0c hr' (.tup [.ref g0,nv (a3w (a2x ts L there) (a0k ts here l))]);rw[ed]at k;exact k r _ ((g2.trans g3).trans kr) ⟨g0,_,a0a,kr _ _ ((g2.trans g3) _ _ hg0),rfl⟩
  ·refine⟨_,rfl,_,rfl,q,C,dx,_,_,rfl,g2 _ _ h1,u_LevelParts.cl,u_LevelParts.no,b8h,t,_,rfl,b5u (g2 _ _ t1) (g2 _ _ hh) ch,_,rfl,a9l (a9l ?_)⟩
   ·have no: ¬(here∈L.c/\a0k ts here l=there):=fun z=>ch z.1;have ed:a6x ts L here there l=(List.range L.us.length,some (a3w (a2x ts L there) (a0k ts here l))):=by unfold a6x;rw[wB ct,wA no]
    refine⟨_,rfl,_,rfl,q,dx,_,rfl,g2 _ _ h1,(by kernel_rfl),_,rfl,_,rfl,q,th,en,m,ts,L,there,a0k ts here l,rfl,SA.keeps g2.keeps,g2 _ _ ht,e2',ct,nd,ok.p.len,(ok.p.inU M ff).2,c0j M (a5g M hU hl),ext ct no,fun H3 g3=>⟨by show 2<=sizeLine;decide,fun r hr'=>?_⟩⟩;have kr:=a0c hr' (.tup [.ref g0,nv (a3w (a2x ts L there) (a0k ts here l))]);rw[ed]at k;exact k r _ ((g2.trans g3).trans kr) ⟨g0,_,a0a,kr _ _ ((g2.trans g3) _ _ hg0),rfl⟩
 ·refine⟨_,rfl,_,rfl,q,C,dx,_,_,rfl,h1,u_LevelParts.cl,u_LevelParts.no,b8h,t,_,rfl,b5u t1 ht ct,_,rfl,b1c ?_⟩;refine⟨_,rfl,by show 2<=sizeLine;decide,fun r hr'=>?_⟩;have kr:=a0c hr' (.tup [.ref g0,.non]);refine k r _ kr ⟨g0,.non,a0a,?_,?_⟩
  ·rw[kr _ _ hg0];unfold a6x;rw[wA ct]
  ·unfold a6x;rw[wA ct]
theorem c4s{C:Ad}(F:Fun K "turned" "LevelParts.turned" a3m f fd)(u_LevelParts:OwnC K C ["machine","group","tiles","turns","tile_count"])(kH:a0u P w K mg base "behind" 1 ["one","other"] b0o):FnOk P w K mg base CX0 3 f fd ["self","deed","turning"] (b2s C):=by
 refine F.ok a8g (fun vs H Q E h=>?_) (fun cdv A outer s H vs Q E hr h=>?_)
 ·obtain⟨q,da,m,ts,L,d,a,rfl,_⟩:=h;rfl
 obtain⟨q,da,m,ts,L,d,a,rfl,⟨dx,g,t,u,gr,h1,h2,h3,_⟩,⟨ta,v,d1,d2,_⟩,ha,lt,lz,mem,k⟩:=h;have hu:=hr.units;obtain⟨gb,egb⟩: ∃gb,gr[a]? =some gb:=⟨_,a0A (by rw[h3.len];exact ha)⟩;have hgb:=h3.is a gb _ egb (a3z ha);refine⟨_,(a0h (a0s (a6z a1P a6A a6B (b1u hu) (a2f (pv 0) rfl) (a0g (a0m kH hr.m rfl (a0v (a0b (a0w a1j (a2f (pv 0) rfl) (pv 2) (fun _ _=>rfl)) (a0b (a0w a0x (pv 1) a0l (fun _ _=>rfl)) a0o rfl) rfl))) a0i)))),?_⟩;refine⟨_,rfl,q,C,dx,_,_,rfl,h1,u_LevelParts.cl,u_LevelParts.no,c0g,.inl ⟨rfl,_,SqL.of h2⟩,_,rfl,q,C,dx,_,_,rfl,h1,u_LevelParts.cl,u_LevelParts.no,c0g,_,rfl,g,_,_,_,rfl,rfl,SqL.of h2,a1x (j:=a) (v:= .ref gb) (by rw[a0F,egb];rfl),_,rfl,da,_,_,_,rfl,rfl,SqT.of d1,rfl,gb,ta,_,_,rfl,hgb,d2,lt,lz,fun r H2 g2 e2=>?_⟩;obtain⟨l1,_⟩:=c9v mem;refine⟨g,_,1,.tup (dtN (beh (L.gs.getD a []) d.1)),L.gs.map fun u=>Dt.tup (dtN u),_,L.gs.idxOf (beh (L.gs.getD a []) d.1),rfl,rfl,SqL.of (g2 _ _ h2),by rw[a0C,a0C,h3.len],a5c (SqT.of e2),a8m (h3.same g2),by decide,at_dts.mpr (by rw[a0A l1];exact a1W some (a7V l1)),fun i hi e=>c9z i hi (at_dts.mp e),?_⟩;exact k H2 g2
theorem c4t{C:Ad}(F:Fun K "brought" "LevelParts.brought" a3i f fd)(u_LevelParts:OwnC K C ["machine","group","tiles","turns","tile_count"]):FnOk P w K mg base CX0 1 f fd ["self","deed","turning","bringing"] (b2t C):=by
 refine F.ok a7l (fun vs H Q E h=>?_) (fun cdv A outer s H vs Q E hr h=>?_)
 ·obtain⟨q,da,m,ts,L,d,a,b,rfl,_⟩:=h;rfl
 obtain⟨q,da,m,ts,L,⟨dt,dj⟩,a,b,rfl,⟨dx,g,t,u,gr,h1,h2,h3,_⟩,⟨ta,v,d1,d2,rfl⟩,ha,mem,k⟩:=h;have hu:=hr.units;obtain⟨gb,egb⟩: ∃gb,gr[a]? =some gb:=⟨_,a0A (by rw[h3.len];exact ha)⟩;have hgb:=h3.is a gb _ egb (a3z ha);refine⟨_,(a0d (a4l (a1p d7s (a0w a0x (pv 1) a0l (fun _ _=>rfl)) b3c (a2e _)) (a0h (a0s (pv 3))) a1v) (a0h (a0s (d9l PySem.F.slot_tuple_index PySem.F.type_tuple_index c8i (a0w a1j (a2f (pv 0) rfl) (pv 2) (fun _ _=>rfl)) (a0g (a0w a0x (pv 1) a0l (fun _ _=>rfl)) a0i))))),?_⟩;cases dj with
 |none=>
  exact⟨_,rfl,da,_,_,_,rfl,rfl,SqT.of d1,rfl,rfl,_,rfl,b1c ⟨_,rfl,k⟩⟩
 |some j=>
  refine⟨_,rfl,da,_,_,_,rfl,rfl,SqT.of d1,rfl,rfl,_,rfl,a9l ?_⟩;refine⟨_,rfl,q,C,dx,_,_,rfl,h1,u_LevelParts.cl,u_LevelParts.no,c0g,_,rfl,g,_,_,_,rfl,rfl,SqL.of h2,a1x (j:=a) (v:= .ref gb) (by rw[a0F,egb];rfl),?_⟩;have hz:(L.gs.getD a []).map nv=(zN (L.gs.getD a [])).map V.int:=by unfold zN;rw[List.map_map];rfl
  have hgz:=hgb;rw[hz]at hgz;refine⟨⟨gb,_,rfl,hgb⟩,_,rfl,da,_,_,_,rfl,rfl,SqT.of d1,rfl,gb,zN (L.gs.getD a []),_,rfl,rfl,SqT.of hgz,zN_mem.mpr (mem j rfl),?_⟩;rw[d4p];exact k
theorem b3b{C:Ad}(F:Fun K "pair_behind" "LevelParts.pair_behind" a2k f fd)(u_LevelParts:OwnC K C ["machine","group","tiles","turns","tile_count"])(jI:a2h P w K mg base C "turned" 3 ["self","deed","turning"] (b2s C))(jF:a2h P w K mg base C "brought" 1 ["self","deed","turning","bringing"] (b2t C)):FnOk P w K mg base CX0 5 f fd ["self","deed","pair"] (c9y C):=by
 refine F.ok a5w (fun vs H Q E h=>?_) (fun cdv A outer s H vs Q E hr h=>?_)
 ·obtain⟨q,da,pa,m,ts,L,d,p,rfl,_⟩:=h;rfl
 obtain⟨q,da,pa,m,ts,L,d,p,rfl,SA,DA,hp,hg,lt,lz,mem,mj,k⟩:=h;obtain⟨dx,g,t,u,gr,h1,_⟩:=id SA;refine⟨_,(a0h (a0s (a4o (a0v (a0b (a1f (pv 0) u_LevelParts.cl jI hr.m (a0v (a0b (pv 1) (a0b (a0w a0x (pv 2) a0l (fun _ _=>rfl)) a0o rfl) rfl))) (a0b (a1f (pv 0) u_LevelParts.cl jF hr.m (a0v (a0b (pv 1) (a0b (a0w a0x (pv 2) a0l (fun _ _=>rfl)) (a0b (a0w a0x (pv 2) a0l (fun _ _=>rfl)) a0o rfl) rfl) rfl))) a0o rfl) rfl))))),?_⟩;refine⟨_,rfl,q,dx,_,rfl,h1,(by kernel_rfl),_,rfl,_,rfl,pa,_,_,_,rfl,rfl,SqT.of hp,rfl,q,da,m,ts,L,d,p.1,rfl,SA,DA,hg,lt,lz,mem,fun H2 g2=>?_⟩;refine⟨_,rfl,q,dx,_,rfl,g2 _ _ h1,(by kernel_rfl),_,rfl,_,rfl,pa,_,_,_,rfl,rfl,SqT.of (g2 _ _ hp),rfl,_,rfl,pa,_,_,_,rfl,rfl,SqT.of (g2 _ _ hp),rfl,q,da,m,ts,L,d,p.1,p.2,rfl,SA.keeps g2.keeps,DA.same g2,hg,mj,by show 2<=sizeLine;decide,fun r hr'=>?_⟩;exact k r _ (g2.trans (a0c hr' _)) a0a
def b6e(CL CR:Ad):Sp:=fun vs H Q _=> ∃(p l m:Ad) (as:As) (ts:LN) (n:Nat) (fam:LN) (Ls:List Lv) (prs:List (Nat×Nat)) (lt k:Nat),vs=[.ref p,.ref l,nv lt]/\RowAt CL CR H p m ts n Ls/\Mach H m ts n/\RowOf ts n fam Ls/\H l=some (.lst (as.map .ref))/\PairsAt H as (prs.take k)/\prs.length=Ls.length/\k<=Ls.length/\(∀(i:Nat) (L:Lv) (p:Nat×Nat),Ls[i]? =some L->prs[i]? =some p->PairOk L p)/\lt<ts.length/\
 ∀r h t el es H',Same H H'->H' r=some (.tup [.ref h,.ref t,.ref el])->H' h=some (.tup ((a1s ts n Ls prs k).map nv))->H' t=some (.tup ((thr ts n Ls prs lt k).map nv))->H' el=some (.lst (es.map .ref))->PairsAt H' es (nps ts n Ls prs lt k)->Q (.ref r) H'
def d0a(CL CR:Ad):Sp:=fun vs H Q _=> ∃(p ra m:Ad) (ts:LN) (n:Nat) (fam:LN) (Ls:List Lv) (row:Nsq) (lt:Nat),vs=[.ref p,.ref ra,nv lt]/\RowAt CL CR H p m ts n Ls/\Mach H m ts n/\RowOf ts n fam Ls/\H ra=some (.tup (row.map nv))/\RowIn Ls row/\lt<ts.length/\
 ∀t H',Same H H'->H' t=some (.tup ((a7f ts n Ls row lt).map nv))->Q (.ref t) H'
theorem d0b{CL CR:Ad}(F:Fun K "walked" "Row.walked" a9e f fd)(u_LevelParts:OwnC K CL ["machine","group","tiles","turns","tile_count"])(u_Row:OwnC K CR ["rooms","steps"])(jG:a2h P w K mg base CL "deed_of" 5 ["self","here","there","letter"] (c9x CL K))(jL:a2h P w K mg base CL "pair_behind" 5 ["self","deed","pair"] (c9y CL))(jM:a2h P w K mg base CL "within" 1 ["self","here","pair"] (c2p CL))(qY:mg "zip"=none):FnOk P w K mg base CX0 7 f fd ["self","pairs","letter"] (b6e CL CR):=by
 refine F.ok jK (fun vs H Q E h=>?_) (fun cdv A outer s H vs Q E hr h=>?_)
 ·obtain⟨p,l,m,as,ts,n,fam,Ls,prs,lt,k,rfl,_⟩:=h;rfl
 obtain⟨p,l,m,as,ts,n,fam,Ls,prs,lt,k,rfl,RA,M,R,el,PA,hl,kl,po,ll,q⟩:=h;have hu:=hr.units;obtain⟨dx,r,st,qs,h1,h2,h3,S⟩:=id RA;have lq:=S.len;have l32:=R.few;have la:as.length=k:=by rw[PA.len,a0W];lia
 refine⟨_,(a0d (a0p (i:=3) jK.nd rfl (Or.inl rfl) (a2f (pv 0) rfl)) (a0d (a0p (i:=4) jK.nd rfl (Or.inl rfl) (a2f (pv 0) rfl)) (a0d (a0p (i:=5) jK.nd rfl (Or.inl rfl) (a2t a0i)) (a0d (a3o a2J rfl (c8e rfl qY (a0v (a0b (a2f (pv 0) rfl) (a0b (pv 1) a0o rfl) rfl))) (b3h rfl (a2m (a1c (i:=6) jK.nd rfl (Or.inl rfl)) (a2m (a1c (i:=7) jK.nd rfl (Or.inl rfl)) a8u))) (a0d (a0p (i:=8) jK.nd rfl (Or.inl rfl) (a1f (pv 6) u_LevelParts.cl jL hr.m (a0v (a0b (a1f (pv 6) u_LevelParts.cl jG hr.m (a0v (a0b (pv 3) (a0b (pv 4) (a0b (pv 2) a0o rfl) rfl) rfl))) (a0b (pv 7) a0o rfl) rfl)))) (a0d (a0p (i:=3) jK.nd rfl (Or.inl rfl) (a1f (pv 6) u_LevelParts.cl jM hr.m (a0v (a0b (pv 3) (a0b (pv 7) a0o rfl) rfl)))) (a0d (a0p (i:=4) jK.nd rfl (Or.inl rfl) (a1f (pv 6) u_LevelParts.cl jM hr.m (a0v (a0b (pv 4) (a0b (pv 8) a0o rfl) rfl)))) (a0h (a3f (a6z a1P a2D a2E a2b (pv 5) (a0g (pv 8) a0i)))))))) (a0h (a0s (a4o (a0v (a0b (pv 3) (a0b (pv 4) (a0b (pv 5) a0o rfl) rfl) rfl))))))))),?_⟩;refine⟨_,rfl,p,CR,dx,_,_,rfl,h1,u_Row.cl,u_Row.no,d4l,?_⟩;refine⟨_,rfl,p,CR,dx,_,_,rfl,h1,u_Row.cl,u_Row.no,d4l,?_⟩;refine⟨by show 0<=sizeLine;decide,fun fo hfo=>?_⟩;have k0:=a0c hfo (.lst [])
 let Pv:Nat->L2.St->Hp->Prop:=fun i σ H'=>Same H H'/\ ∃(h t:Ad) (es:As) (o6 o7 o8:Option V),H' h=some (.tup ((a1s ts n Ls prs i).map nv))/\H' t=some (.tup ((thr ts n Ls prs lt i).map nv))/\H' fo=some (.lst (es.map .ref))/\PairsAt H' es (nps ts n Ls prs lt i)/\σ=[some (.ref p),some (.ref l),some (nv lt),some (.ref h),some (.ref t),some (.ref fo),o6,o7,o8]
 refine⟨_,rfl,p,CR,dx,_,_,rfl,k0 _ _ h1,u_Row.cl,u_Row.no,b8i,_,rfl,st,l,_,_,rfl,SqL.of (k0 _ _ h3),SqL.of (k0 _ _ el),c1w (xs:=qs.map .ref) (ys:=as.map .ref) Pv ⟨k0,r,r,[],_,_,_,k0 _ _ h2,k0 _ _ h2,a0a,⟨rfl,fun i a p e=>by simp at e⟩,rfl⟩ (fun i σ H' p=>⟨SqL.of (p.1 _ _ h3),SqL.of (p.1 _ _ el)⟩) (fun i x y Tp σ H1 hx hy nT pv=>?_) (fun σ H1 pv=>?_)⟩
 ·obtain⟨g1,h,t,es,o6,o7,o8,eh,et,ef,PA1,rfl⟩:=pv;rw[a0F]at hx hy;obtain⟨b,eb,rfl⟩:=a0O.mp hx;obtain⟨pa,epa,rfl⟩:=a0O.mp hy;have li:=(a0B.mp eb).1;have lk:=(a0B.mp epa).1;obtain⟨L,eL⟩: ∃L,Ls[i]? =some L:=⟨_,a0A (by lia)⟩;obtain⟨pr,epr⟩: ∃pr,prs[i]? =some pr:=⟨_,a0A (by lia)⟩;have ok:=R.ok L (a0E eL);have bt:=b6c M R hl po ll i (by lia);have pk:=po i L pr eL epr;obtain⟨n1,n2,n3,n4⟩:=b0s M R eL pk ll bt.hf bt.hp bt.tf bt.s;have le:=PA1.len;rw[a5u hl (by lia)]at le;have kT:=a0c nT (.tup [.ref b,.ref pa]);have eT:upd H1 Tp (.tup [.ref b,.ref pa]) Tp=some (.tup [.ref b,.ref pa]):=a0a;generalize upd H1 Tp (.tup [.ref b,.ref pa])=H2 at kT eT⊢;have g2:=g1.trans kT;have SA:=(S.is i b L eb eL).keeps g2.keeps;obtain⟨dxl,g,tt,u,gr,s1,_⟩:=id SA;have hpa:H pa=some (.tup [nv pr.1,nv pr.2]):=PA.is i pa pr epa (by rw[a2G (by lia)];exact epr);have pm:=ok.pm M R.ff (a0E (a3z pk.g));have gl:(L.gs.getD pr.1 []).length=L.us.length:=by rw[pm.length_eq,a2A]
  have few:=(ok.p.inU M R.ff).2;refine⟨Tp,_,rfl,SqT.of eT,rfl,_,_,rfl,_,_,rfl,rfl,?_⟩;refine⟨_,rfl,b,dxl,_,rfl,s1,(by kernel_rfl),_,rfl,b,dxl,_,rfl,s1,(by kernel_rfl),_,rfl,_,rfl,_,rfl,b,h,t,m,ts,n,fam,L,_,_,lt,rfl,SA,M.same g2,R.ff,ok,kT _ _ eh,kT _ _ et,bt.hf,ll,fun ct no=>b2r M R eL ll bt.hf bt.hp bt.s ct no,fun da H3 g3' DA=>?_⟩;have g3:=kT.trans g3';have g03:=g1.trans g3;have SA3:=SA.keeps g3'.keeps;have dl: ∀x∈L.gs.getD pr.1 [],x<(a6x ts L (a1s ts n Ls prs i) (thr ts n Ls prs lt i) lt).1.length:=fun x hx=>by
   have xl:x<L.us.length:=a1Q.mp (pm.mem_iff.mp hx);have ed:(a6x ts L (a1s ts n Ls prs i) (thr ts n Ls prs lt i) lt).1.length=L.us.length:=by
    unfold a6x;split
    ·split
     ·show(trn _ _ _ _).length=_;unfold trn;rw[a0C,a9i]
     ·exact a2A
    ·exact a2A
   rw[ed];exact xl
  refine⟨_,rfl,b,da,pa,m,ts,L,_,pr,rfl,SA3,DA,g03 _ _ hpa,pk.g,dl,by lia,n3,n4,fun en H4 g4' e4=>?_⟩;have g4:=g3.trans g4';have g04:=g1.trans g4;have SA4:=SA3.keeps g4'.keeps;refine⟨_,rfl,b,dxl,_,rfl,(g3'.trans g4') _ _ s1,(by kernel_rfl),_,rfl,_,rfl,b,h,pa,m,ts,L,_,pr,rfl,SA4,g4 _ _ eh,g04 _ _ hpa,ok.wok M R.ff pk,fun h' eh'=>?_⟩;refine⟨_,rfl,b,dxl,_,rfl,(g3'.trans g4') _ _ s1,(by kernel_rfl),_,rfl,_,rfl,b,t,en,m,ts,L,_,_,rfl,SA4,g4 _ _ et,e4,ok.wok M R.ff n1,fun t' et'=>?_⟩;have ef4:=g4 _ _ ef;refine⟨_,rfl,.inl ⟨rfl,_,SqL.of ef4⟩,_,rfl,fo,_,_,rfl,rfl,ef4,by rw[a0C,a0Y];lia,?_⟩;have lo:d9z H4 (upd H4 fo (.lst (es.map V.ref++[.ref en]))):=Stays.offL ef4;refine⟨a1e g04 hfo,h',t',es++[en],_,_,_,?_,?_,by rw[a0a,a1B];rfl,?_,rfl⟩
  ·rw[b8l eL epr];exact lo.a eh'
  ·rw[d4n eL epr];exact lo.a et'
  ·rw[c9w eL epr];exact((PA1.st (a2g g4)).st lo).snoc (lo.a e4)
 ·obtain⟨g1,h,t,es,o6,o7,o8,eh,et,ef,PA1,rfl⟩:=pv;have lm:min (qs.map V.ref).length (as.map V.ref).length=k:=by rw[a0C,a0C,lq,la];lia
  rw[lm]at eh et PA1;refine⟨_,rfl,_,rfl,_,rfl,by show 3<=sizeLine;decide,fun rr hrr=>?_⟩;have kr:=a0c hrr (.tup [.ref h,.ref t,.ref fo]);exact q rr h t fo es _ (g1.trans kr) a0a (kr _ _ eh) (kr _ _ et) (kr _ _ ef) (PA1.st (a2g kr))
theorem d3e{CL CR:Ad}(F:Fun K "moved" "Row.moved" b2a f fd)(u_Row:OwnC K CR ["rooms","steps"])(jV:a2h P w K mg base CR "paired" 3 ["self","row"] (b5z CL CR))(jW:a2h P w K mg base CR "walked" 7 ["self","pairs","letter"] (b6e CL CR))(kX:a2h P w K mg base CR "unpaired" 3 ["self","pairs"] (b4c CL CR)):FnOk P w K mg base CX0 9 f fd ["self","row","letter"] (d0a CL CR):=by
 refine F.ok c4b (fun vs H Q E h=>?_) (fun cdv A outer s H vs Q E hr h=>?_)
 ·obtain⟨p,ra,m,ts,n,fam,Ls,row,lt,rfl,_⟩:=h;rfl
 obtain⟨p,ra,m,ts,n,fam,Ls,row,lt,rfl,RA,M,R,hra,ri,ll,q⟩:=h;obtain⟨dx,r,st,qs,h1,_⟩:=id RA;have hl:(a1r Ls row).length=Ls.length:=a1k (a0K _);refine⟨_,(a0h (a0s (a1f (pv 0) u_Row.cl kX hr.m (a0g (a0w a0x (a1f (pv 0) u_Row.cl jW hr.m (a0v (a0b (a1f (pv 0) u_Row.cl jV hr.m (a0g (pv 1) a0i)) (a0b (pv 2) a0o rfl) rfl))) a0l (fun _ _=>rfl)) a0i)))),?_⟩;refine⟨_,rfl,p,dx,_,rfl,h1,(by kernel_rfl),_,rfl,p,dx,_,rfl,h1,(by kernel_rfl),_,rfl,p,dx,_,rfl,h1,(by kernel_rfl),_,rfl,p,ra,m,ts,n,Ls,row,rfl,RA,R.few,hra,ri.len,fun l as H1 g1 nl el PA=>?_⟩;refine⟨_,rfl,p,l,m,as,ts,n,fam,Ls,a1r Ls row,lt,Ls.length,rfl,RA.keeps g1.keeps,M.same g1,R,el,by rw[<-hl,a2B];exact PA,hl,a0K _,ri.po M R,ll,fun rr h t fo es H2 g2 er eh et ef PE=>?_⟩;refine⟨rr,_,_,_,rfl,rfl,SqT.of er,rfl,p,fo,m,es,ts,n,Ls,_,rfl,RA.keeps (g1.trans g2).keeps,R.few,ef,PE,a5u hl (a0K _),fun tt H3 g3 e3=>?_⟩;exact q tt H3 ((g1.trans g2).trans g3) e3
theorem SqL.keeps{K:W.Frag}{H H':Hp}{a:Ad}{xs:List V}(h:SqL K H a xs)(g:Keeps H H'):SqL K H' a xs:=by
 rcases h with(h|⟨o,h⟩)|h
 ·exact .inl (.inl (g _ _ (nU h)))
 ·exact .inl (.inr ⟨o,g _ _ (nU h)⟩)
 ·exact .inr h
theorem d0c{i:Nat}{L:Lv}(h:0<L.us.length){p:Bool×Nat×Nat}(hp:p∈a5y i L):0<p.2.2:=by
 unfold a5y at hp
 rcases a0Q.mp hp with z|z
 ·by_cases c:1<L.gs.length
  ·rw[wB c]at z;rw[a0J.mp z];exact a9P Nat.zero_lt_one c
  ·rw[wA c]at z;cases z
 ·rw[a0J.mp z];exact h
theorem b2u{Ls:List Lv}(h: ∀L∈Ls,0<L.us.length): ∀(i:Nat) (p:Bool×Nat×Nat),p∈a1o Ls i->0<p.2.2
 |0,_,hp=>nomatch hp
 | i+1,p,hp=>by
  rcases a0Q.mp (show p∈a1o Ls i++_ from hp)with z|z
  ·exact b2u h i p z
  ·cases e:Ls[i]? with
   |none=>
    rw[e]at z;cases z
   |some L=>
    rw[e]at z;exact d0c (h L (a0E e)) z
theorem RowOf.pos{H:Hp}{m:Ad}{ts:LN}{n:Nat}{fam:LN}{Ls:List Lv}(M:Mach H m ts n)(R:RowOf ts n fam Ls){p:Bool×Nat×Nat}(hp:p∈a0q Ls):0<p.2.2:=b2u (fun L hL=>b3y M R.ff (R.ok L hL).p) _ p hp
theorem mod_nv{c:Int}{k:Nat}(h:0<k): ∃r:Nat,V.int (c%(k:Int))=nv r/\r<k:=by
 have h1:=Int.emod_nonneg c (show((k:Nat):Int)≠0 by lia);have h2:=Int.emod_lt_of_pos c (show(0:Int)<((k:Nat):Int) by lia);exact⟨(c%(k:Int)).toNat,by show V.int _=V.int _;rw[Int.toNat_of_nonneg h1],by lia⟩
theorem b6f(word:Nsq)(k:Nat):b6q (word.map nv) none (some (k:Int))=(word.take k).map nv:=by
 unfold b6q;rw[HT.sIx_none,HT.sIx_nat,a7A,a0C,b0E,<-List.map_take]
 congr 1
 rw[List.take_eq_take_iff];lia
theorem e0d{row:Nsq}{k:Nat}(h:k<=row.length):b6q (row.map nv) (some (k:Int)) none=(row.drop k).map nv:=by
 unfold b6q;rw[HT.sIx_none,HT.sIx_nat,a0C,a4K h,<-List.map_drop,a4Y (by rw[a0C,a3N];exact a0K _)]
section
variable{ts:LN}{n:Nat}{Ls:List Lv}{prs prs':List (Nat×Nat)}{l i j:Nat}{L:Lv}{row row':Nsq}
theorem a6s(e:row.take j=row'.take j){k:Nat}(h:k<j):row.getD k 0=row'.getD k 0:=by
 have z:=a1W (fun x=>x[k]?) e
 try dsimp only at z
 rw[a2G h,a2G h]at z;rw[a0I,a0I,z]
theorem a9j(e:row.take j=row'.take j): ∀i,i<=Ls.length->plc Ls i<=j->a3u Ls row i=a3u Ls row' i
 |0,_,_=>rfl
 | i+1,h,hj=>by
  have e1:=a0A (show i<Ls.length from h);have pa:=c2o e1;by_cases c:1<(Ls[i]'h).gs.length
  ·rw[wB c]at pa;rw[a3n e1,a3n e1,a9j e i (a1S h) (by lia)];unfold a1y;rw[wB c,wB c,a6s e (show plc Ls i<j by lia),a6s e (show plc Ls i+1<j by lia)]
  ·rw[wA c]at pa;rw[a3n e1,a3n e1,a9j e i (a1S h) (by lia)];unfold a1y;rw[wA c,wA c,a6s e (show plc Ls i<j by lia)]
theorem c4u(e:row.take j=row'.take j)(hi:i<=Ls.length)(hj:plc Ls i<=j): ∀k,k<i->(a1r Ls row)[k]? =(a1r Ls row')[k]? :=fun k hk=>by
 obtain⟨r,z⟩:=a7o Ls row hi;obtain⟨r',z'⟩:=a7o Ls row' hi;unfold a1r;rw[z,z',a0N (by rw[a1k hi];exact hk),a0N (by rw[a1k hi];exact hk),a9j e i hi hj]
theorem b2v: ∀i,(∀k,k<i->prs[k]? =prs'[k]?)->a1s ts n Ls prs i=a1s ts n Ls prs' i
 |0,_=>rfl
 |i+1,h=>by
  show(match Ls[i]?,prs[i]? with|some L,some p=>a7p ts L (a1s ts n Ls prs i) p|_,_=>a1s ts n Ls prs i)=(match Ls[i]?,prs'[i]? with|some L,some p=>a7p ts L (a1s ts n Ls prs' i) p|_,_=>a1s ts n Ls prs' i);rw[h i (a3U i),b2v i fun k hk=>h k (a5M hk)]
theorem c2t: ∀i,(∀k,k<i->prs[k]? =prs'[k]?)->thr ts n Ls prs l i=thr ts n Ls prs' l i
 |0,_=>rfl
 |i+1,h=>by
  have e1:=c2t i fun k hk=>h k (a5M hk);have e2:=b2v (ts:=ts) (n:=n) (Ls:=Ls) i fun k hk=>h k (a5M hk);show(match Ls[i]?,prs[i]? with|some L,some p=>a7p ts L (thr ts n Ls prs l i) (b6i L (a6x ts L (a1s ts n Ls prs i) (thr ts n Ls prs l i) l) p)|_,_=>thr ts n Ls prs l i)=(match Ls[i]?,prs'[i]? with|some L,some p=>a7p ts L (thr ts n Ls prs' l i) (b6i L (a6x ts L (a1s ts n Ls prs' i) (thr ts n Ls prs' l i) l) p)|_,_=>thr ts n Ls prs' l i);rw[h i (a3U i),e1,e2]
theorem b6g{p:Bool×Nat×Nat}: ∀i,i<=Ls.length-> ∀j,(a1o Ls i)[j]? =some p-> ∃k L,Ls[k]? =some L/\((p=(true,k,L.gs.length)/\1<L.gs.length/\j=plc Ls k)∨(p=(false,k,L.us.length)/\j=plc Ls k+(if 1<L.gs.length then 1 else 0)))
 |0,_,j,e=>by simp[a1o]at e
 | i+1,h,j,e=>by
  have e1:=a0A (show i<Ls.length from h);rw[a5i e1]at e;by_cases c:j<(a1o Ls i).length
  ·rw[a0N c]at e;exact b6g i (a1S h) j e
  ·rw[a0M (by lia)]at e;refine⟨i,_,e1,?_⟩;have ej:j=plc Ls i+(j-(a1o Ls i).length):=by unfold plc;lia
   rw[ej]
   revert e
   generalize j-(a1o Ls i).length=t;intro e;unfold a5y at e;by_cases g:1<(Ls[i]'h).gs.length
   ·rw[wB g]at e;rw[wB g]
    match t,e with
    |0,e=>cases e;exact .inl ⟨rfl,g,rfl⟩
    |1,e=>cases e;exact .inr ⟨rfl,rfl⟩
   ·rw[wA g]at e;rw[wA g]
    match t,e with
    |0,e=>cases e;exact .inr ⟨rfl,rfl⟩
theorem d0d{k t:Nat}{p:Nat×Nat}(hl:prs.length=Ls.length)(e1:Ls[k]? =some L)(e2:prs[k]? =some p)(h:t<(c4p L p).length):(c9t Ls prs)[plc Ls k+t]? =(c4p L p)[t]? :=by
 have lk:=(a0B.mp e1).1;obtain⟨r,z⟩:=b8k (t:=a8q Ls prs) (fun i=>⟨_,rfl⟩) (show k+1<=Ls.length from lk);unfold c9t;have lu:=b8n hl k (a1S lk);rw[z,b0r e1 e2,a1G,a0M (by lia),lu,a3Z,a0N h]
def d0e(ts:LN)(n:Nat)(Ls:List Lv)(row:Nsq)(l:Nat)(p:Bool×Nat×Nat)(L:Lv)(r:Nat):Nat:=
 if p.1 then a5t L (a6x ts L (a1s ts n Ls (a1r Ls row) p.2.1) (thr ts n Ls (a1r Ls row) l p.2.1) l) r else a8r L (a6x ts L (a1s ts n Ls (a1r Ls row) p.2.1) (thr ts n Ls (a1r Ls row) l p.2.1) l) (a1y Ls row p.2.1 L).1 r
theorem b6h{p:Bool×Nat×Nat}(e:(a0q Ls)[j]? =some p)(eL:Ls[p.2.1]? =some L)(er:row.take j=row'.take j):(a7f ts n Ls row l)[j]? =some (d0e ts n Ls row' l p L (row.getD j 0)):=by
 obtain⟨k,L',e1,h⟩:=b6g Ls.length (a0K _) j e;have hk:p.2.1=k:=by rcases h with⟨z,_⟩|⟨z,_⟩<;>rw[z]
 rw[hk,e1]at eL;cases eL;have lk:=(a0B.mp e1).1;have pj:plc Ls k<=j:=by rcases h with⟨_,_,z⟩|⟨_,z⟩<;>lia
 have up:=c4u er (a1S lk) pj;have hl:(a1r Ls row).length=Ls.length:=a1k (a0K _);have ep:=b5x (row:=row) e1;have eq:=d4o (ts:=ts) (n:=n) (l:=l) hl e1 ep;unfold d0e a7f;rw[hk,<-b2v k up,<-c2t k up]
 rcases h with⟨rfl,g,rfl⟩|⟨rfl,rfl⟩
 ·have z:=d0d (t:=0) (a5u hl (a0K _)) e1 eq (by unfold c4p;rw[wB g];simp);rw[a8I]at z;rw[z];unfold c4p b6i a1y;rw[wB g,wB g];rfl
 ·by_cases g:1<L.gs.length
  ·have z:=d0d (t:=1) (a5u hl (a0K _)) e1 eq (by unfold c4p;rw[wB g];simp);rw[wB g]at er⊢;rw[z];have e0:=a6s er (show plc Ls k<plc Ls k+1 by lia);unfold c4p b6i a1y;rw[wB g,wB g,wB g,e0];rfl
  ·have z:=d0d (t:=0) (a5u hl (a0K _)) e1 eq (by unfold c4p;rw[wA g];simp);rw[wA g]at er⊢;rw[z];unfold c4p b6i a1y;rw[wA g,wA g,wA g];rfl
theorem c4v{k:Nat}(h:row.length=(a0q Ls).length)(h':row'.length=(a0q Ls).length)(lm:(a7f ts n Ls row l).length=(a0q Ls).length)(lm':(a7f ts n Ls row' l).length=(a0q Ls).length)(hL: ∀p∈a0q Ls,∃L,Ls[p.2.1]? =some L)(e:row.take k=row'.take k):(a7f ts n Ls row l).take k=(a7f ts n Ls row' l).take k:=by
 refine a3S fun j=>?_;by_cases hj:j<k
 ·rw[a2G hj,a2G hj];by_cases c:j<(a0q Ls).length
  ·have ep:=a0A c;obtain⟨L,eL⟩:=hL _ (a2Y c);have ej:row.take j=row'.take j:=by
    have z:=a1W (List.take j) e;rw[a6G,a6G,a4K (a1S hj)]at z;exact z
   rw[b6h ep eL ej,b6h ep eL (rfl:row'.take j=row'.take j),a6s e hj]
  ·rw[a1O (by lia),a1O (by lia)]
 ·rw[a1O (by rw[a0W];lia),a1O (by rw[a0W];lia)]
theorem d0f{p:Bool×Nat×Nat}(hp:p∈a0q Ls): ∃L,Ls[p.2.1]? =some L:=by
 obtain⟨j,e⟩:=a4S hp;obtain⟨k,L,e1,h⟩:=b6g Ls.length (a0K _) j e
 rcases h with⟨rfl,_⟩|⟨rfl,_⟩<;>exact⟨L,e1⟩
theorem RowIn.mix{k:Nat}(h:RowIn Ls row)(h':RowIn Ls row')(hk:k<=row.length):RowIn Ls (row.take k++row'.drop k):=by
 have e1:=h.len;have e2:=h'.len;refine⟨by rw[a0L,a0W,a3N];lia,fun j p r ep er=>?_⟩;by_cases c:j<k
 ·rw[a0N (by rw[a0W];lia),a2G c]at er;exact h.lt j p r ep er
 ·rw[a0M (by rw[a0W];lia),a0W,a4K hk,a5E,show k+(j-k)=j by lia]at er;exact h'.lt j p r ep er
theorem RowIn.zeros{k:Nat}(h:RowIn Ls row)(pos: ∀p∈a0q Ls,0<p.2.2)(hk:k<=row.length):RowIn Ls (row.take k++List.replicate ((a0q Ls).length-k) 0):=by
 have e1:=h.len;refine⟨by rw[a0L,a0W,a6O];lia,fun j p r ep er=>?_⟩;by_cases c:j<k
 ·rw[a0N (by rw[a0W];lia),a2G c]at er;exact h.lt j p r ep er
 ·rw[a0M (by rw[a0W];lia),List.getElem?_replicate]at er;split at er
  ·cases er;exact pos p (a0E ep)
  ·cases er
end
def dtPt(p:Bool×Nat×Nat):Dt:= .tup [.str (d3b p.1),.int (p.2.1:Int),.int (p.2.2:Int)]
theorem d0g{K:W.Frag}{H:Hp}{l:Ad}{as:As}{ps:List (Bool×Nat×Nat)}(h1:H l=some (.lst (as.map .ref)))(S:PartsAt H as ps):Rep K H 2 (.lst (ps.map dtPt)) (.ref l):=by
 refine .lst (SqL.of h1) (by rw[a0C,a0C,S.len]) fun i d v e1 e2=>?_;rw[a0F]at e1 e2;obtain⟨p,ep,rfl⟩:=a0O.mp e1;obtain⟨a,ea,rfl⟩:=a0O.mp e2;refine .tup (SqT.of (S.is i a p ea ep)) rfl fun j d v e1 e2=>?_
 match j,e1,e2 with
 |0,e1,e2=>cases e1;cases e2;exact .str _ _
 |1,e1,e2=>cases e1;cases e2;exact .int _ _
 |2,e1,e2=>cases e1;cases e2;exact .int _ _
def d4q(CL CR:Ad):Sp:=fun vs H Q _=> ∃(p aa m:Ad) (ts:LN) (n:Nat) (fam:LN) (Ls:List Lv) (ahead:Nsq) (j lt:Nat) (pt:Bool×Nat×Nat) (L:Lv),vs=[.ref p,nv j,.ref aa,nv lt]/\RowAt CL CR H p m ts n Ls/\Mach H m ts n/\RowOf ts n fam Ls/\H aa=some (.tup (ahead.map nv))/\ahead.length=j/\RowIn Ls (ahead++List.replicate ((a0q Ls).length-j) 0)/\(a0q Ls)[j]? =some pt/\Ls[pt.2.1]? =some L/\lt<ts.length/\
 ∀t H',Same H H'->H' t=some (.tup (((List.range pt.2.2).map (d0e ts n Ls (ahead++List.replicate ((a0q Ls).length-j) 0) lt pt L)).map nv))->Q (.ref t) H'
theorem e0e(xs:List V)(k:Nat):b6q xs none (some (k:Int))=xs.take k:=by
 unfold b6q;rw[HT.sIx_none,HT.sIx_nat,a7A,b0E,List.take_eq_take_iff];lia
theorem d3f(ts:LN)(L:Lv)(here there:Nsq)(l:Nat):(a6x ts L here there l).1.length=L.us.length:=by
 unfold a6x;split
 ·split
  ·show(trn _ _ _ _).length=_;unfold trn;rw[a0C,a9i]
  ·exact a2A
 ·exact a2A
theorem PairsAt.take{H:Hp}{as:As}{ps:List (Nat×Nat)}(h:PairsAt H as ps)(k:Nat):PairsAt H (as.take k) (ps.take k):=⟨by rw[a0W,a0W,h.len],fun i a p e1 e2=>by
 have hi:i<k:=by
  have:=(a0B.mp e1).1;rw[a0W]at this;lia
 rw[a2G hi]at e1 e2;exact h.is i a p e1 e2⟩
theorem d7d{CL CR:Ad}(F:Fun K "move" "Row.move" a8e f fd)(u_LevelParts:OwnC K CL ["machine","group","tiles","turns","tile_count"])(u_Row:OwnC K CR ["rooms","steps"])(jT:a2h P w K mg base CR "parts" 3 ["self"] (c0i CL CR))(jV:a2h P w K mg base CR "paired" 3 ["self","row"] (b5z CL CR))(jW:a2h P w K mg base CR "walked" 7 ["self","pairs","letter"] (b6e CL CR))(jG:a2h P w K mg base CL "deed_of" 5 ["self","here","there","letter"] (c9x CL K))(jI:a2h P w K mg base CL "turned" 3 ["self","deed","turning"] (b2s CL))(jF:a2h P w K mg base CL "brought" 1 ["self","deed","turning","bringing"] (b2t CL))(jC:mg "len"=none)(jE:mg "tuple"=none)(jD:mg "range"=none):FnOk P w K mg base CX0 9 f fd ["self","n","ahead","letter"] (d4q CL CR):=by
 refine F.ok kK (fun vs H Q E h=>?_) (fun cdv A outer s H vs Q E hr h=>?_)
 ·obtain⟨p,aa,m,ts,n,fam,Ls,ahead,j,lt,pt,L,rfl,_⟩:=h;rfl
 obtain⟨p,aa,m,ts,n,fam,Ls,ahead,j,lt,pt,L,rfl,RA,M,R,hah,la,ri,ep,eL,ll,q⟩:=h;have hu:=hr.units;obtain⟨dx,r,st,qs,h1,h2,h3,S⟩:=id RA;have l32:=R.few;have lz:(a0q Ls).length<=2 * Ls.length:=a4k Ls Ls.length;have jl:=(a0B.mp ep).1;refine⟨_,(a0d (a0p (i:=4) kK.nd rfl (Or.inl rfl) (a0w a1j (a5e (pv 0) u_Row.cl jT hr.m) (pv 1) (fun _ _=>rfl))) (a0d (a0p (i:=5) kK.nd rfl (Or.inr rfl) (a0w a1j (a2f (pv 0) rfl) (a0w a0x (pv 4) a0l (fun _ _=>rfl)) (fun _ _=>rfl))) (a0d (a0p (i:=6) kK.nd rfl (Or.inl rfl) (a1f (pv 0) u_Row.cl jV hr.m (a0g (a1w c6k (pv 2) (a1w d5n (a4o (a0g a0l a0i)) (a1w d7q (a0t a0n rfl jC a4C (a0g (a5e (pv 0) u_Row.cl jT hr.m) a0i)) (pv 1)))) a0i))) (a0d (a0p (i:=7) kK.nd rfl (Or.inl rfl) (a1f (pv 0) u_Row.cl jW hr.m (a0v (a0b (a4p b8s (pv 6) a8w (a4z (a0w a0x (pv 4) a0l (fun _ _=>rfl)))) (a0b (pv 3) a0o rfl) rfl)))) (a0d (a0p (i:=8) kK.nd rfl (Or.inr rfl) (a1f (pv 5) u_LevelParts.cl jG hr.m (a0v (a0b (a0w a0x (pv 7) a0l (fun _ _=>rfl)) (a0b (a0w a0x (pv 7) a0l (fun _ _=>rfl)) (a0b (pv 3) a0o rfl) rfl) rfl)))) (a0d (a4l (a1p d4v (a0w a0x (pv 4) a0l (fun _ _=>rfl)) c5a (a2e _)) (a0h (a0s (a1i a1d rfl jE a6V (a0g (a1m (CompSc.to (N:=["self","n","ahead","letter","part","step","pairs","sets","deed","turning"]) (osc:=a0e a8e) (vs:=["room"]) {}) rfl rfl (a2s rfl jD (a0g (a0w a0x (pv 4) a0l (fun _ _=>rfl)) a0i)) (fun _ _ _ _=>a2q) (fun _ _ _ _=>(a1f (pv 6) u_LevelParts.cl jI hr.m (a0v (a0b (pv 9) (a0b (pv 0) a0o rfl) rfl))))) a0i)))) a1v) (a0d (a0p (i:=9) kK.nd rfl (Or.inr rfl) (a0w a0x (a0w a1j (pv 6) (a0w a0x (pv 4) a0l (fun _ _=>rfl)) (fun _ _=>rfl)) a0l (fun _ _=>rfl))) (a0h (a0s (a1i a1d rfl jE a6V (a0g (a1m (CompSc.to (N:=["self","n","ahead","letter","part","step","pairs","sets","deed","turning"]) (osc:=a0e a8e) (vs:=["room"]) {}) rfl rfl (a2s rfl jD (a0g (a0w a0x (pv 4) a0l (fun _ _=>rfl)) a0i)) (fun _ _ _ _=>a2q) (fun _ _ _ _=>(a1f (pv 6) u_LevelParts.cl jF hr.m (a0v (a0b (pv 9) (a0b (pv 10) (a0b (pv 0) a0o rfl) rfl) rfl))))) a0i))))))))))),?_⟩;refine⟨_,rfl,p,dx,_,rfl,h1,(by kernel_rfl),p,m,ts,n,Ls,rfl,RA,R.few,fun l ps H1 g1 nl el PS=>?_⟩;obtain⟨pa,epa⟩: ∃pa,ps[j]? =some pa:=⟨_,a0A (by rw[PS.len];exact jl)⟩;have hpa:=PS.is j pa pt epa ep;obtain⟨b,eb⟩: ∃b,qs[pt.2.1]? =some b:=⟨_,a0A (by rw[S.len];exact(a0B.mp eL).1)⟩;have kl:=(a0B.mp eL).1;refine⟨_,rfl,l,_,_,_,rfl,rfl,SqL.of el,a1x (j:=j) (v:= .ref pa) (by rw[a0F,epa];rfl),?_⟩;refine⟨_,rfl,p,CR,dx,_,_,rfl,g1 _ _ h1,u_Row.cl,u_Row.no,b8i,_,rfl,pa,_,_,_,rfl,rfl,SqT.of hpa,rfl,st,_,_,_,rfl,rfl,SqL.of (g1 _ _ h3),a1x (j:=pt.2.1) (v:= .ref b) (by rw[a0F,eb];rfl),?_⟩;refine⟨_,rfl,p,dx,_,rfl,g1 _ _ h1,(by kernel_rfl),_,rfl,by show 1<=sizeLine;decide,fun z hz=>?_⟩;have kz:=a0c hz (.tup [V.int 0]);have g2:=g1.trans kz;refine⟨_,rfl,p,dx,_,rfl,g2 _ _ h1,(by kernel_rfl),p,m,ts,n,Ls,rfl,RA.keeps g2.keeps,R.few,fun l2 ps2 H3 g3 nl2 el2 PS2=>?_⟩;have g03:=g2.trans g3;have k1:V.int (((ps2.map V.ref).length:Nat)-((j:Nat):Int))=V.int ((((a0q Ls).length-j-1+1:Nat)):Int):=by
  rw[a0C,PS2.len]
  congr 1
  lia
 refine⟨l2,_,rfl,.inl (SqL.of el2),_,rfl,_,_,rfl,rfl,z,[V.int 0],(a0q Ls).length-j-1,rfl,k1,g3 _ _ a0a,by lia,by decide,fun zz H4 g4 ezz=>?_⟩;have g04:=g03.trans g4;have e0:ahead.map nv++(List.replicate ((a0q Ls).length-j-1+1) [V.int 0]).flatten=(ahead++List.replicate ((a0q Ls).length-j) 0).map nv:=by
  rw[a7W,a1B,List.map_replicate,show(a0q Ls).length-j-1+1=(a0q Ls).length-j by lia];rfl
 refine⟨aa,zz,_,_,rfl,rfl,g04 _ _ hah,ezz,?_,fun ra H5 g5 era=>?_⟩
 ·rw[a7W,a0C,a6O,a0Y];lia
 rw[e0]at era;have po:=ri.po M R;have rl:=ri.len;have hl:(a1r Ls (ahead++List.replicate ((a0q Ls).length-j) 0)).length=Ls.length:=a1k (a0K _);have epr:=b5x (row:=ahead++List.replicate ((a0q Ls).length-j) 0) eL;have bt:=b6c M R hl po ll pt.2.1 (a1S kl);have p0:=po _ _ _ eL epr;have ns: ∀p,PairOk L p->_:=fun p pk=>(b0s M R eL (p:=p) pk ll bt.hf bt.hp bt.tf bt.s).2.2;have dtl:=fun ct no=>b2r M R eL ll bt.hf bt.hp bt.s ct no;unfold d0e at q;generalize ahead++List.replicate ((a0q Ls).length-j) 0=row0 at era ri po rl hl epr p0 bt ns dtl q;have g05:=g04.trans g5;refine⟨p,ra,m,ts,n,Ls,row0,rfl,RA.keeps g05.keeps,R.few,era,rl,fun pl as H6 g6 npl epl PA=>?_⟩;have g06:=g05.trans g6;have hpa6:=(((kz.trans g3).trans g4).trans (g5.trans g6)) _ _ hpa;refine⟨_,rfl,p,dx,_,rfl,g06 _ _ h1,(by kernel_rfl),_,rfl,_,rfl,pa,_,_,_,rfl,rfl,SqT.of hpa6,rfl,_,rfl,pl,_,rfl,SqL.of epl,fun sl hsl=>?_⟩;rw[e0e,<-List.map_take];have ks:=a0c hsl (.lst ((as.take pt.2.1).map V.ref));have g07:=g06.trans ks;refine⟨_,rfl,p,sl,m,as.take pt.2.1,ts,n,fam,Ls,a1r Ls row0,lt,pt.2.1,rfl,RA.keeps g07.keeps,M.same g07,R,a0a,(PA.st (a2g ks)).take _,hl,a1S kl,po,ll,fun rr h t fo es H8 g8 er eh et ef PE=>?_⟩;have g08:=g07.trans g8;have SA:=(S.is pt.2.1 b L eb eL).keeps g08.keeps;obtain⟨dxl,g,tt,u,gr,s1,_⟩:=id SA;have ok:=R.ok L (a0E eL);refine⟨_,rfl,b,dxl,_,rfl,s1,(by kernel_rfl),_,rfl,rr,_,_,_,rfl,rfl,SqT.of er,rfl,_,rfl,rr,_,_,_,rfl,rfl,SqT.of er,rfl,_,rfl,b,h,t,m,ts,n,fam,L,_,_,lt,rfl,SA,M.same g08,R.ff,ok,eh,et,bt.hf,ll,dtl,fun da H9 g9 DA=>?_⟩;have g09:=g08.trans g9;have SA9:=SA.keeps g9.keeps;have s19:=g9 _ _ s1;have hpa9:=((ks.trans g8).trans g9) _ _ hpa6;have epl9:=((ks.trans g8).trans g9) _ _ epl;have PA9:=PA.st (a2g ((ks.trans g8).trans g9));have dl:=d3f ts L (a1s ts n Ls (a1r Ls row0) pt.2.1) (thr ts n Ls (a1r Ls row0) lt pt.2.1) lt;generalize a6x ts L (a1s ts n Ls (a1r Ls row0) pt.2.1) (thr ts n Ls (a1r Ls row0) lt pt.2.1) lt=dd at DA dl q ns;have pd:(pt.1=true/\pt.2.2=L.gs.length)∨(pt.1=false/\pt.2.2=L.us.length):=by
  obtain⟨k,L',e1,h⟩:=b6g Ls.length (a0K _) j ep
  rcases h with⟨rfl,_,_⟩|⟨rfl,_⟩
  ·have eL':Ls[k]? =some L:=eL;rw[e1]at eL';cases eL';exact .inl ⟨rfl,rfl⟩
  ·have eL':Ls[k]? =some L:=eL;rw[e1]at eL';cases eL';exact .inr ⟨rfl,rfl⟩
 have gf:=ok.few M R.ff;have uf:=(ok.p.inU M R.ff).2;obtain⟨tf,i,mn⟩:=pt
 rcases pd with⟨rfl,rfl⟩|⟨rfl,rfl⟩
 ·refine⟨_,rfl,pa,_,_,_,rfl,rfl,SqT.of hpa9,rfl,rfl,_,rfl,b1c ?_⟩;refine⟨_,rfl,pa,_,_,_,rfl,rfl,SqT.of hpa9,rfl,(L.gs.length:Int),rfl,by lia,by lia,a4a (fun k ys H'=>Same H9 H'/\ys=((List.range k).map (a5t L dd)).map nv) (by rw[a1U,a0Y];lia) ⟨Same.refl _,rfl⟩ (fun k ys H' _ p=>by rw[p.2,a0C,a0C,a2A];exact a0K _) (fun k ys H' hk p=>?_) (fun ys H' p sl2 hs2=>?_)⟩
  ·obtain⟨gk,rfl⟩:=p;have hk':k<L.gs.length:=by simpa using hk
   have zk:V.int ((0:Int)+((k:Nat):Int))=nv k:=by show V.int (0+(k:Int))=V.int (k:Int);rw[a7J]
   rw[zk];have pm:=ok.pm M R.ff (a0E (a3z hk'));have gl:(L.gs.getD k []).length=L.us.length:=by rw[pm.length_eq,a2A]
   refine⟨a1l,a4r ⟨_,rfl,b,dxl,_,rfl,gk _ _ s19,(by kernel_rfl),_,rfl,_,rfl,b,da,m,ts,L,dd,k,rfl,SA9.keeps gk.keeps,DA.same gk,hk',fun x hx=>by rw[dl];exact a1Q.mp (pm.mem_iff.mp hx),by lia,(ns (k,(a1y Ls row0 i L).2) ⟨hk',p0.t⟩).1,fun H' g'=>⟨gk.trans g',?_⟩⟩⟩;rw[b0L,a1B,a1B];rfl
  ·obtain⟨gk,rfl⟩:=p;have ks2:=a0c hs2 (.lst (((List.range (L.gs.length:Int).toNat).map (a5t L dd)).map nv));refine⟨sl2,_,rfl,.inl ⟨SqL.of a0a,fun t2 ht2=>?_⟩⟩;exact q t2 _ (((g09.trans gk).trans ks2).trans (a0c ht2 _)) a0a
 ·refine⟨_,rfl,pa,_,_,_,rfl,rfl,SqT.of hpa9,rfl,rfl,_,rfl,a9l ?_⟩;obtain⟨pb,epb⟩: ∃pb,as[i]? =some pb:=⟨_,a0A (by rw[PA.len,hl];exact kl)⟩;have hpb:=PA9.is i pb _ epb epr;refine⟨_,rfl,_,rfl,pa,_,_,_,rfl,rfl,SqT.of hpa9,rfl,pl,_,_,_,rfl,rfl,SqL.of epl9,a1x (j:=i) (v:= .ref pb) (by rw[a0F,epb];rfl),pb,_,_,_,rfl,rfl,SqT.of hpb,rfl,?_⟩;refine⟨_,rfl,pa,_,_,_,rfl,rfl,SqT.of hpa9,rfl,(L.us.length:Int),rfl,by lia,by lia,a4a (fun k ys H'=>Same H9 H'/\ys=((List.range k).map (a8r L dd (a1y Ls row0 i L).1)).map nv) (by rw[a1U,a0Y];lia) ⟨Same.refl _,rfl⟩ (fun k ys H' _ p=>by rw[p.2,a0C,a0C,a2A];exact a0K _) (fun k ys H' hk p=>?_) (fun ys H' p sl2 hs2=>?_)⟩
  ·obtain⟨gk,rfl⟩:=p;have zk:V.int ((0:Int)+((k:Nat):Int))=nv k:=by show V.int (0+(k:Int))=V.int (k:Int);rw[a7J]
   rw[zk];refine⟨a1l,a4r ⟨_,rfl,b,dxl,_,rfl,gk _ _ s19,(by kernel_rfl),_,rfl,_,rfl,_,rfl,b,da,m,ts,L,dd,_,k,rfl,SA9.keeps gk.keeps,DA.same gk,p0.g,(ns _ p0).2,gk,?_⟩⟩;rw[b0L,a1B,a1B];rfl
  ·obtain⟨gk,rfl⟩:=p;have ks2:=a0c hs2 (.lst (((List.range (L.us.length:Int).toNat).map (a8r L dd (a1y Ls row0 i L).1)).map nv));refine⟨sl2,_,rfl,.inl ⟨SqL.of a0a,fun t2 ht2=>?_⟩⟩;exact q t2 _ (((g09.trans gk).trans ks2).trans (a0c ht2 _)) a0a
def d3g(K:W.Frag):Sp:=fun vs H Q _=> ∃(a:Ad) (ns:Zs),vs=[.ref a]/\SqL K H a (ns.map V.int)/\ns.length<=63/\Tabs H/\ ∀H',Q (.bl true) H'
def c2u:Sp:=fun vs H Q _=> ∃(l ce:Ad) (ps:As) (Ls:List Lv) (cs:Zs) (c0:Int) (st:Nat),vs=[.ref l,.ref ce,.int c0,nv st]/\H l=some (.lst (ps.map .ref))/\PartsAt H ps (a0q Ls)/\Ls.length<=32/\(∀p∈a0q Ls,0<p.2.2)/\H ce=some (.lst (cs.map V.int))/\1<=cs.length/\cs.length<=80/\st<=64/\
 ∀t row H',Same H H'->H' t=some (.tup (row.map nv))->RowIn Ls row->Q (.ref t) H'
theorem c2v(ns:Zs)(lo hi:Option Int): ∃c0:Zs,b6q (ns.map V.int) lo hi=c0.map V.int/\c0.length<=ns.length:=by
 refine⟨(ns.drop (HT.sIx (ns.map V.int).length 0 lo)).take (HT.sIx (ns.map V.int).length (ns.map V.int).length hi-HT.sIx (ns.map V.int).length 0 lo),?_,?_⟩
 ·unfold b6q;rw[List.map_take,List.map_drop]
 ·rw[a0W,a3N];lia
theorem d0h(F:Fun K "_law_row" "_law_row" b9r f fd)(jC:mg "len"=none)(jE:mg "tuple"=none):FnOk P w K mg base CX0 1 f fd ["_law_parts","_law_cells","_law_cell","_law_step"] c2u:=by
 refine F.ok kW (fun vs H Q E h=>?_) (fun cdv A outer s H vs Q E hr h=>?_)
 ·obtain⟨l,ce,ps,Ls,cs,c0,st,rfl,_⟩:=h;rfl
 obtain⟨l,ce,ps,Ls,cs,c0,st,rfl,el,PS,l32,pos,hce,c1,c64,s64,q⟩:=h;have hu:=hr.units;refine⟨_,(a0d (a0p (i:=4) kW.nd rfl (Or.inl rfl) (a2t a0i)) (a0d (a3o a2J rfl (a2a (pv 0)) (b3h rfl (a2m (a1c (i:=5) kW.nd rfl (Or.inl rfl)) (a2m (a1c (i:=6) kW.nd rfl (Or.inl rfl)) (a2m (a1c (i:=7) kW.nd rfl (Or.inl rfl)) a8u)))) (a0d (a0p (i:=8) kW.nd rfl (Or.inl rfl) (a0t a0n rfl jC a4C (a0g (pv 4) a0i))) (a0d (a0p (i:=6) kW.nd rfl (Or.inl rfl) (a0w a1j (pv 1) (a1w a5a (a1w a7b (a1w d3n (pv 8) (pv 3)) a0l) (a0t a0n rfl jC a4C (a0g (pv 1) a0i))) (fun _ _=>rfl))) (a0h (a3f (a6z a1P a2D a2E a2b (pv 4) (a0g (a1w a5a (a1w a7b (a1w a7g (pv 6) (a1w a7b a0l (pv 8))) (a1w d3n (pv 2) (pv 3))) (pv 7)) a0i))))))) (a0h (a0s (a1i a1d rfl jE a6V (a0g (pv 4) a0i)))))),?_⟩;refine⟨by show 0<=sizeLine;decide,fun fo hfo=>?_⟩;have k0:=a0c hfo (.lst []);have lps:=PS.len;have lz:(a0q Ls).length<=2 * Ls.length:=a4k Ls Ls.length
 let Pv:Nat->L2.St->Hp->Prop:=fun i σ H'=>Same H H'/\ ∃(rs:Nsq) (o4 o5 o6 o7:Option V),H' fo=some (.lst (rs.map nv))/\rs.length=i/\(∀(j:Nat) (p:Bool×Nat×Nat) (r:Nat),(a0q Ls)[j]? =some p->rs[j]? =some r->r<p.2.2)/\σ=[some (.ref l),some (.ref ce),some (.int c0),some (nv st),some (.ref fo),o4,o5,o6,o7]
 refine⟨_,rfl,l,rfl,⟨_,SqL.of (k0 _ _ el)⟩,a4n (xs:=ps.map .ref) Pv ⟨k0,[],none,none,none,none,a0a,rfl,(fun j p r _ e=>by simp at e),rfl⟩ (fun i σ H' _ p=>SqL.of (p.1 _ _ el)) (fun i v σ H2 hv pv=>?_) (fun σ H2 pv=>?_)⟩
 ·obtain⟨g2,rs,o4,o5,o6,o7,ef,lr,al,rfl⟩:=pv;rw[a0F]at hv;obtain⟨b,eb,rfl⟩:=a0O.mp hv;have li:=(a0B.mp eb).1;obtain⟨p,ep⟩: ∃p,(a0q Ls)[i]? =some p:=⟨_,a0A (by lia)⟩;have hb:=g2 _ _ (PS.is i b p eb ep);have pp:=pos p (a0E ep);refine⟨b,_,rfl,SqT.of hb,rfl,_,_,rfl,_,_,rfl,_,_,rfl,rfl,?_⟩;refine⟨_,rfl,fo,_,rfl,.inl (SqL.of ef),?_⟩
  try dsimp only
  rw[a0C,lr];obtain⟨j,hj,lj⟩:=mod_nv (c:=((i:Nat):Int) * ((st:Nat):Int)+1) (show 0<cs.length by lia);obtain⟨c,ec⟩: ∃c,cs[j]? =some c:=⟨_,a0A lj⟩;refine⟨_,rfl,_,rfl,_,rfl,_,_,rfl,rfl,.inl ⟨by lia,by lia⟩,_,_,rfl,rfl,_,rfl,ce,_,rfl,.inl (SqL.of (g2 _ _ hce)),?_⟩
  try dsimp only
  rw[a0C];refine⟨_,_,rfl,rfl,(by show(0:Int)<((cs.length:Nat):Int);lia),?_⟩
  try dsimp only
  rw[hj];refine⟨ce,_,_,_,rfl,rfl,SqL.of (g2 _ _ hce),a1x (j:=j) (v:= .int c) (by rw[a0F,ec];rfl),?_⟩;refine⟨_,rfl,.inl ⟨rfl,_,SqL.of ef⟩,_,rfl,_,rfl,_,_,rfl,rfl,_,_,rfl,rfl,?_⟩;refine⟨⟨by lia,by lia⟩,_,rfl,_,rfl,_,_,rfl,rfl,.inr ⟨by show -(2 ^ 64)<((st:Nat):Int);lia,by show((st:Nat):Int)<2 ^ 64;lia⟩,_,_,rfl,rfl,_,rfl,_,_,rfl,rfl,(by show(0:Int)<((p.2.2:Nat):Int);lia),?_⟩;obtain⟨r,er,rl⟩:=mod_nv (c:=c/ (1+((i:Nat):Int))+c0 * ((st:Nat):Int)) pp
  try dsimp only
  rw[er];refine⟨fo,_,_,rfl,rfl,ef,by rw[a0C,a0Y];lia,?_⟩;refine⟨a1e g2 hfo,rs++[r],_,_,_,_,by rw[a0a,a1B];rfl,by rw[a0L,lr];rfl,fun j' p' r' e1 e2=>?_,rfl⟩;refine a6r (P:=fun j r=> ∀p,(a0q Ls)[j]? =some p->r<p.2.2) (fun j r e p e'=>al j p r e' e) (fun p' e=>?_) j' r' e2 p' e1;rw[lr,ep]at e;cases e;exact rl
 ·obtain⟨g2,rs,o4,o5,o6,o7,ef,lr,al,rfl⟩:=pv;rw[a0C,lps]at lr;refine⟨_,rfl,fo,_,rfl,.inl ⟨SqL.of ef,fun t ht=>?_⟩⟩;exact q t rs _ (g2.trans (a0c ht _)) a0a ⟨lr,al⟩
theorem e0f{CL CR:Ad}(F:Fun K "law" "law" d7f f fd)(u_Row:OwnC K CR ["rooms","steps"])(kY:a0u P w K mg base "_law_machine" 3 ["_law_script"] (b7u K))(rH:c8j P w K mg base "Row" CR 20 ["self","machine"] (b8j CL CR))(jT:a2h P w K mg base CR "parts" 3 ["self"] (c0i CL CR))(kO:a2h P w K mg base CR "moved" 9 ["self","row","letter"] (d0a CL CR))(qP:a2h P w K mg base CR "move" 9 ["self","n","ahead","letter"] (d4q CL CR))(qI:a0u P w K mg base "_law_row" 1 ["_law_parts","_law_cells","_law_cell","_law_step"] c2u)(jC:mg "len"=none):FnOk P w K mg base CX0 22 f fd ["_law_script"] (d3g K):=by
 refine F.ok qJ (fun vs H Q E h=>?_) (fun cdv A outer s H vs Q E hr h=>?_)
 ·obtain⟨a,ns,rfl,_⟩:=h;rfl
 obtain⟨a,ns,rfl,hS,h63,hT,q⟩:=h;have hu:=hr.units;have hu1:=a7s hr;refine⟨_,(a0d (a0p (i:=1) qJ.nd rfl (Or.inl rfl) (a0m kY hr.m rfl (a0g (pv 0) a0i))) (a0d (a0p (i:=2) qJ.nd rfl (Or.inl rfl) (c1y rH hr.m rfl (a0g (pv 1) a0i))) (a0d (a0p (i:=3) qJ.nd rfl (Or.inl rfl) (a5e (pv 2) u_Row.cl jT hr.m)) (a0d (a4l (a1p (c0y hu) (pv 3) (a2t a0i) (a2e _)) (a0h (a0s (b0t (c0y hu) (a1f (pv 2) u_Row.cl kO hr.m (a0v (a0b (a4o a0i) (a0b a0l a0o rfl) rfl))) (a4o a0i) (a2e _)))) a1v) (a0d (a0p (i:=4) qJ.nd rfl (Or.inl rfl) (a1w b4m (a4p b8s (pv 0) (a4z a0l) (a4z a0l)) (a2t (a0g (a0t a0n rfl jC a4C (a0g (pv 0) a0i)) a0i)))) (a0d (a3o a2J rfl (a2a (a1w b4m (a4p b8s (pv 0) (a4z a0l) (a4z a0l)) (a2t (a0g a0l a0i)))) (a1c (i:=5) qJ.nd rfl (Or.inl rfl)) (a0d (a0p (i:=6) qJ.nd rfl (Or.inl rfl) (a1w a5a (a1w a7g (pv 5) a0l) (a0t a0n rfl jC a4C (a0g (pv 3) a0i)))) (a0d (a0p (i:=7) qJ.nd rfl (Or.inl rfl) (a0m qI hr.m rfl (a0v (a0b (pv 3) (a0b (pv 4) (a0b (a1w a7g (pv 5) a0l) (a0b a0l a0o rfl) rfl) rfl) rfl)))) (a0d (a0p (i:=8) qJ.nd rfl (Or.inl rfl) (a1w c6k (a4p b1o (pv 7) a8w (a4z (a1w a7b (pv 6) a0l))) (a4p b1o (a0m qI hr.m rfl (a0v (a0b (pv 3) (a0b (pv 4) (a0b (a1w a7g (pv 5) a0l) (a0b a0l a0o rfl) rfl) rfl) rfl))) (a4z (a1w a7b (pv 6) a0l)) a8w))) (a0d (a0p (i:=9) qJ.nd rfl (Or.inl rfl) (a1w a5a (pv 5) (a0t a0n rfl jC a4C (a0g (pv 1) a0i)))) (a0d (a0p (i:=10) qJ.nd rfl (Or.inl rfl) (a1f (pv 2) u_Row.cl kO hr.m (a0v (a0b (pv 7) (a0b (pv 9) a0o rfl) rfl)))) (a0d (a4l (a1p (b6x hu) (a4p b1o (a1f (pv 2) u_Row.cl kO hr.m (a0v (a0b (pv 8) (a0b (pv 9) a0o rfl) rfl))) a8w (a4z (a1w a7b (pv 6) a0l))) (a4p b1o (pv 10) a8w (a4z (a1w a7b (pv 6) a0l))) (a2e _)) (a0h (a0s c4z)) a1v) (a0h (a4l (PW.pt (b3g (a1p c5h (pv 6) a0l (a2e _)) (a8t (a1p op_ne (a0w a0x (a1f (pv 2) u_Row.cl qP hr.m (a0v (a0b (pv 6) (a0b (a4p b1o (pv 7) a8w (a4z (pv 6))) (a0b (pv 9) a0o rfl) rfl) rfl))) (a0w a0x (pv 7) (pv 6) (fun _ _=>rfl)) (fun _ _=>rfl)) (a0w a0x (pv 10) (pv 6) (fun _ _=>rfl)) (a2e _))))) (a0h (a0s c4z)) a1v))))))))) (a0h (a0s c4z)))))))),?_⟩;refine⟨_,rfl,a,ns,rfl,hS,fun m ts n H1 g1 M=>?_⟩;refine⟨_,rfl,fun x dx nx ndx nex=>?_⟩;have gx:Same H1 (upd (upd H1 dx (.own x)) x (.ins CR dx [])):=fun b o hb=>by
  rw[a0f (a0j hb nx),a0f (a0j hb ndx)];exact hb
 refine⟨H1,x,dx,m,ts,n,rfl,gx,nx,a0a,M,hT.same g1,fun fam Ls H4 k4 T4 R RA=>⟨rfl,?_⟩⟩;obtain⟨dx',r,st,qs,r1,r2⟩:=id RA;have M4:=M.keeps k4;have hS4:SqL K H4 a (ns.map V.int):=SqL.keeps (g1.seq hS) k4;have l32:=R.few;have lz:(a0q Ls).length<=2 * Ls.length:=a4k Ls Ls.length;refine⟨_,rfl,x,dx',_,rfl,r1,(by kernel_rfl),x,m,ts,n,Ls,rfl,RA,R.few,fun l ps H5 g5 nl el PS=>?_⟩;have lps:=PS.len;refine⟨_,rfl,by show 0<=sizeLine;decide,fun e0 he0=>?_⟩;have k5:=a0c he0 (.lst []);have g45:=g5.trans k5;have el5:=k5 _ _ el;have PS5:=PS.st (a2g k5);refine⟨l,e0,1,_,_,rfl,rfl,d0g el5 PS5,repLn (is:=[]) (SqL.of a0a),by decide,fun cc hc=>⟨_,rfl,?_⟩⟩;cases cc with
 |true=>
  have z:=hc.mp rfl;injection z with z
  have ep:a0q Ls=[]:=a9L.mp z;refine b1c ?_;refine⟨_,rfl,x,dx',_,rfl,g45 _ _ r1,(by kernel_rfl),by show 0<=sizeLine;decide,fun t0 ht0=>?_⟩;have kt:=a0c ht0 (.tup []);have g46:=g45.trans kt;have ri0:RowIn Ls []:=⟨by rw[ep];rfl,fun j p r _ e2=>by simp at e2⟩;have t1:=M.some1;have rm:=b6d M4 R ri0 (l:=0) (by lia);refine⟨x,t0,m,ts,n,fam,Ls,[],0,rfl,RA.keeps g46.keeps,M4.same g46,R,a0a,ri0,by lia,fun t2 H6 g6 e6=>⟨by show 0<=sizeLine;decide,fun t3 ht3=>⟨t2,t3,0,_,_,rfl,rfl,a5c (SqT.of (a0c ht3 _ _ _ e6)),a5c (is:=[]) (SqT.of a0a),by decide,fun cc hc=>?_⟩⟩⟩;have em:a7f ts n Ls [] 0=[]:=a2V.mp (by rw[rm.len,ep];rfl);have hc':cc=true:=hc.mpr (by rw[em]);subst hc';exact q _
 |false=>
 refine a9l ?_;have p1:0<(a0q Ls).length:=by
  cases ep:a0q Ls with
  |nil=>
   have:=hc.mpr (by rw[ep];rfl);cases this
  |cons _ _=>exact Nat.succ_pos _
 generalize upd H5 e0 (.lst [])=H6 at k5 g45 el5 PS5⊢;refine⟨_,rfl,_,rfl,_,rfl,a,_,rfl,g45.seq hS4,fun sl hsl=>?_⟩;obtain⟨c0,hc0,lc0⟩:=c2v ns (some 6) (some 70);rw[hc0];have ks:=a0c hsl (.lst (c0.map V.int));have esl:upd H6 sl (.lst (c0.map V.int)) sl=some (.lst (c0.map V.int)):=a0a;have g7:=g45.trans ks;generalize upd H6 sl (.lst (c0.map V.int))=H7 at ks esl g7⊢;refine⟨_,rfl,a,_,rfl,.inl (g7.seq hS4),by show 1<=sizeLine;decide,fun s2 hs2=>?_⟩;have k2:=a0c hs2 (.lst [V.int (((ns.map V.int).length:Nat):Int)]);refine⟨sl,s2,_,_,rfl,rfl,SqL.of (k2 _ _ esl),SqL.of a0a,by rw[a0C,a0Y];show c0.length+1<=_;lia,fun ce hce=>?_⟩;obtain⟨cs,hcs,lcs⟩: ∃cs:Zs,c0.map V.int++[V.int (((ns.map V.int).length:Nat):Int)]=cs.map V.int/\cs.length=c0.length+1:=⟨c0++[(((ns.map V.int).length:Nat):Int)],by rw[a1B];rfl,by rw[a0L];rfl⟩;rw[hcs];have k3:=a0c hce (.lst (cs.map V.int));have ece:upd (upd H7 s2 (.lst [V.int (((ns.map V.int).length:Nat):Int)])) ce (.lst (cs.map V.int)) ce=some (.lst (cs.map V.int)):=a0a;have g8:=g7.trans (k2.trans k3);have el8:=(ks.trans (k2.trans k3)) _ _ el5;have PS8:=PS5.st (a2g (ks.trans (k2.trans k3)));generalize upd (upd H7 s2 (.lst [V.int (((ns.map V.int).length:Nat):Int)])) ce (.lst (cs.map V.int))=H8 at ece g8 el8 PS8⊢;refine⟨_,rfl,_,rfl,_,rfl,a,_,rfl,g8.seq hS4,fun sl2 hsl2=>⟨by show 1<=sizeLine;decide,fun s3 hs3=>?_⟩⟩;obtain⟨d0,hd0,ld0⟩:=c2v ns (some 6) (some 46);rw[hd0]at hs3⊢;have ks2:=a0c hsl2 (.lst (d0.map V.int));have ks3:=a0c hs3 (.lst [V.int 0]);refine⟨sl2,s3,_,_,rfl,rfl,SqL.of (ks3 _ _ a0a),SqL.of a0a,by rw[a0C,a0Y];show d0.length+1<=_;lia,fun le hle=>?_⟩;obtain⟨ds,hds⟩: ∃ds:Zs,d0.map V.int++[V.int 0]=ds.map V.int:=⟨d0++[0],by rw[a1B];rfl⟩;rw[hds];have k9:=a0c hle (.lst (ds.map V.int));have ele:upd (upd (upd H8 sl2 (.lst (d0.map V.int))) s3 (.lst [V.int 0])) le (.lst (ds.map V.int)) le=some (.lst (ds.map V.int)):=a0a;have k89:=(ks2.trans ks3).trans k9;have g9:=g8.trans k89;have ece9:=k89 _ _ ece;have el9:=k89 _ _ el8;have PS9:=PS8.st (a2g k89);generalize upd (upd (upd H8 sl2 (.lst (d0.map V.int))) s3 (.lst [V.int 0])) le (.lst (ds.map V.int))=H9 at ele g9 ece9 el9 PS9⊢;have pos: ∀p∈a0q Ls,0<p.2.2:=fun p hp=>R.pos M hp
 let P2:Nat->L2.St->Hp->Prop:=fun i σ H'=>Same H9 H'/\ ∃(o5 o6 o7 o8 o9 o10:Option V),σ=[some (.ref a),some (.ref m),some (.ref x),some (.ref l),some (.ref ce),o5,o6,o7,o8,o9,o10]
 refine⟨le,rfl,⟨_,SqL.of ele⟩,a4n (xs:=ds.map V.int) P2 ⟨Same.refl _,none,none,none,none,none,none,rfl⟩ (fun i σ H' _ p=>SqL.of (p.1 _ _ ele)) (fun i v σ H10 hv pv=>?_) (fun σ H10 pv=>q _)⟩;obtain⟨g10,o5,o6,o7,o8,o9,o10,rfl⟩:=pv;rw[a0F]at hv;obtain⟨c,ec,rfl⟩:=a0O.mp hv;refine⟨_,rfl,_,_,rfl,rfl,⟨by decide,by decide⟩,_,rfl,l,_,rfl,.inl (SqL.of (g10 _ _ el9)),_,_,rfl,rfl,?_⟩
 try dsimp only
 rw[a0C,lps];refine⟨(by show(0:Int)<(((a0q Ls).length:Nat):Int);lia),?_⟩;obtain⟨j,ej,jl⟩:=mod_nv (c:=c/4) p1;rw[ej];refine⟨_,rfl,_,rfl,_,rfl,_,_,rfl,rfl,⟨by decide,by decide⟩,l,ce,ps,Ls,cs,c/64,1,rfl,g10 _ _ el9,PS9.st (a2g g10),R.few,pos,g10 _ _ ece9,by lia,by lia,by lia,fun ra row H11 g11 era ri=>?_⟩;have g1011:=g10.trans g11;have rl:=ri.len;have j1:((j:Nat):Int)+1=((j+1:Nat):Int):=rfl;refine⟨_,rfl,_,rfl,_,_,rfl,rfl,_,rfl,ra,_,rfl,era,fun s1 H12 g12 es1=>?_⟩;rw[j1,b6f]at es1;have g1012:=g1011.trans g12;refine⟨_,rfl,_,rfl,_,rfl,_,_,rfl,rfl,⟨by decide,by decide⟩,l,ce,ps,Ls,cs,c/64,3,rfl,g1012 _ _ el9,PS9.st (a2g g1012),R.few,pos,g1012 _ _ ece9,by lia,by lia,by lia,fun rb row3 H13 g13 erb ri3=>?_⟩;have rl3:=ri3.len;refine⟨_,rfl,_,_,rfl,rfl,_,rfl,rb,_,rfl,erb,fun s4 H14 g14 es4=>?_⟩;rw[j1,e0d (show j+1<=row3.length by lia)]at es4;refine⟨s1,s4,_,_,rfl,rfl,(g13.trans g14) _ _ es1,es4,?_,fun ro H15 g15 ero=>?_⟩
 ·rw[a0C,a0C,a0W,a3N,a0Y];lia
 rw[<-a1B]at ero;have rio:RowIn Ls (row.take (j+1)++row3.drop (j+1)):=ri.mix ri3 (by lia);have eto:(row.take (j+1)++row3.drop (j+1)).take (j+1)=row.take (j+1):=by
  rw[a8U (by rw[a0W];lia),a6G,a9T]
 generalize row.take (j+1)++row3.drop (j+1)=rowo at ero rio eto;have g1015:=g1012.trans ((g13.trans g14).trans g15);have g415:=g9.trans g1015;have era15:=(g12.trans ((g13.trans g14).trans g15)) _ _ era;have M15:=M4.same g415;obtain⟨rs15,hm15,hrl15,_⟩:=M15.refs;have t1:=M.some1;obtain⟨lt,elt,ltl⟩:=mod_nv (c:=c) (show 0<ts.length by lia);refine⟨_,rfl,_,rfl,m,_,rfl,.inr (SqT.of hm15),_,_,rfl,rfl,?_⟩
 try dsimp only
 rw[a0C,hrl15];refine⟨(by show(0:Int)<((ts.length:Nat):Int);lia),?_⟩;rw[elt];refine⟨_,rfl,x,dx',_,rfl,g415 _ _ r1,(by kernel_rfl),_,rfl,_,rfl,x,ra,m,ts,n,fam,Ls,row,lt,rfl,RA.keeps g415.keeps,M15,R,era15,ri,ltl,fun fn H16 g16 efn=>?_⟩;have g416:=g415.trans g16;have rim:=b6d M4 R ri ltl;have rimo:=b6d M4 R rio ltl;have emt:=c4v (ts:=ts) (n:=n) (l:=lt) rio.len ri.len rimo.len rim.len (fun p hp=>d0f hp) eto;refine⟨_,rfl,x,dx',_,rfl,g416 _ _ r1,(by kernel_rfl),_,rfl,_,rfl,x,ro,m,ts,n,fam,Ls,rowo,lt,rfl,RA.keeps g416.keeps,M4.same g416,R,g16 _ _ ero,rio,ltl,fun fo H17 g17 efo=>?_⟩;refine⟨_,rfl,_,_,rfl,rfl,_,rfl,fo,_,rfl,efo,fun s5 H18 g18 es5=>?_⟩;rw[j1,b6f]at es5;refine⟨_,rfl,_,rfl,_,_,rfl,rfl,_,rfl,fn,_,rfl,(g17.trans g18) _ _ efn,fun s6 H19 g19 es6=>?_⟩;rw[j1,b6f]at es6;refine⟨s5,s6,0,_,_,rfl,rfl,a5c (SqT.of (g19 _ _ es5)),a5c (SqT.of es6),by decide,fun cc hc=>⟨_,rfl,?_⟩⟩;have hc':cc=true:=hc.mpr (by rw[emt]);subst hc';refine a9l ?_;have g1619:=(g17.trans g18).trans g19;have g419:=g416.trans g1619;have g1019:=(g1015.trans g16).trans g1619;have efn19:=g1619 _ _ efn;have era19:=(g16.trans g1619) _ _ era15;obtain⟨pt,ept⟩: ∃pt,(a0q Ls)[j]? =some pt:=⟨_,a0A jl⟩;obtain⟨L,eL⟩:=d0f (a0E ept);have last: ∀H',Same H19 H'->P2 (i+1) [some (.ref a),some (.ref m),some (.ref x),some (.ref l),some (.ref ce),some (.int c),some (nv j),some (.ref ra),some (.ref ro),some (nv lt),some (.ref fn)] H':=fun H' g'=>⟨g1019.trans g',_,_,_,_,_,_,rfl⟩;refine⟨_,rfl,_,_,rfl,rfl,_,rfl,c5v (fun c6=>?_) (fun c6=>?_)⟩
 ·refine⟨_,rfl,x,dx',_,rfl,g419 _ _ r1,(by kernel_rfl),_,rfl,_,rfl,_,rfl,_,rfl,ra,_,rfl,era19,fun s7 H20 g20 es7=>?_⟩;rw[b6f]at es7;have g420:=g419.trans g20;refine⟨_,rfl,x,s7,m,ts,n,fam,Ls,row.take j,j,lt,pt,L,rfl,RA.keeps g420.keeps,M4.same g420,R,es7,by rw[a0W];lia,ri.zeros pos (by lia),ept,eL,ltl,fun mv H21 g21 emv=>?_⟩;have ej2:=b6h (ts:=ts) (n:=n) (l:=lt) (row:=row) (row':=row.take j++List.replicate ((a0q Ls).length-j) 0) ept eL (by rw[a8U (by rw[a0W];lia),a6G,a9T]);have rj:row.getD j 0<pt.2.2:=ri.lt j pt _ ept (getD_of (by lia));have g1921:=g20.trans g21;have rml:=rim.len;have e1:(a7f ts n Ls row lt).getD j 0=((List.range pt.2.2).map (d0e ts n Ls (row.take j++List.replicate ((a0q Ls).length-j) 0) lt pt L)).getD (row.getD j 0) 0:=by
   generalize row.getD j 0=rr at ej2 rj⊢;rw[a0I,ej2,a0I,a0F,a3C rj];rfl
  refine⟨_,rfl,_,rfl,ra,_,_,_,rfl,rfl,SqT.of (g1921 _ _ era19),b2x (by lia),mv,_,_,_,rfl,rfl,SqT.of emv,b2x (by rw[a0C,a2A];exact rj),_,rfl,_,rfl,fn,_,_,_,rfl,rfl,SqT.of (g1921 _ _ efn19),b2x (by lia),rfl,?_⟩;rw[e1];refine⟨_,rfl,?_⟩
  try dsimp only
  rw[a1A rfl];exact a9l (last _ g1921)
 ·exact a9l (last _ (Same.refl _))
theorem ln1{α:Type}{P:List α->Prop}(h: ∀a0,P [a0]): ∀us:List α,us.length=1->P us
 | [a0],_=>h a0
theorem ln2{α:Type}{P:List α->Prop}(h: ∀a0 a1,P [a0,a1]): ∀us:List α,us.length=2->P us
 | [a0,a1],_=>h a0 a1
theorem ln3{α:Type}{P:List α->Prop}(h: ∀a0 a1 a2,P [a0,a1,a2]): ∀us:List α,us.length=3->P us
 | [a0,a1,a2],_=>h a0 a1 a2
theorem ln4{α:Type}{P:List α->Prop}(h: ∀a0 a1 a2 a3,P [a0,a1,a2,a3]): ∀us:List α,us.length=4->P us
 | [a0,a1,a2,a3],_=>h a0 a1 a2 a3
abbrev Rw(K:W.Frag)(x:Str)(st:Stmt)(f:Ad)(fd:Fd):Prop:=PySem.W.nsIn K mainGlobals x=some (some (.ref f))/\Fun K x x st f fd
theorem cal{K:W.Frag}{mg:SV}{x:Str}{k:Nat}{ps:Ss}{sp:Sp}{st:Stmt}{f:Ad}{fd:Fd}{h:Heap}(P:Pg)(w:World)(base:Heap)(X:K.In h)(G:h.Ns mainGlobals mg)(r:Rw K x st f fd)(o:FnOk P w K mg base CX0 k f fd ps sp)
  (hb: ∀(kV doc pm:Vl) (an:Option Ad) (cdv ct:Vl) (us:Vs),us.length=ps.length->bindArgs (PySem.W.fnOf x x (a3j st) (a2i st) (a0e st) .none kV doc pm an cdv ct) ⟨us,[]⟩=pure (ps.zip us)):a0u P w K mg base x k ps sp:=⟨f,fd,o,PySem.W.mg_of X G r.1,r.2.kp,r.2.binds hb⟩
set_option maxHeartbeats 0 in
theorem e0g{l:W.OpenLaw}{w:World}{K:W.Frag}{h:Heap}{mg:SV}{fa f1 f2 f3 f4 f5 f6 f7 f8 f9 f10 f11 f12 f13 f14 f15 f16 f17 f18 f19 f20 f21 f22 f23 f24 f25 f26 f27 f28 f29 f30 f31 dD4 cL9 cL26:Ad}{d1 d2 d3 d5 d6 d7 d8 d10 d11 d12 d13 d14 d15 d16 d17 d18 d19 d20 d21 d22 d23 d24 d25 d27 d28 d29 d30 d31:Fd}(X:K.In h)(G:h.Ns mainGlobals mg)(hfa:mg "law"=some (.ref fa))
  {od4 an4 od9 an9 od26 an26:Option Ad} {sl4 sl9 sl26:Array (Option Vl)} {oc4 kV4 dc4 pm4 cd4 ct4 oc9 kV9 dc9 pm9 ct9 oc26 kV26 dc26 pm26 ct26:Vl} {oD4:Obj} {nD4:Nat}
  (r1:Rw K "_wall" sWall f1 d1)
  (r2:Rw K "led" sLed f2 d2)
  (r3:Rw K "refuse_more" a7k f3 d3)
  (a4:W.nsIn K mainGlobals "reached"=some (some (.ref f4))) (l4:K.lookup f4=some ⟨oc4,od4,.func (W.fnOf "reached" "reached" (a3j a3x) (a2i a3x) (a0e a3x) (.ref dD4) kV4 dc4 pm4 an4 cd4 ct4),sl4⟩) (c4:W.codeIn K cd4 "reached"=true) (k4:W.keepIn K (.ref f4)=true)
  (lD4:K.lookup dD4=some oD4) (qD4:oD4.data= .seq ([.none]:Vs).toArray nD4)
  (r5:Rw K "place_of" b5b f5 d5)
  (r6:Rw K "in_order" b5c f6 d6)
  (r7:Rw K "lies_in" b5d f7 d7)
  (r8:Rw K "carried" b0k f8 d8)
  (a9:W.nsIn K mainGlobals "sets_reached"=some (some (.ref f9))) (l9:K.lookup f9=some ⟨oc9,od9,.func (W.fnOf "sets_reached" "sets_reached" (a3j a1h) (a2i a1h) (a0e a1h) .none kV9 dc9 pm9 an9 (.ref cL9) ct9),sl9⟩) (c9:W.codeIn K (.ref cL9) "sets_reached"=true) (k9:W.keepIn K (.ref f9)=true)
  (hd9:W.codeHdIn K cL9 101=true)
  (r10:Rw K "still" c8l f10 d10)
  (r11:Rw K "behind" b5e f11 d11)
  (r12:Rw K "pictures" b1y f12 d12)
  (r13:Rw K "family" a9b f13 d13)
  (r14:Rw K "is_covered" a6v f14 d14)
  (r15:Rw K "tiles" b7r f15 d15)
  (r16:Rw K "words_between" a5n f16 d16)
  (r17:Rw K "alike_sets" a6w f17 d17)
  (r18:Rw K "sets_of_levels" a5o f18 d18)
  (r19:Rw K "is_led_to" b0l f19 d19)
  (r20:Rw K "levels_in_order" a2w f20 d20)
  (r21:Rw K "levels" b5f f21 d21)
  (r22:Rw K "tile" d6m f22 d22)
  (r23:Rw K "tiles_of_set" a5p f23 d23)
  (r24:Rw K "tiles_turned" a4w f24 d24)
  (r25:Rw K "all_tiles_turned" a4h f25 d25)
  (a26:W.nsIn K mainGlobals "level_group"=some (some (.ref f26))) (l26:K.lookup f26=some ⟨oc26,od26,.func (W.fnOf "level_group" "level_group" (a3j a1q) (a2i a1q) (a0e a1q) .none kV26 dc26 pm26 an26 (.ref cL26) ct26),sl26⟩) (c26:W.codeIn K (.ref cL26) "level_group"=true) (k26:W.keepIn K (.ref f26)=true)
  (hd26:W.codeHdIn K cL26 200=true)
  (r27:Rw K "_law_cell_at" a9c f27 d27)
  (r28:Rw K "_law_turn" b5g f28 d28)
  (r29:Rw K "_law_machine" a5q f29 d29)
  (r30:Rw K "_law_row" b9r f30 d30)
  (r31:Rw K "law" d7f f31 d31)
  {jB:Ad} (n_LevelParts:W.nsIn K mainGlobals "LevelParts"=some (some (.ref jB))) (u_LevelParts:OwnC K jB ["machine","group","tiles","turns","tile_count"]) (mk_LevelParts:W.makesIn K jB=true) (kp_LevelParts:W.keepIn K (.ref jB)=true)
  {kI:Ad} (n_Row:W.nsIn K mainGlobals "Row"=some (some (.ref kI))) (u_Row:OwnC K kI ["rooms","steps"]) (mk_Row:W.makesIn K kI=true) (kp_Row:W.keepIn K (.ref kI)=true)
  {f_LevelParts___init__:Ad} {d_LevelParts___init__:Fd} (v_LevelParts___init__:b9q K jB "__init__" "LevelParts.__init__" a3h f_LevelParts___init__ d_LevelParts___init__)
  {f_LevelParts_is_turning:Ad} {d_LevelParts_is_turning:Fd} (v_LevelParts_is_turning:b9q K jB "is_turning" "LevelParts.is_turning" a2r f_LevelParts_is_turning d_LevelParts_is_turning)
  {f_LevelParts_within:Ad} {d_LevelParts_within:Fd} (v_LevelParts_within:b9q K jB "within" "LevelParts.within" a3k f_LevelParts_within d_LevelParts_within)
  {f_LevelParts_least_tile:Ad} {d_LevelParts_least_tile:Fd} (v_LevelParts_least_tile:b9q K jB "least_tile" "LevelParts.least_tile" a1t f_LevelParts_least_tile d_LevelParts_least_tile)
  {f_LevelParts_deed_of:Ad} {d_LevelParts_deed_of:Fd} (v_LevelParts_deed_of:b9q K jB "deed_of" "LevelParts.deed_of" a3l f_LevelParts_deed_of d_LevelParts_deed_of)
  {f_LevelParts_turned:Ad} {d_LevelParts_turned:Fd} (v_LevelParts_turned:b9q K jB "turned" "LevelParts.turned" a3m f_LevelParts_turned d_LevelParts_turned)
  {f_LevelParts_brought:Ad} {d_LevelParts_brought:Fd} (v_LevelParts_brought:b9q K jB "brought" "LevelParts.brought" a3i f_LevelParts_brought d_LevelParts_brought)
  {f_LevelParts_pair_behind:Ad} {d_LevelParts_pair_behind:Fd} (v_LevelParts_pair_behind:b9q K jB "pair_behind" "LevelParts.pair_behind" a2k f_LevelParts_pair_behind d_LevelParts_pair_behind)
  {f_Row___init__:Ad} {d_Row___init__:Fd} (v_Row___init__:b9q K kI "__init__" "Row.__init__" b0m f_Row___init__ d_Row___init__)
  {f_Row_parts:Ad} {d_Row_parts:Fd} (v_Row_parts:b9q K kI "parts" "Row.parts" b1z f_Row_parts d_Row_parts)
  {f_Row_paired:Ad} {d_Row_paired:Fd} (v_Row_paired:b9q K kI "paired" "Row.paired" a9d f_Row_paired d_Row_paired)
  {f_Row_unpaired:Ad} {d_Row_unpaired:Fd} (v_Row_unpaired:b9q K kI "unpaired" "Row.unpaired" a6m f_Row_unpaired d_Row_unpaired)
  {f_Row_walked:Ad} {d_Row_walked:Fd} (v_Row_walked:b9q K kI "walked" "Row.walked" a9e f_Row_walked d_Row_walked)
  {f_Row_moved:Ad} {d_Row_moved:Fd} (v_Row_moved:b9q K kI "moved" "Row.moved" b2a f_Row_moved d_Row_moved)
  {f_Row_move:Ad} {d_Row_move:Fd} (v_Row_move:b9q K kI "move" "Row.move" a8e f_Row_move d_Row_move)
  (z_len:W.nsIn K mainGlobals "len"=some none) (z_range:W.nsIn K mainGlobals "range"=some none) (z_tuple:W.nsIn K mainGlobals "tuple"=some none) (z_list:W.nsIn K mainGlobals "list"=some none) (z_sorted:W.nsIn K mainGlobals "sorted"=some none) (z_set:W.nsIn K mainGlobals "set"=some none) (z_all:W.nsIn K mainGlobals "all"=some none) (z_any:W.nsIn K mainGlobals "any"=some none) (z_enumerate:W.nsIn K mainGlobals "enumerate"=some none) (z_zip:W.nsIn K mainGlobals "zip"=some none):
  ∃fd:Fd,(∀(s:Sh) (v:Vl),BindsTo s fd ⟨[v],[]⟩ [("_law_script",v)])/\ ∀base:Heap,K.In base->base.Ns mainGlobals mg->b4o mg base->FnOk l.prog w K mg base CX0 22 fa fd ["_law_script"] (d3g K):=by
 have e:=hfa.symm.trans (W.mg_of X G r31.1);cases e;have F4:DefAt K "reached" a3x f4 (W.fnOf "reached" "reached" (a3j a3x) (a2i a3x) (a0e a3x) (.ref dD4) kV4 dc4 pm4 an4 cd4 ct4) (.ref dD4) cd4:=⟨c4,⟨_,_,_,_,_,rfl⟩,_,_,_,l4⟩;have F9:DefAt K "sets_reached" a1h f9 (W.fnOf "sets_reached" "sets_reached" (a3j a1h) (a2i a1h) (a0e a1h) .none kV9 dc9 pm9 an9 (.ref cL9) ct9) .none (.ref cL9):=⟨c9,⟨_,_,_,_,_,rfl⟩,_,_,_,l9⟩;have F26:DefAt K "level_group" a1q f26 (W.fnOf "level_group" "level_group" (a3j a1q) (a2i a1q) (a0e a1q) .none kV26 dc26 pm26 an26 (.ref cL26) ct26) .none (.ref cL26):=⟨c26,⟨_,_,_,_,_,rfl⟩,_,_,_,l26⟩;have jC:=a5F X G z_len;have jD:=a5F X G z_range;have jE:=a5F X G z_tuple;have qS:=a5F X G z_list;have kF:=a5F X G z_sorted;have rF:=a5F X G z_set;have rG:=a5F X G z_all;have qX:=a5F X G z_any;have kC:=a5F X G z_enumerate;have qY:=a5F X G z_zip;have rL:=r31.2;obtain⟨_,_,kV,dc,pm,an,cv,ct,_,rfl,_,_⟩:=id rL.ex;refine⟨W.fnOf "law" "law" (a3j d7f) (a2i d7f) (a0e d7f) .none kV dc pm an cv ct,fun s v=> .of_eq rfl,fun base KB _ hbm=>?_⟩;have qT:=W.codeHd_of_K KB hd9;have qW:=W.codeHd_of_K KB hd26;have jS:=cal l.prog w base X G r27 (c4c r27.2 jC) fun _ _ _ _ _ _=>ln2 fun _ _=>rfl;have qK:=cal l.prog w base X G r28 (d6o r28.2 jD jE qS) fun _ _ _ _ _ _=>ln2 fun _ _=>rfl;have kY:=cal l.prog w base X G r29 (c4e r29.2 jS qK jD jE) fun _ _ _ _ _ _=>ln1 fun _=>rfl;have rE:=cal l.prog w base X G r2 (d9o r2.2) fun _ _ _ _ _ _=>ln3 fun _ _ _=>rfl;have qM:=cal l.prog w base X G r5 (d2n r5.2 jC) fun _ _ _ _ _ _=>ln1 fun _=>rfl;have qO:=cal l.prog w base X G r6 (b9x r6.2 qM kF) fun _ _ _ _ _ _=>ln1 fun _=>rfl;have jH:=cal l.prog w base X G r8 (c4g r8.2 rE jE kF rF) fun _ _ _ _ _ _=>ln3 fun _ _ _=>rfl;have kN:=cal l.prog w base X G r3 (b2z r3.2 jC) fun _ _ _ _ _ _=>ln2 fun _ _=>rfl;have kR:b4q l.prog w K mg base "reached" _ _ _ [.non]:=⟨_,_,[.none],c4h (P:=l.prog) (w:=w) (base:=base) F4 kN jD,W.mg_of X G a4,k4,(fun s us KX hl=>by have hl3:us.length=3:=(by simpa using hl);clear hl;revert us;exact ln3 (fun _ _ _=>BindsTo.of_defaults rfl (KX _ _ lD4) qD4 rfl rfl)),.cons rfl .nil⟩;have jO:a0u l.prog w K mg base "sets_reached" _ _ _:=⟨_,_,b2b (P:=l.prog) (w:=w) (base:=base) F9 qT hbm hqT0 jH kR jC,W.mg_of X G a9,k9,.all (ln2 (fun _ _=>rfl))⟩;have kQ:=cal l.prog w base X G r10 (d2m r10.2 jE jD) fun _ _ _ _ _ _=>ln1 fun _=>rfl;have kH:=cal l.prog w base X G r11 (c8s r11.2 jE) fun _ _ _ _ _ _=>ln2 fun _ _=>rfl;have qN:=cal l.prog w base X G r12 (b9z r12.2 kQ jO jC qS) fun _ _ _ _ _ _=>ln1 fun _=>rfl;have qC:=cal l.prog w base X G r13 (c8y r13.2 qN qO jC jD) fun _ _ _ _ _ _=>ln1 fun _=>rfl;have jU:=cal l.prog w base X G r7 (c4j r7.2 rG) fun _ _ _ _ _ _=>ln2 fun _ _=>rfl;have qF:=cal l.prog w base X G r14 (c4k r14.2 jU qX) fun _ _ _ _ _ _=>ln2 fun _ _=>rfl;have qZ:=cal l.prog w base X G r15 (d2q r15.2 qC jU qF) fun _ _ _ _ _ _=>ln2 fun _ _=>rfl;have kP:=cal l.prog w base X G r16 (a9z r16.2 qC jO jC) fun _ _ _ _ _ _=>ln1 fun _=>rfl;have qG:=cal l.prog w base X G r17 (d2r r17.2) fun _ _ _ _ _ _=>ln2 fun _ _=>rfl;have kL:=cal l.prog w base X G r18 (c4l r18.2 qG) fun _ _ _ _ _ _=>ln1 fun _=>rfl;have qL:=cal l.prog w base X G r19 (b8b r19.2 qX) fun _ _ _ _ _ _=>ln3 fun _ _ _=>rfl;have kG:=cal l.prog w base X G r20 (a8l r20.2 qL) fun _ _ _ _ _ _=>ln2 fun _ _=>rfl;have qV:=cal l.prog w base X G r21 (c9e r21.2 kP kL kG qZ) fun _ _ _ _ _ _=>ln1 fun _=>rfl;have rB:=cal l.prog w base X G r22 (d6r r22.2 jH) fun _ _ _ _ _ _=>ln4 fun _ _ _ _=>rfl;have jJ:=cal l.prog w base X G r23 (b2j r23.2 rB jC jD) fun _ _ _ _ _ _=>ln3 fun _ _ _=>rfl;have jP:=cal l.prog w base X G r24 (b2k r24.2 jH jJ jE) fun _ _ _ _ _ _=>ln4 fun _ _ _ _=>rfl;have jZ:=cal l.prog w base X G r25 (b5s r25.2 jP jC jD) fun _ _ _ _ _ _=>ln2 fun _ _=>rfl;have qA:a0u l.prog w K mg base "level_group" _ _ _:=⟨_,_,b3a (P:=l.prog) (w:=w) (base:=base) F26 qW hbm hqT1 jZ kQ kH kR jC kF,W.mg_of X G a26,k26,.all (ln2 (fun _ _=>rfl))⟩;have qH:c8j l.prog w K mg base "LevelParts" jB _ _ _:=⟨_,_,c4o (P:=l.prog) (w:=w) (mg:=mg) (base:=base) v_LevelParts___init__.2.2 u_LevelParts qA jJ jP kC jD jC,⟨mk_LevelParts,v_LevelParts___init__.1,v_LevelParts___init__.2.1,kp_LevelParts⟩,W.mg_of X G n_LevelParts,v_LevelParts___init__.2.2.binds (ps:=["self","machine","level"]) fun _ _ _ _ _ _=>ln3 (fun _ _ _=>rfl)⟩;have jA:a2h l.prog w K mg base jB "is_turning" _ _ _:=⟨_,_,b5w (P:=l.prog) (w:=w) (mg:=mg) (base:=base) v_LevelParts_is_turning.2.2 u_LevelParts jC,⟨v_LevelParts_is_turning.1,v_LevelParts_is_turning.2.1,v_LevelParts_is_turning.2.2.kp⟩,v_LevelParts_is_turning.2.2.binds (ps:=["self"]) fun _ _ _ _ _ _=>ln1 (fun _=>rfl)⟩;have jM:a2h l.prog w K mg base jB "within" _ _ _:=⟨_,_,c9r (P:=l.prog) (w:=w) (mg:=mg) (base:=base) v_LevelParts_within.2.2 u_LevelParts,⟨v_LevelParts_within.1,v_LevelParts_within.2.1,v_LevelParts_within.2.2.kp⟩,v_LevelParts_within.2.2.binds (ps:=["self","here","pair"]) fun _ _ _ _ _ _=>ln3 (fun _ _ _=>rfl)⟩;have jQ:a2h l.prog w K mg base jB "least_tile" _ _ _:=⟨_,_,b6b (P:=l.prog) (w:=w) (mg:=mg) (base:=base) v_LevelParts_least_tile.2.2 u_LevelParts jU,⟨v_LevelParts_least_tile.1,v_LevelParts_least_tile.2.1,v_LevelParts_least_tile.2.2.kp⟩,v_LevelParts_least_tile.2.2.binds (ps:=["self","here","rooms"]) fun _ _ _ _ _ _=>ln3 (fun _ _ _=>rfl)⟩;have jG:a2h l.prog w K mg base jB "deed_of" _ _ _:=⟨_,_,c4r (P:=l.prog) (w:=w) (mg:=mg) (base:=base) v_LevelParts_deed_of.2.2 u_LevelParts jH jQ,⟨v_LevelParts_deed_of.1,v_LevelParts_deed_of.2.1,v_LevelParts_deed_of.2.2.kp⟩,v_LevelParts_deed_of.2.2.binds (ps:=["self","here","there","letter"]) fun _ _ _ _ _ _=>ln4 (fun _ _ _ _=>rfl)⟩;have jI:a2h l.prog w K mg base jB "turned" _ _ _:=⟨_,_,c4s (P:=l.prog) (w:=w) (mg:=mg) (base:=base) v_LevelParts_turned.2.2 u_LevelParts kH,⟨v_LevelParts_turned.1,v_LevelParts_turned.2.1,v_LevelParts_turned.2.2.kp⟩,v_LevelParts_turned.2.2.binds (ps:=["self","deed","turning"]) fun _ _ _ _ _ _=>ln3 (fun _ _ _=>rfl)⟩;have jF:a2h l.prog w K mg base jB "brought" _ _ _:=⟨_,_,c4t (P:=l.prog) (w:=w) (mg:=mg) (base:=base) v_LevelParts_brought.2.2 u_LevelParts,⟨v_LevelParts_brought.1,v_LevelParts_brought.2.1,v_LevelParts_brought.2.2.kp⟩,v_LevelParts_brought.2.2.binds (ps:=["self","deed","turning","bringing"]) fun _ _ _ _ _ _=>ln4 (fun _ _ _ _=>rfl)⟩;have jL:a2h l.prog w K mg base jB "pair_behind" _ _ _:=⟨_,_,b3b (P:=l.prog) (w:=w) (mg:=mg) (base:=base) v_LevelParts_pair_behind.2.2 u_LevelParts jI jF,⟨v_LevelParts_pair_behind.1,v_LevelParts_pair_behind.2.1,v_LevelParts_pair_behind.2.2.kp⟩,v_LevelParts_pair_behind.2.2.binds (ps:=["self","deed","pair"]) fun _ _ _ _ _ _=>ln3 (fun _ _ _=>rfl)⟩;have rH:c8j l.prog w K mg base "Row" kI _ _ _:=⟨_,_,c0h (P:=l.prog) (w:=w) (mg:=mg) (base:=base) v_Row___init__.2.2 u_Row qH qV kQ jC,⟨mk_Row,v_Row___init__.1,v_Row___init__.2.1,kp_Row⟩,W.mg_of X G n_Row,v_Row___init__.2.2.binds (ps:=["self","machine"]) fun _ _ _ _ _ _=>ln2 (fun _ _=>rfl)⟩;have jT:a2h l.prog w K mg base kI "parts" _ _ _:=⟨_,_,d3d (P:=l.prog) (w:=w) (mg:=mg) (base:=base) v_Row_parts.2.2 u_LevelParts u_Row jA kC jC,⟨v_Row_parts.1,v_Row_parts.2.1,v_Row_parts.2.2.kp⟩,v_Row_parts.2.2.binds (ps:=["self"]) fun _ _ _ _ _ _=>ln1 (fun _=>rfl)⟩;have jV:a2h l.prog w K mg base kI "paired" _ _ _:=⟨_,_,c9s (P:=l.prog) (w:=w) (mg:=mg) (base:=base) v_Row_paired.2.2 u_LevelParts u_Row jA,⟨v_Row_paired.1,v_Row_paired.2.1,v_Row_paired.2.2.kp⟩,v_Row_paired.2.2.binds (ps:=["self","row"]) fun _ _ _ _ _ _=>ln2 (fun _ _=>rfl)⟩;have kX:a2h l.prog w K mg base kI "unpaired" _ _ _:=⟨_,_,c0k (P:=l.prog) (w:=w) (mg:=mg) (base:=base) v_Row_unpaired.2.2 u_LevelParts u_Row jA qY jE,⟨v_Row_unpaired.1,v_Row_unpaired.2.1,v_Row_unpaired.2.2.kp⟩,v_Row_unpaired.2.2.binds (ps:=["self","pairs"]) fun _ _ _ _ _ _=>ln2 (fun _ _=>rfl)⟩;have jW:a2h l.prog w K mg base kI "walked" _ _ _:=⟨_,_,d0b (P:=l.prog) (w:=w) (mg:=mg) (base:=base) v_Row_walked.2.2 u_LevelParts u_Row jG jL jM qY,⟨v_Row_walked.1,v_Row_walked.2.1,v_Row_walked.2.2.kp⟩,v_Row_walked.2.2.binds (ps:=["self","pairs","letter"]) fun _ _ _ _ _ _=>ln3 (fun _ _ _=>rfl)⟩;have kO:a2h l.prog w K mg base kI "moved" _ _ _:=⟨_,_,d3e (P:=l.prog) (w:=w) (mg:=mg) (base:=base) v_Row_moved.2.2 u_Row jV jW kX,⟨v_Row_moved.1,v_Row_moved.2.1,v_Row_moved.2.2.kp⟩,v_Row_moved.2.2.binds (ps:=["self","row","letter"]) fun _ _ _ _ _ _=>ln3 (fun _ _ _=>rfl)⟩;have qP:a2h l.prog w K mg base kI "move" _ _ _:=⟨_,_,d7d (P:=l.prog) (w:=w) (mg:=mg) (base:=base) v_Row_move.2.2 u_LevelParts u_Row jT jV jW jG jI jF jC jE jD,⟨v_Row_move.1,v_Row_move.2.1,v_Row_move.2.2.kp⟩,v_Row_move.2.2.binds (ps:=["self","n","ahead","letter"]) fun _ _ _ _ _ _=>ln4 (fun _ _ _ _=>rfl)⟩;have qI:=cal l.prog w base X G r30 (d0h r30.2 jC jE) fun _ _ _ _ _ _=>ln4 fun _ _ _ _=>rfl;exact e0f (P:=l.prog) (w:=w) (base:=base) rL u_Row kY rH jT kO qP qI jC
def tabsW:List (Str×Ad):=[("sets_reached",101),("level_group",200)]
theorem walk{l:PySem.W.OpenLaw}{q:Pg}{loose:Ss}{XP:SV->Heap->Prop}{YP:World->Heap->Prop}{d:DefRec}{K:Params->W.Frag}(hn:l.most=some 63)(hdf:d.params.defaults=[])
  (hY: ∀(w:World) (h:Heap),YP w h->(K w.params).In h) (hT: ∀w:World,∀t∈tabsW,(K w.params).lookup t.2=none/\(∃c,PySem.W.tabIn (K w.params) t.1=some (c,t.2))/\ ∃e,(recsOf q).find? (fun r=>r.name==t.1)=some e)
  (F: ∀(w:World) (mg:SV) (fa:Ad) (h:Heap),(K w.params).In h->h.Ns mainGlobals mg->mg d.name=some (.ref fa)->
   ∃fd:Fd,(∀(s:Sh) (u:Vl),BindsTo s fd ⟨[u],[]⟩ [("_law_script",u)])/\ ∀base:Heap,(K w.params).In base->base.Ns mainGlobals mg->b4o mg base->FnOk l.prog w (K w.params) mg base CX0 22 fa fd ["_law_script"] (d3g (K w.params))):
  PySem.W.WalkO q loose XP YP l.row.toRowW d [] (fun f vs=>PySem.call f vs):=
 L2.d1v (n:=63) (k:=22) (x:="_law_script") (tabs:=tabsW) (sp:=fun w=>d3g (K w.params)) hn (by decide) hdf ⟨rfl,by decide,by decide⟩ hY hT F fun w H a ns hl ht hS=>⟨a,ns,rfl,hS,hl,(fun q hq=>by
  have z:q.2.2∈tabsW.map (·.2):=(show tabsL.map (·.2.2)=tabsW.map (·.2)from rfl)▸List.mem_map_of_mem hq;obtain⟨t,ht2,e⟩:=a0R.mp z;rw[<-e];exact .inl (ht t ht2)),fun _=>rfl⟩
end My
namespace PySem.W.Fast
def tw7997122341833648513 := ()
theorem te7997122341833648513 : True := ⟨⟩
def tw14917823506722257730:=()
def tw11472566724602158921:=()
def tw2663989597763326075:=()
def tw6564010397249410477:=()
def tw11963775011701618721:=()
def tw14469281004729466040:=()
def tw16010642156505508596:=()
def tw12537579310822380905:=()
def tw5992688569143666129:=()
def tw8189816849603617263:=()
def tw1250150811674233316:=()
def tw13761827667419848972:=()
def tw15103303554650588526:=()
def tw4867461348704922647:=()
def tw7309756883886870067:=()
def tw10678876474021445616:=()
def tw3885738540629426589:=()
def tw2883168284745069192:=()
def tw550533184497052949:=()
def tw10546949979507552141:=()
def tw16999998607021459221:=()
def tw8981364107734487925:=()
def tw17290909949098651285:=()
def tw16526885660030265784:=()
def tw10965185634559487390:=()
def tw5112109897715006997:=()
def tw18107298014704081315:=()
def tw4996257365323923692:=()
def tw1415739894742866331:=()
def tw11201007830538908260:=()
def tw3908906974622102042:=()
def tw3241461391260493830:=()
def tw17535643679526176819:=()
def tw10629612092474690492:=()
def tw3868750280214807908:=()
def tw11036355616306676869:=()
def tw2560520639187874381:=()
def tw15050294148592648564:=()
def tw7325645714897909749:=()
def tw4562044542086140337:=()
def tw13140137493897718783:=()
def tw10999060163187447532:=()
def tw10292230388126402530:=()
def tw11788089603242271761:=()
def tw16427991914233838040:=()
def tw12956688213570858967:=()
def tw2835787142983917330:=()
def tw4181224610260429715:=()
def tw196021451066088076:=()
def tw2229010242702152450:=()
def tw9982644769707817142:=()
def tw10849764020735469666:=()
def tw8398034352301310709:=()
def tw5072117195528630638:=()
def tw12866145034483144838:=()
def tw9945943200977151415:=()
def tw18057365073834432156:=()
def tw13191204990346765891:=()
def tw10754696612411438097:=()
def tw11361626911439683902:=()
def tw4830794011265602140:=()
def tw12603070567545331023:=()
def tw7884777497612538620:=()
def tw14731440159973308283:=()
def tw3016698552499618673:=()
def tw16443763219831314034:=()
def tw7155813693082733232:=()
def tw12505636774660782941:=()
def tw4485812090346147246:=()
def tw8269165230519376166:=()
def tw1796504763135114988:=()
def tw1750156825228802546:=()
def tw16083766245420421605:=()
def tw12221328532232425800:=()
def tw6882964197984214829:=()
def tw3980352537025813504:=()
def tw15569762439499739286:=()
def tw17240861967142748509:=()
def tw4296352916408675912:=()
def tw4510272224585803441:=()
def tw15351583816753097767:=()
def tw525818912285509086:=()
def tw1748311083582743827:=()
def tw15328947292501251153:=()
def tw6150197705768012329:=()
def tw10447262441635080445:=()
def tw163811807609731380:=()
def tw9333679681535979135:=()
def tw18263646681465230868:=()
def tw7671779344096057665:=()
def tw10663510119817641918:=()
def tw11896377550596335238:=()
def tw2229376122954357827:=()
def tw4760046440376455845:=()
def tw2512638114926208504:=()
def tw1734076889758358007:=()
def tw4597512835525850572:=()
def tw13986948844032195572:=()
def tw14097791939744793120:=()
def tw6241376348450429239:=()
def tw12165600911835172696:=()
def tw7422714007145014241:=()
def tw8502977010414790779:=()
def tw16119618144384088370:=()
def tw3542526218569446807:=()
def tw11580620986377359374:=()
def tw463025255621197417:=()
def tw2945943426638501181:=()
def tw2300540026661337752:=()
def tw8282233533390985051:=()
def tw17000469425521847141:=()
def tw10634664940735290576:=()
def tw15243414467672263338:=()
def tw15816428594491800410:=()
def tw4118223901101312152:=()
def tw11614857678784304380:=()
def tw1836581932657843418:=()
def tw5741717940255554199:=()
def tw11311080076484902612:=()
def tw13578260306925170559:=()
def tw11878742273122242818:=()
def tw1489046550363928427:=()
def tw14693454544067188881:=()
def tw1035935558949956429:=()
def tw9738061057676864852:=()
def tw14636613446705214368:=()
def tw12312853711937929329:=()
def tw16180859554574802238:=()
def tw452663275642819247:=()
def tw13181023194061040318:=()
end PySem.W.Fast
open PySem PySem.W PyProof.Rows
set_option maxRecDepth 100000 in
set_option maxHeartbeats 0 in
theorem PySem.Challenge.cw_cascade_k56_whole_only_what_is_ahead_holds : PySem.Challenge.rw_cascade_k56_whole_only_what_is_ahead.Holds := by
 w_on; o_law; k_head; (case hw => w_witness2)
 k_fill
 refine' My.walk (l := PySem.Challenge.rw_cascade_k56_whole_only_what_is_ahead) rfl rfl (fun w h Y => PySem.W.km_in_of Y) ?hT ?F
 case hT =>
  intro w t ht
  simp only [My.tabsW, List.mem_cons, List.not_mem_nil, or_false] at ht
  rcases ht with rfl | rfl
  ·exact ⟨by kernel_rfl, ⟨105, by kernel_rfl⟩, _, rfl⟩
  ·exact ⟨by kernel_rfl, ⟨204, by kernel_rfl⟩, _, rfl⟩
 case F =>
  intro w mg fa h KX G hmg
  refine' My.e0g KX G hmg ?_ ?_ ?_ ?a4 ?l4 ?c4 ?k4 ?lD4 ?qD4 ?_ ?_ ?_ ?_ ?a9 ?l9 ?c9 ?k9 ?hd9 ?_ ?_ ?_ ?_ ?_ ?_ ?_ ?_ ?_ ?_ ?_ ?_ ?_ ?_ ?_ ?_ ?a26 ?l26 ?c26 ?k26 ?hd26 ?_ ?_ ?_ ?_ ?_  ?n_LevelParts ?u_LevelParts ?mk_LevelParts ?kp_LevelParts ?n_Row ?u_Row ?mk_Row ?kp_Row ?v_LevelParts___init__ ?v_LevelParts_is_turning ?v_LevelParts_within ?v_LevelParts_least_tile ?v_LevelParts_deed_of ?v_LevelParts_turned ?v_LevelParts_brought ?v_LevelParts_pair_behind ?v_Row___init__ ?v_Row_parts ?v_Row_paired ?v_Row_unpaired ?v_Row_walked ?v_Row_moved ?v_Row_move  ?_ ?_ ?_ ?_ ?_ ?_ ?_ ?_ ?_ ?_
  (case a4 => k_is); (case l4 => k_is); (case c4 => k_is); (case k4 => k_is)
  (case lD4 => k_is); (case qD4 => rfl)
  (case a9 => k_is); (case l9 => k_is); (case c9 => k_is); (case k9 => k_is)
  (case hd9 => kernel_rfl)
  (case a26 => k_is); (case l26 => k_is); (case c26 => k_is); (case k26 => k_is)
  (case hd26 => kernel_rfl)
  (case n_LevelParts => k_is); (case u_LevelParts => exact ⟨⟨by k_is, by k_is, by k_is, by k_is⟩, (.cons (by k_is) (.cons (by k_is) (.cons (by k_is) (.cons (by k_is) (.cons (by k_is) .nil)))))⟩); (case mk_LevelParts => k_is); (case kp_LevelParts => k_is)
  (case n_Row => k_is); (case u_Row => exact ⟨⟨by k_is, by k_is, by k_is, by k_is⟩, (.cons (by k_is) (.cons (by k_is) .nil))⟩); (case mk_Row => k_is); (case kp_Row => k_is)
  (case v_LevelParts___init__ => refine' ⟨?a, ?i, L2.a3v ?l ?c ?k⟩; (case a => k_is); (case i => k_is); (case l => k_is); (case c => k_is); (case k => k_is))
  (case v_LevelParts_is_turning => refine' ⟨?a, ?i, L2.a3v ?l ?c ?k⟩; (case a => k_is); (case i => k_is); (case l => k_is); (case c => k_is); (case k => k_is))
  (case v_LevelParts_within => refine' ⟨?a, ?i, L2.a3v ?l ?c ?k⟩; (case a => k_is); (case i => k_is); (case l => k_is); (case c => k_is); (case k => k_is))
  (case v_LevelParts_least_tile => refine' ⟨?a, ?i, L2.a3v ?l ?c ?k⟩; (case a => k_is); (case i => k_is); (case l => k_is); (case c => k_is); (case k => k_is))
  (case v_LevelParts_deed_of => refine' ⟨?a, ?i, L2.a3v ?l ?c ?k⟩; (case a => k_is); (case i => k_is); (case l => k_is); (case c => k_is); (case k => k_is))
  (case v_LevelParts_turned => refine' ⟨?a, ?i, L2.a3v ?l ?c ?k⟩; (case a => k_is); (case i => k_is); (case l => k_is); (case c => k_is); (case k => k_is))
  (case v_LevelParts_brought => refine' ⟨?a, ?i, L2.a3v ?l ?c ?k⟩; (case a => k_is); (case i => k_is); (case l => k_is); (case c => k_is); (case k => k_is))
  (case v_LevelParts_pair_behind => refine' ⟨?a, ?i, L2.a3v ?l ?c ?k⟩; (case a => k_is); (case i => k_is); (case l => k_is); (case c => k_is); (case k => k_is))
  (case v_Row___init__ => refine' ⟨?a, ?i, L2.a3v ?l ?c ?k⟩; (case a => k_is); (case i => k_is); (case l => k_is); (case c => k_is); (case k => k_is))
  (case v_Row_parts => refine' ⟨?a, ?i, L2.a3v ?l ?c ?k⟩; (case a => k_is); (case i => k_is); (case l => k_is); (case c => k_is); (case k => k_is))
  (case v_Row_paired => refine' ⟨?a, ?i, L2.a3v ?l ?c ?k⟩; (case a => k_is); (case i => k_is); (case l => k_is); (case c => k_is); (case k => k_is))
  (case v_Row_unpaired => refine' ⟨?a, ?i, L2.a3v ?l ?c ?k⟩; (case a => k_is); (case i => k_is); (case l => k_is); (case c => k_is); (case k => k_is))
  (case v_Row_walked => refine' ⟨?a, ?i, L2.a3v ?l ?c ?k⟩; (case a => k_is); (case i => k_is); (case l => k_is); (case c => k_is); (case k => k_is))
  (case v_Row_moved => refine' ⟨?a, ?i, L2.a3v ?l ?c ?k⟩; (case a => k_is); (case i => k_is); (case l => k_is); (case c => k_is); (case k => k_is))
  (case v_Row_move => refine' ⟨?a, ?i, L2.a3v ?l ?c ?k⟩; (case a => k_is); (case i => k_is); (case l => k_is); (case c => k_is); (case k => k_is))
  any_goals (refine' ⟨?a, L2.a3v ?l ?c ?k⟩; (case a => k_is); (case l => k_is); (case c => k_is); (case k => k_is))
  any_goals k_is
