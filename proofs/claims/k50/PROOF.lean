import PyProof.Rows.All
import Wide.All
import OpenK.AllK
import Wide.FinOn
import Lean
import PyProof.EqAt
import PyProof.EqKinds
import PyProof.TupleCall
import PyProof.NeKinds
import PySem.Challenge.RW_cascade_k50_parts_of_a_row
set_option maxHeartbeats 2000000
set_option Elab.async false
set_option linter.all false
set_option maxRecDepth 100000
abbrev a0A := @List.getElem?_eq_getElem
abbrev a0B := @List.getElem?_eq_some_iff
abbrev a0C := @PySem.wpAny_bind
abbrev a0D := @List.length_map
abbrev a0E := @List.mem_of_getElem?
abbrev a0F := @PySem.wpAny_pure
abbrev a0G := @List.getElem?_map
abbrev a0H := @List.mem_singleton
abbrev a0I := @PySem.Heap.get?_push_of_some
abbrev a0J := @Nat.le_refl
abbrev a0K := @Array.length_toList
abbrev a0L := @List.mem_append
abbrev a0M := @List.length_append
abbrev a0N := @List.getD_eq_getElem?_getD
abbrev a0O := @Option.map_eq_some_iff
abbrev a0P := @List.getElem?_append_right
abbrev a0Q := @List.mem_map
abbrev a0R := @List.getElem?_append_left
abbrev a0S := @List.mem_cons_self
abbrev a0T := @PySem.Heap.lt_size
abbrev a0U := @List.size_toArray
abbrev a0V := @PySem.Heap.get?_push_size
abbrev a0W := @PyProof.Rows.wpS_bind
abbrev a0X := @List.mem_cons_of_mem
abbrev a0Y := @Nat.le_trans
abbrev a0Z := @List.mem_append_right
abbrev a1A := @List.mem_iff_getElem?
abbrev a1B := @PySem.sizeLine_eq
abbrev a1C := @List.mem_cons
abbrev a1D := @PyProof.Rows.wpS_pure
abbrev a1E := @decide_eq_true
abbrev a1F := @List.contains_iff_mem
abbrev a1G := @List.map_append
abbrev a1H := @List.append_assoc
abbrev a1I := @Nat.lt_of_lt_of_le
abbrev a1J := @Nat.ne_of_lt
abbrev a1K := @List.length_filter_le
abbrev a1L := @decide_eq_false
abbrev a1M := @Bool.false_ne_true
abbrev a1N := @List.length_take
abbrev a1O := @List.mem_filter
abbrev a1P := @List.pairwise_append
abbrev a1Q := @List.take_length
abbrev a1R := @Array.getElem?_eq_getElem
abbrev a1S := @PySem.Heap.get?_update_other
abbrev a1T := @PySem.F.plainAttrs_list
abbrev a1U := @Option.some.inj
abbrev a1V := @List.take_add_one
abbrev a1W := @Int.toNat_natCast
abbrev a1X := @Array.getElem?_toList
abbrev a1Y := @List.getElem?_eq_none
abbrev a1Z := @congrArg
abbrev a2A := @Nat.exists_eq_add_one_of_ne_zero
abbrev a2B := @PySem.F.slot_list_append
abbrev a2C := @PySem.F.type_list_append
abbrev a2D := @Array.perm_iff_toList_perm
abbrev a2E := @PySem.PassesOwn.never
abbrev a2F := @of_decide_eq_true
abbrev a2G := @List.getElem?_inj
abbrev a2H := @PySem.wpAny_call_entry
abbrev a2I := @List.map_cons
abbrev a2J := @List.mem_range
abbrev a2K := @List.append_nil
abbrev a2L := @Array.getD_eq_getD_getElem?
abbrev a2M := @Array.toList_append
abbrev a2N := @PySem.wpAny_newObj_type
abbrev a2O := @List.getElem_mem
abbrev a2P := @PySem.wpAny_holding
abbrev a2Q := @PySem.wpAny_callSpecial?_slot
abbrev a2R := @List.take_append_drop
abbrev a2S := @List.pairwise_iff_getElem
abbrev a2T := @PySem.F.slot_dict_keyiterator_next
abbrev a2U := @PyProof.Rows.slot_tuple_getitem
abbrev a2V := @List.length_eq_zero_iff
abbrev a2W := @List.length_cons
abbrev a2X := @List.nodup_cons
abbrev a2Y := @Bool.and_eq_true
abbrev a2Z := @List.mem_append_left
abbrev a3A := @PyProof.Rows.wpS_forRange
abbrev a3B := @PySem.wpAny_setField_rec
abbrev a3C := @beq_eq_false_iff_ne
abbrev a3D := @Nat.le_of_lt
abbrev a3E := @Nat.zero_le
abbrev a3F := @PySem.mem_of_lookup
abbrev a3G := @Nat.add_sub_cancel'
abbrev a3H := @List.mem_reverse
abbrev a3I := @PySem.wpAny_mono
abbrev a3J := @List.pairwise_singleton
abbrev a3K := @Ne.symm
abbrev a3L := @PySem.W.kia_one
abbrev a3M := @PySem.F.slot_dict_itemiterator_next
abbrev a3N := @Classical.choose_spec
abbrev a3O := @List.map_map
abbrev a3P := @Bool.eq_iff_iff
abbrev a3Q := @List.lookup_cons
abbrev a3R := @Nat.le_add_right
abbrev a3S := @PySem.W.mg_none_of
abbrev a3T := @Array.getElem?_eq_some_iff
abbrev a3U := @PySem.wpAny_truthy_bool
abbrev a3V := @List.getElem?_range
abbrev a3W := @List.foldl_append
abbrev a3X := @List.ext_getElem?
abbrev a3Y := @Nat.lt_irrefl
abbrev a3Z := @Nat.sub_lt_left_of_lt_add
abbrev a4A := @PySem.Heap.get?_update_self
abbrev a4B := @PySem.wpAny_typeNameOfWhole_itemiter
abbrev a4C := @List.Pairwise.sublist
abbrev a4D := @Array.size_push
abbrev a4E := @PySem.wpAny_Call_Name_kw
abbrev a4F := @PySem.boot_len
abbrev a4G := @Nat.lt_succ_self
abbrev a4H := @PySem.wpAny_typeNameOfWhole_keyiter
abbrev a4I := @PySem.lookup_relabel_local
abbrev a4J := @PySem.Around.under_plainId
abbrev a4K := @List.mem_of_mem_take
abbrev a4L := @PySem.F.slot_dict_keyiterator_iter
abbrev a4M := @PySem.wpAny_dictEntries
abbrev a4N := @PySem.wpAny_setState_of
abbrev a4O := @List.map_congr_left
abbrev a4P := @List.length_drop
abbrev a4Q := @PySem.Paired.length
abbrev a4R := @Nat.ne_of_gt
abbrev a4S := @List.length_singleton
abbrev a4T := @List.filter_append
abbrev a4U := @List.Perm.append_left
abbrev a4V := @List.drop_eq_getElem_cons
abbrev a4W := @List.extract_eq_take_drop
abbrev a4X := @List.getElem?_of_mem
abbrev a4Y := @PySem.wpAny_passesOwn
abbrev a4Z := @List.getElem?_take_of_lt
abbrev a5A := @List.take_sublist
abbrev a5B := @List.length_set
abbrev a5C := @PySem.codeAny_builtin
abbrev a5D := @Array.toList_push
abbrev a5E := @PySem.wpAny_pyIter_slot
abbrev a5F := @List.length_range
abbrev a5G := @PySem.codeAny_mono
abbrev a5H := @List.Nodup.length_le_of_subset
abbrev a5I := @List.replicate_succ
abbrev a5J := @Nat.add_le_add_left
abbrev a5K := @PySem.wpAny_attempt
abbrev a5L := @PySem.F.plain_extend_loop
abbrev a5M := @PyProof.Rows.wpS_mono
abbrev a5N := @Nat.add_sub_cancel_left
abbrev a5O := @List.all_eq_true
abbrev a5P := @List.cons_append
abbrev a5Q := @List.getElem_map
abbrev a5R := @PySem.wpAny_rule
abbrev a5S := @List.take_of_length_le
abbrev a5T := @List.Perm.append_right
abbrev a5U := @Nat.lt_of_le_of_lt
abbrev a5V := @Nat.lt_of_le_of_ne
abbrev a5W := @List.countP_eq_length_filter
abbrev a5X := @PyProof.Rows.callWith_type1
abbrev a5Y := @PySem.wpAny_field
abbrev a5Z := @PySem.F.called_set
abbrev a6A := @PySem.wpAny_dictEpoch
abbrev a6B := @Nat.min_eq_left
abbrev a6C := @Nat.sub_self
abbrev a6D := @List.perm_append_comm
abbrev a6E := @PyProof.Rows.boot_isinstance
abbrev a6F := @PyProof.Rows.wpS_modify
abbrev a6G := @List.filter_congr
abbrev a6H := @Array.toList_extract
abbrev a6I := @Array.toList_reverse
abbrev a6J := @PySem.Calls.call_function_entry
abbrev a6K := @PySem.wpAny_fieldsOf
abbrev a6L := @PySem.wpAny_askSetting
abbrev a6M := @Nat.le_succ
abbrev a6N := @List.toList_toArray
abbrev a6O := @Nat.add_lt_add_left
abbrev a6P := @Nat.le_of_eq
abbrev a6Q := @List.any_cons
abbrev a6R := @PySem.tupleKind_room_in1
abbrev a6S := @PySem.plainId_quiet
abbrev a6T := @PyProof.Rows.F.plain_set_update_loop
abbrev a6U := @Nat.not_lt_zero
abbrev a6V := @List.pairwise_cons
abbrev a6W := @List.getElem?_drop
abbrev a6X := @PyProof.Rows.get?_update_seq
abbrev a6Y := @PyProof.Rows.listUpdate_at
abbrev a6Z := @decide_eq_true_iff
abbrev a7A := @List.length_pos_of_mem
abbrev a7B := @PySem.wpAny_isOneOf_itemiter
abbrev a7C := @Array.getElem?_eq_none
abbrev a7D := @PySem.wpAny_pyIter_list
abbrev a7E := @beq_iff_eq
abbrev a7F := @List.flatten_cons
abbrev a7G := @List.pairwise_map
abbrev a7H := @PySem.F.args_dict_itemiterator_next_1
abbrev a7I := @Nat.le_of_lt_succ
abbrev a7J := @Array.size_append
abbrev a7K := @PyProof.Rows.boot_tuple
abbrev a7L := @PySem.Heap.size_push
abbrev a7M := @PySem.wpAny_typeOf
abbrev a7N := @PySem.F.entry_dict_itemiterator_next
abbrev a7O := @PySem.F.args_dict_keyiterator_next_1
abbrev a7P := @PySem.F.args_dict_keyiterator_iter_1
abbrev a7Q := @Array.mem_of_getElem?
abbrev a7R := @Nat.zero_add
abbrev a7S := @Int.zero_add
abbrev a7T := @beq_self_eq_true
abbrev a7U := @Nat.le_of_not_lt
abbrev a7V := @List.ext_getElem
abbrev a7W := @List.any_eq_true
abbrev a7X := @PySem.F.entry_dict_keyiterator_next
abbrev a7Y := @PySem.F.entry_dict_keyiterator_iter
abbrev a7Z := @Array.toList_map
abbrev a8A := @List.countP_cons
abbrev a8B := @Array.mem_toList_iff
abbrev a8C := @Nat.le_sub_of_add_le
abbrev a8D := @List.mem_of_mem_drop
abbrev a8E := @PySem.wpAny_newList
abbrev a8F := @List.dropLast_concat_getLast
abbrev a8G := @PySem.wpAny_execs_nil
abbrev a8H := @PySem.W.plainGet_of
abbrev a8I := @List.of_mem_zip
abbrev a8J := @PySem.size_of_entries
abbrev a8K := @PySem.wpAny_raiseNew_none
abbrev a8L := @PySem.wpAny_updateSeq
abbrev a8M := @PyProof.Rows.wpS_get
abbrev a8N := @List.filter_sublist
abbrev a8O := @PySem.Calls.Name_function_global
abbrev a8P := @Array.toList_setIfInBounds
abbrev a8Q := @PySem.W.callWith_K
abbrev a8R := @Nat.add_zero
abbrev a8S := @Array.Perm.mem_iff
abbrev a8T := @Int.lt_trans
abbrev a8U := @List.getElem?_take
abbrev a8V := @of_decide_eq_false
abbrev a8W := @Option.isSome_map
abbrev a8X := @Nat.lt_succ_of_lt
abbrev a8Y := @List.nodup_append
abbrev a8Z := @Bool.eq_false_iff
abbrev a9A := @PySem.wpAny_standAt
abbrev a9B := @Int.ofNat.inj
abbrev a9C := @Bool.true_and
abbrev a9D := @List.foldl_cons
abbrev a9E := @Nat.add_comm
abbrev a9F := @List.nil_append
abbrev a9G := @Nat.lt_trans
abbrev a9H := @PySem.wpAny_loadPart'
abbrev a9I := @PySem.wpAny_ite_split
abbrev a9J := @PyProof.Rows.entry_list_sort
abbrev a9K := @List.any_map
abbrev a9L := @ite_congr
abbrev a9M := @Array.Perm.refl
abbrev a9N := @PySem.wpAny_call
abbrev a9O := @PySem.intKind_is
abbrev a9P := @PyProof.Rows.wpS_lift
abbrev a9Q := @PySem.wpAny_of_eq
abbrev a9R := @PyProof.Rows.seqEpoch_at
section
open PySem
abbrev L3q := List (List (List Nat))
abbrev LN := List (List Nat)
abbrev Nsq := List Nat
abbrev VP := Value -> Shared -> Prop
abbrev AO := List (Addr × Obj)
abbrev SV := Str -> Option Value
abbrev As := List Addr
abbrev Vs := List Value
abbrev AV := Array Value
abbrev Zs := List Int
abbrev Ss := List Str
abbrev Sh := Shared
abbrev Vl := Value
abbrev Pg := Program
abbrev Fd := FuncData
abbrev Ar := Around
end
namespace L2
open PySem PySem.Spec PyProof.Rows
abbrev Key:=Sum Int Str
def b9b:Key->Vl->Bool
 | .inl k,v=>Value.isInt k v
 | .inr x,v=>Value.isStrOf x v
def keyH(w:World):Key->Int
 | .inl k=>hashInt k
 | .inr x=>hashStr w x
theorem a1g: ∀{k:Key} {v:Vl},b9b k v=true->(∃i t,k=Sum.inl i/\v=Value.int i t)∨(∃x t,k=Sum.inr x/\v=Value.str x t)
 | .inl i,v,h=>by
  obtain⟨t,e⟩:=Value.isInt_shape (k:=i) (v:=v) h
  exact .inl ⟨i,t,rfl,e⟩
 | .inr x,v,h=>by
  obtain⟨t,e⟩:=Value.isStrOf_shape (x:=x) (v:=v) h
  exact .inr ⟨x,t,rfl,e⟩
theorem c0y(i:Int)(t:Tok):b9b (.inl i) (.int i t)=true:=by simp[b9b,Value.isInt]
theorem c0z(x:Str)(t:Tok):b9b (.inr x) (.str x t)=true:=by simp[b9b,Value.isStrOf]
theorem d2f(a b:Int):decide ((Sum.inl a:Key)=Sum.inl b)=(a==b):=by
 by_cases e:a=b
 ·subst e;simp
 ·have h: ¬(Sum.inl a:Key)=Sum.inl b:=fun q=>e (Sum.inl.inj q)
  rw[a1L h]
  exact(a3C.mpr e).symm
theorem d2g(a b:Str):decide ((Sum.inr a:Key)=Sum.inr b)=decide (a=b):=by
 by_cases e:a=b
 ·subst e;simp
 ·have h: ¬(Sum.inr a:Key)=Sum.inr b:=fun q=>e (Sum.inr.inj q)
  rw[a1L h,a1L e]
theorem d2h(a:Int)(b:Str):decide ((Sum.inl a:Key)=Sum.inr b)=false:=a1L (fun q=>nomatch q)
theorem d2i(a:Str)(b:Int):decide ((Sum.inr a:Key)=Sum.inl b)=false:=a1L (fun q=>nomatch q)
def a2d(prog:Pg)(w:World):PySem.KeyKind prog w Key where
 is:=b9b
 hash:=keyH w
 inj:=fun v a b ha hb=>by
  rcases a1g ha with⟨i,t,rfl,rfl⟩|⟨x,t,rfl,rfl⟩
  ·rcases a1g hb with⟨j,u,rfl,e⟩|⟨y,u,rfl,e⟩
   ·injection e with e1 _;rw[e1]
   ·exact nomatch e
  ·rcases a1g hb with⟨j,u,rfl,e⟩|⟨y,u,rfl,e⟩
   ·exact nomatch e
   ·injection e with e1 _;rw[e1]
 byValue:=fun k v h=>by
  rcases a1g h with⟨i,t,rfl,rfl⟩|⟨x,t,rfl,rfl⟩<;>rfl
 pyHash:=fun hv h=>by
  rcases a1g hv with⟨i,t,rfl,rfl⟩|⟨x,t,rfl,rfl⟩
  ·exact wpAny_pyHash_int h
  ·exact wpAny_pyHash_str h
 eqBool:=fun hu hv h=>by
  rcases a1g hu with⟨i,t,rfl,rfl⟩|⟨x,t,rfl,rfl⟩
  ·rcases a1g hv with⟨j,u,rfl,rfl⟩|⟨y,u,rfl,rfl⟩
   ·rw[d2f]at h;exact wpAny_eqBool_int h
   ·rw[d2h]at h;exact SeqAt.EqAt.int_str i t y u _ _ _ _ h
  ·rcases a1g hv with⟨j,u,rfl,rfl⟩|⟨y,u,rfl,rfl⟩
   ·rw[d2i]at h;exact SeqAt.EqAt.str_int x t j u _ _ _ _ h
   ·rw[d2g]at h;exact wpAny_eqBool_str h
 «strs»:=fun k x t v h=>by
  rcases a1g h with⟨i,u,rfl,e⟩|⟨y,u,rfl,e⟩
  ·exact nomatch e
  ·injection e with e1 _
   subst e1;cases v<;>rfl
theorem b5f(prog:Pg)(w:World)(i:Int)(t:Tok):(a2d prog w).is (.inl i) (.int i t)=true:=c0y i t
theorem b5g(prog:Pg)(w:World)(x:Str)(t:Tok):(a2d prog w).is (.inr x) (.str x t)=true:=c0z x t
inductive V where
 |non|bl (b:Bool)|int (i:Int)|str (x:Str)|byt (b:Array UInt8)|flt (b:UInt64)|ref (a:Addr)|ty (n:String)
 deriving DecidableEq
def RelV:V->Vl->Prop
 | .non,u=>u=Value.none
 | .bl b,u=>u=Value.bool b
 | .int i,u=> ∃t,u=Value.int i t
 | .str x,u=> ∃t,u=Value.str x t
 | .byt b,u=> ∃t,u=Value.bytes b t
 | .flt b,u=> ∃t,u=Value.float b t
 | .ref a,u=>u=Value.ref a
 | .ty n,u=>u=Value.type n
abbrev Vals:List V->List Vl->Prop:=Paired RelV
theorem Vals.length{xs:List V}{us:Vs}(r:Vals xs us):xs.length=us.length:=a4Q r
theorem Vals.get: ∀{xs:List V} {us:Vs} {i:Nat} {x:V},Vals xs us->xs[i]? =some x-> ∃u,us[i]? =some u/\RelV x u
 |_,_,_,_,.nil,e=>by simp at e
 |_,_,0,_,.cons r _,e=>by simp at e;subst e;exact⟨_,rfl,r⟩
 |_,_,i+1,x,.cons _ t,e=>by
  obtain⟨u,h1,h2⟩:=Vals.get (i:=i) (x:=x) t (by simpa using e)
  exact⟨u,by simpa using h1,h2⟩
theorem Vals.set{x:V}{u:Vl}(r:RelV x u): ∀{xs:List V} {us:Vs} (i:Nat),Vals xs us->Vals (xs.set i x) (us.set i u)
 |_,_,_,.nil=> .nil
 |_,_,0,.cons _ t=> .cons r t
 |_,_,i+1,.cons q t=> .cons q (Vals.set r i t)
theorem Vals.append: ∀{xs ys:List V} {us ws:Vs},Vals xs us->Vals ys ws->Vals (xs++ys) (us++ws)
 |_,_,_,_,.nil,s=>s
 |_,_,_,_,.cons r t,s=> .cons r (Vals.append t s)
theorem Vals.take: ∀{xs:List V} {us:Vs} (n:Nat),Vals xs us->Vals (xs.take n) (us.take n)
 |_,_,0,_=> .nil
 |_,_,_+1,.nil=> .nil
 |_,_,n+1,.cons r t=> .cons r (Vals.take n t)
theorem Vals.drop: ∀{xs:List V} {us:Vs} (n:Nat),Vals xs us->Vals (xs.drop n) (us.drop n)
 |_,_,0,r=>r
 |_,_,_+1,.nil=> .nil
 |_,_,n+1,.cons _ t=>Vals.drop n t
def RelO:Option V->Option Vl->Prop
 |some v,some u=>RelV v u
 |none,none=>True
 |_,_=>False
def KV{κ:Type}:List (κ×V)->List (κ×Vl)->Prop:=Paired fun(p:κ×V) (q:κ×Vl)=>p.1=q.1/\RelV p.2 q.2
def kV:Key->V
 | .inl i=> .int i
 | .inr x=> .str x
inductive HO where
 |lst (xs:List V)
 |tup (xs:List V)
 |dK (kvs:List (Key×V))|dT (kvs:List (List Key×V))
 |set (S:Int->Bool) (n:Nat)
 |ins (C dx:Addr) (fs:List (Str×V))
 |own (x:Addr)
 |xd (fs:List (Str×V))
 |met (f x:Addr)
 |rng (lo hi:Int)
 |frz (o:Obj) (u:HO)
 |tbl (ps:AV)
 |ext (φ:Heap->Prop)
abbrev Hp:=Addr->Option HO
def upd(H:Hp)(a:Addr)(o:HO):Hp:=fun b=>if b=a then some o else H b
theorem a0a{H:Hp}{a:Addr}{o:HO}:upd H a o a=some o:=by unfold upd;rw[if_pos rfl]
theorem a0c{H:Hp}{a b:Addr}{o:HO}(h:b≠a):upd H a o b=H b:=by unfold upd;rw[if_neg h]
theorem c9u{H:Hp}{a:Addr}{o u:HO}:upd (upd H a o) a u=upd H a u:=by
 funext b;unfold upd;split<;>rfl
theorem a5k{H:Hp}{a b:Addr}{o u:HO}(h:H a=some o)(h':H b=some u)(d:o≠u):a≠b:=by
 intro e;subst e;rw[h]at h';exact d (a1U h')
def hoT:HO->Nat
 | .lst _=>0
 | .tup _=>1
 | .dK _=>2
 | .dT _=>3
 | .tbl _=>4
 | .ext _=>5
 | .rng _ _=>6
 | .frz _ _=>7
 |_=>8
theorem nE{H:Hp}{a b:Addr}{o u:HO}(h:H a=some o)(k:H b=some u)(d:(hoT o==hoT u)=false:=by rfl):a≠b:=a5k h k fun e=>by rw[e,a7T]at d;cases d
theorem a0h{H:Hp}{a b:Addr}{o:HO}(h:H a=some o)(h':H b=none):a≠b:=by
 intro e;subst e;rw[h]at h';cases h'
def TupD(h:Heap)(a:Addr)(items:AV):Prop:= ∃o,h.get? a=some o/\o.cls= .type "tuple"/\ ∃n,o.data= .seq items n/\o.dict=none
theorem TupD.is{h:Heap}{a:Addr}{items:AV}(p:TupD h a items):IsTup h a items:=let⟨o,e,c,n,d,_⟩:=p;⟨o,e,c,n,d⟩
theorem TupD.new(h:Heap)(items:AV):TupD (h.push {cls:= .type "tuple",data:= .seq items}) h.objs.size items:=⟨_,a0V _ rfl,rfl,_,rfl,rfl⟩
section
variable(P:Pg)(w:World)
def ObjOk(H:Hp)(h:Heap)(a:Addr):HO->Prop
 | .lst xs=>xs.length<=sizeLine/\ ∃(its:Vs) (n:Nat),Vals xs its/\h.get? a=some {cls:= .type "list",data:= .seq its.toArray n}
 | .tup xs=>xs.length<=sizeLine/\ ∃its:Vs,Vals xs its/\TupD h a its.toArray
 | .dK kvs=>kvs.length<=sizeLine/\(a==sysModules)=false/\ ∃vs,KV kvs vs/\h.DictOf (a2d P w) a vs
 | .dT kvs=>kvs.length<=sizeLine/\(a==sysModules)=false/\ ∃xs:List (List Key×Addr×Vl),
   Paired (fun(p:List Key×V) (q:List Key×Addr×Vl)=>p.1=q.1/\H q.2.1=some (.tup (p.1.map kV))/\RelV p.2 q.2.2) kvs xs/\
   ∃o es ep,h.get? a=some o/\o.ExactDict/\o.data= .dict es ep/\es.toList=xs.map (entryOfKey (tupleKind (a2d P w)))/\(xs.map (·.1)).Nodup
 | .set S n=>h.SetOf (intKind P w) a S n
 | .ins C dx fs=>H dx=some (.own a)/\fs.length<=1000/\dx≠a/\h.get? a=some (PySem.W.instObj C dx)/\
   ∃mA,h.Ns1 dx mA/\(∀f,RelO (fs.lookup f) (mA f))/\PySem.Within mA (fs.map (·.1))
 | .own _=> ∃o,h.get? a=some o
 | .xd fs=> ∃mA,h.Ns1 a mA/\ ∀f,RelO (fs.lookup f) (mA f)
 | .rng lo hi=> ∃t u v,h.get? a=some {cls:= .type "range",data:= .fields #[.int lo t,.int hi u,.int 1 v]}
 | .frz o u=>h.get? a=some o/\ObjOk H h a u
 | .tbl ps=>h.get? a=some {cls:= .none,data:= .fields ps}
 | .met f x=>h.get? a=some (PySem.W.methodObj (.ref f) (.ref x))
 | .ext φ=>φ h/\(∃o,h.get? a=some o)/\ ∀h1 h2:Heap,φ h1->(∀o,h1.get? a=some o->h2.get? a=some o)->φ h2
def HOk(H:Hp)(h:Heap):Prop:= ∀a o,H a=some o->ObjOk P w H h a o
end
section
variable{P:Pg}{w:World}{H H':Hp}{h h':Heap}{a:Addr}{o:HO}
theorem ObjOk.lt(x:ObjOk P w H h a o):a<h.objs.size:=by
 cases o with
 |lst xs=>obtain⟨_,_,_,_,e⟩:=x;exact a0T e
 |tup xs=>obtain⟨_,_,_,p⟩:=x;exact p.is.lt
 |dK kvs=>obtain⟨_,_,_,_,o,_,_,e,_⟩:=x;exact a0T e
 |dT kvs=>obtain⟨_,_,_,_,o,_,_,e,_⟩:=x;exact a0T e
 |set S n=>obtain⟨o,_,_,_,e,_⟩:=x;exact a0T e
 |ins C dx fs=>obtain⟨_,_,_,e,_⟩:=x;exact a0T e
 |own y=>obtain⟨_,e⟩:=x;exact a0T e
 |xd fs=>obtain⟨_,⟨_,_,_,e,_⟩,_⟩:=x;exact a0T e
 |rng lo hi=>obtain⟨_,_,_,e⟩:=x;exact a0T e
 |frz ob u=>obtain⟨e,_⟩:=x;exact a0T e
 |tbl ps=>exact a0T (show h.get? a=some _ from x)
 |met f y=>exact a0T (show h.get? a=some _ from x)
 |ext φ=>obtain⟨_,⟨_,e⟩,_⟩:=x;exact a0T e
theorem Paired.mapP{α β:Type}{F G:α->β->Prop}: ∀{l₁:List α} {l₂:List β},Paired F l₁ l₂->(∀a b,F a b->G a b)->Paired G l₁ l₂
 |_,_,.nil,_=> .nil
 |_,_,.cons r t,f=> .cons (f _ _ r) (Paired.mapP t f)
theorem ObjOk.stay(x:ObjOk P w H h a o)(k: ∀b u,(b=a∨H b=some (.own a))->h.get? b=some u->h'.get? b=some u)
  (ho: ∀b,H b=some (.own a)->H' b=some (.own a)) (ht: ∀b xs,H b=some (.tup xs)->H' b=some (.tup xs)):ObjOk P w H' h' a o:=by
 induction o with
 |lst xs=>obtain⟨z,its,n,r,e⟩:=x;exact⟨z,its,n,r,k _ _ (.inl rfl) e⟩
 |tup xs=>obtain⟨z,its,r,ob,e,c⟩:=x;exact⟨z,its,r,ob,k _ _ (.inl rfl) e,c⟩
 |dK kvs=>obtain⟨z,y,vs,r,ob,es,ep,e,c⟩:=x;exact⟨z,y,vs,r,ob,es,ep,k _ _ (.inl rfl) e,c⟩
 |dT kvs=>
  obtain⟨z,y,xs,r,ob,es,ep,e,c⟩:=x
  exact⟨z,y,xs,Paired.mapP r fun p q z=>⟨z.1,ht _ _ z.2.1,z.2.2⟩,ob,es,ep,k _ _ (.inl rfl) e,c⟩
 |set S n=>obtain⟨ob,es,ep,t,e,c⟩:=x;exact⟨ob,es,ep,t,k _ _ (.inl rfl) e,c⟩
 |ins C dx fs=>
  obtain⟨d,z,ne,e,mA,⟨od,es,ep,e2,c⟩,r⟩:=x
  exact⟨ho _ d,z,ne,k _ _ (.inl rfl) e,mA,⟨od,es,ep,k _ _ (.inr d) e2,c⟩,r⟩
 |own y=>obtain⟨ob,e⟩:=x;exact⟨ob,k _ _ (.inl rfl) e⟩
 |xd fs=>obtain⟨mA,⟨od,es,ep,e,c⟩,r⟩:=x;exact⟨mA,⟨od,es,ep,k _ _ (.inl rfl) e,c⟩,r⟩
 |rng lo hi=>obtain⟨t,u,v,e⟩:=x;exact⟨t,u,v,k _ _ (.inl rfl) e⟩
 |frz ob u ih=>obtain⟨e,q⟩:=x;exact⟨k _ _ (.inl rfl) e,ih q⟩
 |tbl ps=>
  have e:h.get? a=some {cls:= .none,data:= .fields ps}:=x
  show h'.get? a=some {cls:= .none,data:= .fields ps}
  exact k a _ (.inl rfl) e
 |met f y=>
  have e:h.get? a=some (PySem.W.methodObj (.ref f) (.ref y)):=x
  show h'.get? a=some (PySem.W.methodObj (.ref f) (.ref y))
  exact k a _ (.inl rfl) e
 |ext φ=>obtain⟨p,⟨o,e⟩,st⟩:=x;exact⟨st _ _ p fun o q=>k _ _ (.inl rfl) q,⟨o,k _ _ (.inl rfl) e⟩,st⟩
theorem HOk.lt(x:HOk P w H h)(e:H a=some o):a<h.objs.size:=(x a o e).lt
theorem HOk.fresh(x:HOk P w H h)(e:h.objs.size<=a):H a=none:=by
 cases q:H a with
 |none=>rfl
 |some u=>exact absurd (a1I (x.lt q) e) (a3Y _)
theorem HOk.kept(x:HOk P w H h)(k: ∀b u,h.get? b=some u->h'.get? b=some u):HOk P w H h':=fun a o e=>
 (x a o e).stay (fun b u _ q=>k b u q) (fun _ q=>q) fun _ _ q=>q
theorem HOk.laid(x:HOk P w H h)(k: ∀b u,h.get? b=some u->h'.get? b=some u)(hp:h.objs.size<=a)(new:ObjOk P w (upd H a o) h' a o):HOk P w (upd H a o) h':=fun b u e=>by
 have hn:=x.fresh hp
 by_cases hb:b=a
 ·subst hb;rw[a0a]at e;cases e;exact new
 ·rw[a0c hb]at e
  exact(x b u e).stay (fun c v _ q=>k c v q) (fun c q=>by rw[a0c (a0h q hn)];exact q) fun c xs q=>by rw[a0c (a0h q hn)];exact q
end
def Rd(H:Hp)(a:Addr)(u:HO):Prop:=H a=some u∨ ∃o,H a=some (.frz o u)
theorem Rd.ok{P:Pg}{w:World}{H:Hp}{h:Heap}{a:Addr}{u:HO}(r:Rd H a u)(x:HOk P w H h):ObjOk P w H h a u:=by
 rcases r with r|⟨o,r⟩
 ·exact x a u r
 ·obtain⟨_,q⟩:=x a _ r
  exact q
def Mut:Option HO->Prop
 |some (.lst _)=>True
 |some (.dK _)=>True
 |some (.dT _)=>True
 |some (.set _ _)=>True
 |some (.ins _ _ _)=>True
 |some (.ext _)=>True
 |_=>False
section
variable{P:Pg}{w:World}{H:Hp}{h h':Heap}{x e:Addr}{o':HO}
theorem HOk.write(ok:HOk P w H h)(mu:Mut (H x))(he:e=x∨H e=some (.own x))(k: ∀b u,b≠e->h.get? b=some u->h'.get? b=some u)(heo: ∃u,h'.get? e=some u)
  (new:ObjOk P w (upd H x o') h' x o'):HOk P w (upd H x o') h':=fun b u q=>by
 have nown: ∀c y,H c=some (.own y)->c≠x:=fun c y r z=>by subst z;rw[r]at mu;exact mu
 have ntup: ∀c xs,H c=some (.tup xs)->c≠x:=fun c xs r z=>by subst z;rw[r]at mu;exact mu
 by_cases hb:b=x
 ·subst hb;rw[a0a]at q;cases q;exact new
 ·rw[a0c hb]at q
  by_cases hbe:b=e
  ·have q':H b=some (.own x):=by
    rcases he with z|z
    ·exact absurd (hbe.trans z) hb
    ·rw[hbe];exact z
   rw[q]at q';cases q';obtain⟨v,hv⟩:=heo;exact⟨v,by rw[hbe];exact hv⟩
  ·refine(ok b u q).stay (fun c v hc r=>k c v ?_ r) (fun c r=>by rw[a0c (nown c b r)];exact r) fun c xs r=>by rw[a0c (ntup c xs r)];exact r
   rcases hc with rfl|hc
   ·exact hbe
   ·rintro rfl
    rcases he with z|z
    ·exact nown c b hc z
    ·rw[hc]at z;cases z;exact hb rfl
end
structure Un(fs ex:As)(H H':Hp)(h h':Heap):Prop where
 keep: ∀b o,h.get? b=some o->H b=none->b∉fs->b∉ex->h'.get? b=some o
 slot: ∀b o,h.get? b=some o->H b=none->b∈fs->b∉ex-> ∃sl,h'.get? b=some {o with slots:=sl}
 free: ∀b o,h.get? b=some o->H b=none->b∉ex->H' b=none
 there: ∀b o,h.get? b=some o->b∉ex-> ∃o',h'.get? b=some o'
 tups: ∀b xs,H b=some (.tup xs)->H' b=some (.tup xs)
 frzs: ∀b o u,H b=some (.frz o u)->H' b=some (.frz o u)
 tbls: ∀b ps,H b=some (.tbl ps)-> ∃more,H' b=some (.tbl (ps++more))
section
variable{fs fs' ex ex':As}{H H1 H2:Hp}{h h1 h2 h':Heap}{a x e:Addr}{o:HO}
theorem Un.any(u:Un fs ex H H1 h h1){b:Addr}{ob:Obj}(q:h.get? b=some ob)(n:H b=none)(hx:b∉ex): ∃sl,h1.get? b=some {ob with slots:=sl}:=by
 by_cases hb:b∈fs
 ·exact u.slot b ob q n hb hx
 ·exact⟨ob.slots,u.keep b ob q n hb hx⟩
theorem Un.kept(k: ∀b u,h.get? b=some u->h'.get? b=some u):Un fs ex H H h h':=
 ⟨fun b ob q _ _ _=>k b ob q,fun b ob q _ _ _=>⟨ob.slots,k b ob q⟩,fun _ _ _ n _=>n,fun b ob q _=>⟨ob,k b ob q⟩,fun _ _ q=>q,fun _ _ _ q=>q,fun _ ps q=>⟨#[],by rw[q];simp⟩⟩
theorem Un.refl:Un fs ex H H h h:=Un.kept fun _ _ q=>q
theorem Un.laid(k: ∀b u,h.get? b=some u->h'.get? b=some u)(hp:h.objs.size<=a)(hn:H a=none):Un fs ex H (upd H a o) h h' where
 keep:=fun b u q _ _ _=>k b u q
 slot:=fun b u q _ _ _=>⟨u.slots,k b u q⟩
 free:=fun b u q n _=>by rw[a0c (a1J (a1I (a0T q) hp))];exact n
 there:=fun b u q _=>⟨u,k b u q⟩
 tups:=fun b xs q=>by rw[a0c (a0h q hn)];exact q
 frzs:=fun b u xs q=>by rw[a0c (a0h q hn)];exact q
 tbls:=fun b ps q=>⟨#[],by rw[a0c (a0h q hn),q];simp⟩
theorem Un.write(mu:Mut (H x))(he:e=x∨H e=some (.own x))(k: ∀b u,b≠e->h.get? b=some u->h'.get? b=some u)(heo: ∃u,h'.get? e=some u):Un fs ex H (upd H x o) h h':=by
 have hx: ∀b,H b=none->b≠x:=fun b n z=>by subst z;rw[n]at mu;exact mu
 have hb: ∀b,H b=none->b≠e:=fun b n z=>by
  subst z
  rcases he with r|r
  ·exact hx b n r
  ·rw[n]at r;cases r
 have hm: ∀b u,H b=some u-> ¬Mut (some u)->b≠x:=fun b u q nm z=>by subst z;rw[q]at mu;exact nm mu
 refine⟨fun b u q n _ _=>k b u (hb b n) q,fun b u q n _ _=>⟨u.slots,k b u (hb b n) q⟩,fun b u q n _=>by rw[a0c (hx b n)];exact n,fun b u q _=>?_,
  fun b xs q=>by rw[a0c (hm b _ q fun z=>z)];exact q,fun b u xs q=>by rw[a0c (hm b _ q fun z=>z)];exact q,fun b ps q=>⟨#[],by rw[a0c (hm b _ q fun z=>z),q];simp⟩⟩
 by_cases hbe:b=e
 ·subst hbe;exact heo
 ·exact⟨u,k b u hbe q⟩
end
def trk(h:Heap)(H:Hp):As:=(List.range h.objs.size).filter fun a=>(H a).isSome
def c5y(h:Heap)(H:Hp):Heap:=PySem.W.hideAll h (trk h H)
theorem c1a(h:Heap)(H:Hp):(c5y h H).objs.size=h.objs.size:=PySem.W.hideAll_size _ _
theorem b1g{h:Heap}{H:Hp}{b:Addr}{o:Obj}(e:h.get? b=some o)(n:H b=none):(c5y h H).get? b=some o:=
 PySem.W.hideAll_get _ e fun hm=>by
  have q:(H b).isSome=true:=(a1O.mp hm).2
  rw[n]at q;simp at q
theorem c9v{h:Heap}{H:Hp}{b:Addr}{o:Obj}(e:(c5y h H).get? b=some o):h.get? b=some o/\H b=none:=by
 have e':h.get? b=some o:=PySem.W.of_hideAll (trk h H) e
 refine⟨e',?_⟩
 cases q:H b with
 |none=>rfl
 |some x=>
  have hm:b∈trk h H:=a1O.mpr ⟨a2J.mpr (a0T e'),by simp[q]⟩
  have z:(c5y h H).get? b=none:=PySem.W.hideAll_none (trk h H) hm
  rw[z]at e;cases e
def c9w(g h:Heap)(L:Addr):AO:=(List.range h.objs.size).filterMap fun a=>if a=L∨(g.get? a).isSome=true then none else(h.get? a).map fun o=>(a,o)
def rest(g h:Heap)(L d:Addr):AO:=(c9w g h L).filter fun p=>decide (p.1≠d)
structure Mod(K:W.Frag)(mg:SV)(base:Heap):Prop where
 kin:K.In base
 glob:base.Ns mainGlobals mg
 blt: ∃mb,base.Ns builtinsNs mb/\ ∀x:Str,x≠"__name__"->mb x=bootBuiltins x
 nolimit:base.NoLimit
/--the context:a def's body (or a comprehension's block) running. base:fixed through the whole law;s₀,H₀:the entry;outer:the frames whose slots others may change (a def's callers);stack:all frames that run;
   ex:iterators that were made ahead of the entry and are walked here (a comprehension's);fn:the names whose cells were made at the entry (a def:all;a comprehension's block:its own);calm:not within an except suite;pn:pins that every state bears;xe:what is wanted of an exception that leaves the code-/
structure Cx where
 prog:Pg
 w:World
 K:W.Frag
 mg:SV
 base:Heap
 A:Ar
 N:Ss
 s₀:Sh
 H₀:Hp
 env:Env
 outer:List Env
 stack:List Env
 ex:As
 fn:Str->Bool
 calm:Bool
 pn:AO
 xe:VP
def frs(l:List Env):As:=l.filterMap (·.frame)
abbrev Cx.fs(X:Cx):As:=frs X.outer
def Vis(sc:Scope)(x:Str):Prop:=sc.names.lookup x=some .local∨sc.names.lookup x=some .cell∨sc.names.lookup x=some .free
def Loc(sc:Scope)(x:Str):Prop:=sc.names.lookup x=some .local∨sc.names.lookup x=some .cell
def Look(env:Env)(h:Heap)(m:SV)(x:Str)(u:Vl):Prop:=
 (env.kindOf x=some .local/\m x=some u)∨((env.kindOf x=some .cell∨env.kindOf x=some .free)/\ ∃c,env.cells.lookup x=some c/\h.IsCell c (some u))
structure Cx.Ok(X:Cx):Prop where
 mod:Mod X.K X.mg X.base
 kind:X.env.scope.kind= .function
 glob:X.env.globals=mainGlobals
 blt:X.env.builtins=builtinsNs
 above:X.s₀.heap.objs.size<=X.env.locals
 inj: ∀x y c,X.env.cells.lookup x=some c->X.env.cells.lookup y=some c->x=y
 has: ∀x,(X.env.kindOf x=some .cell∨X.env.kindOf x=some .free)-> ∃c,X.env.cells.lookup x=some c
 cab: ∀x c,X.fn x=true->X.env.cells.lookup x=some c->X.s₀.heap.objs.size<=c
 hd:X.calm=true->X.A.handled=none
 frames:X.A.frames=some X.stack
 stk:X.stack=X.outer∨(X.stack=X.env::X.outer/\X.env.frame=some X.env.locals)
 exf: ∀b∈X.ex,b≠X.env.locals/\ ∀x c,X.env.cells.lookup x=some c->c≠b
 bs: ∀b o,X.base.get? b=some o->X.s₀.heap.get? b=some o/\X.H₀ b=none
 bsz:X.base.objs.size<=X.s₀.heap.objs.size
 noex: ∀b o,X.base.get? b=some o->b∉X.ex
 exfs: ∀b∈X.ex,b∉X.fs
 funs:X.s₀.heap.FunFrames X.base X.outer
 frf: ∀b∈X.fs,X.H₀ b=none
structure Inv(X:Cx)(pins:AO)(σ:List (Option V))(H:Hp)(s:Sh):Prop where
 ok:X.Ok
 os:s.os=X.s₀.os
 bare:AllBare s.gens
 base:Un X.fs X.ex X.H₀ H X.s₀.heap s.heap
 loc: ∃m,s.heap.Ns X.env.locals m/\ ∀(i:Nat) (x:Str) (v:V),X.N[i]? =some x->σ[i]? =some (some v)->Vis X.env.scope x-> ∃u,RelV v u/\Look X.env s.heap m x u
 cell: ∀x c,X.env.cells.lookup x=some c-> ∃v,s.heap.IsCell c v
 free:H X.env.locals=none
 freeC: ∀x c,X.env.cells.lookup x=some c->H c=none
 pin: ∀p∈X.pn++pins,s.heap.get? p.1=some p.2/\H p.1=none/\p.1≠X.env.locals/\p.1∉X.fs/\ ∀v,p.2.data≠ .cell v
 hok:HOk X.prog X.w H s.heap
 len:σ.length=X.N.length
section
variable{X:Cx}{pins:AO}{σ:List (Option V)}{H H':Hp}{s:Sh}{h':Heap}
theorem Cx.Ok.nofr(ok:X.Ok){b:Addr}{o:Obj}(e:X.base.get? b=some o):b∉X.fs:=fun hb=>by
 have:=(ok.funs.mem hb).1
 rw[e]at this;cases this
theorem Inv.bs(I:Inv X pins σ H s): ∀b o,X.base.get? b=some o->s.heap.get? b=some o/\H b=none:=fun b o e=>
 ⟨I.base.keep b o (I.ok.bs b o e).1 (I.ok.bs b o e).2 (I.ok.nofr e) (I.ok.noex b o e),I.base.free b o (I.ok.bs b o e).1 (I.ok.bs b o e).2 (I.ok.noex b o e)⟩
theorem Inv.bk(I:Inv X pins σ H s): ∀b o,X.base.get? b=some o->s.heap.get? b=some o:=fun b o e=>(I.bs b o e).1
theorem Inv.mod(I:Inv X pins σ H s):Mod X.K X.mg X.base:=I.ok.mod
theorem Inv.kIn(I:Inv X pins σ H s):X.K.In s.heap:=I.ok.mod.kin.keeps I.bk
theorem Inv.lt(I:Inv X pins σ H s):X.env.locals<s.heap.objs.size:=let⟨_,hn,_⟩:=I.loc;hn.lt
theorem Inv.sz(I:Inv X pins σ H s):X.s₀.heap.objs.size<=s.heap.objs.size:=a0Y I.ok.above (a3D I.lt)
theorem Inv.nofs(I:Inv X pins σ H s){a:Addr}(h:s.heap.objs.size<=a):a∉X.fs:=fun hb=>by
 obtain⟨_,o,ho,_⟩:=I.ok.funs.mem hb
 exact absurd (a1I (a0T ho) (a0Y I.sz h)) (a3Y _)
theorem Inv.cne(I:Inv X pins σ H s): ∀x c,X.env.cells.lookup x=some c->c≠X.env.locals:=fun x c e z=>by
 obtain⟨v,o,ho,hd⟩:=I.cell x c e
 obtain⟨m,⟨o',es,ep,ho',hd',_⟩,_⟩:=I.loc
 rw[z,ho']at ho;cases ho;rw[hd']at hd;cases hd
theorem Inv.funs(I:Inv X pins σ H s):s.heap.FunFrames X.base X.outer:=by
 have all: ∀(l:List Env),(∀b∈frs l,b∈X.fs)->X.s₀.heap.FunFrames X.base l->s.heap.FunFrames X.base l:=by
  intro l
  induction l with
  |nil=>intro _ _;trivial
  |cons env r ih=>
   intro hs hl;obtain⟨hk,⟨L,o,hf,hn,ho,hd⟩,hr⟩:=hl;have hL:L∈X.fs:=hs L (by unfold frs;rw[List.filterMap_cons,hf];exact List.mem_cons_self);obtain⟨sl,e⟩:=I.base.slot L o ho (I.ok.frf L hL) hL fun z=>I.ok.exfs L z hL
   exact⟨hk,⟨L,_,hf,hn,e,hd⟩,ih (fun b hb=>hs b (by unfold frs;rw[List.filterMap_cons,hf];exact List.mem_cons_of_mem _ hb)) hr⟩
 exact all X.outer (fun _ hb=>hb) I.ok.funs
theorem Inv.stack(I:Inv X pins σ H s):s.heap.FunFrames X.base X.stack:=by
 rcases I.ok.stk with e|⟨e,hf⟩
 ·rw[e];exact I.funs
 ·rw[e]
  obtain⟨m,hn,_⟩:=I.loc
  refine .cons (by rw[I.ok.kind];decide) hf hn ?_ I.funs
  exact Heap.get?_none_of_le (a0Y I.ok.bsz I.ok.above)
theorem Inv.stkSub(I:Inv X pins σ H s): ∀b∈frs X.stack,b∈X.env.locals::X.fs:=fun b hb=>by
 rcases I.ok.stk with e|⟨e,hf⟩
 ·rw[e]at hb;exact a0X _ hb
 ·rw[e]at hb
  unfold frs at hb
  rw[List.filterMap_cons,hf]at hb
  exact hb
theorem Inv.stkFree(I:Inv X pins σ H s): ∀b∈frs X.stack,H b=none:=fun b hb=>by
 rcases a1C.mp (I.stkSub b hb)with e|hb
 ·rw[e];exact I.free
 ·obtain⟨_,o,ho,_⟩:=I.ok.funs.mem hb
  exact I.base.free b o ho (I.ok.frf b hb) fun z=>I.ok.exfs b z hb
theorem Inv.step{g':Array GenState}{t':Nat}{d':Drawn}{ch:As}(I:Inv X pins σ H s)
  (hch: ∀b∈ch,(b∈X.ex∨X.s₀.heap.objs.size<=b)/\b≠X.env.locals/\(∀x c,X.env.cells.lookup x=some c->c≠b)/\ ∀p∈X.pn++pins,p.1≠b)
  (keep: ∀b o,b≠X.env.locals->b∉X.fs->b∉ch->s.heap.get? b=some o->H b=none->h'.get? b=some o)
  (slot: ∀b o,b≠X.env.locals->b∈X.fs->b∉ch->s.heap.get? b=some o->H b=none-> ∃sl,h'.get? b=some {o with slots:=sl}) (free: ∀b o,b∉ch->s.heap.get? b=some o->H b=none->H' b=none)
  (there: ∀b o,b∉ch->s.heap.get? b=some o-> ∃o',h'.get? b=some o')
  (tups: ∀b xs,H b=some (.tup xs)->H' b=some (.tup xs)) (frzs: ∀b o u,H b=some (.frz o u)->H' b=some (.frz o u)) (tbls: ∀b ps,H b=some (.tbl ps)-> ∃more,H' b=some (.tbl (ps++more)))
  (ns: ∀m,s.heap.Ns X.env.locals m->h'.Ns X.env.locals m) (hok:HOk X.prog X.w H' h') (hg:AllBare g'):
  Inv X pins σ H' {s with heap:=h',gens:=g',drawn:=d',toks:=t'}:=by
 have neL: ∀b o,X.s₀.heap.get? b=some o->b≠X.env.locals:=fun b o e=>a1J (a1I (a0T e) I.ok.above)
 have neC: ∀b o,X.s₀.heap.get? b=some o->b∉X.ex->b∉ch:=fun b o e hx hb=>by
  rcases (hch b hb).1 with z|z
  ·exact hx z
  ·exact absurd (a1I (a0T e) z) (a3Y _)
 have cellK: ∀x c,X.env.cells.lookup x=some c-> ∀v,s.heap.IsCell c v->h'.IsCell c v:=fun x c e v ⟨o,ho,hd⟩=>by
  have nch:c∉ch:=fun z=>(hch c z).2.2.1 x c e rfl
  by_cases hc:c∈X.fs
  ·obtain⟨sl,q⟩:=slot c o (I.cne x c e) hc nch ho (I.freeC x c e)
   exact⟨_,q,hd⟩
  ·exact⟨o,keep c o (I.cne x c e) hc nch ho (I.freeC x c e),hd⟩
 refine⟨I.ok,I.os,hg,⟨fun b o e n hb hx=>?_,fun b o e n hb hx=>?_,fun b o e n hx=>?_,fun b o e hx=>?_,fun b xs e=>tups b xs (I.base.tups b xs e),fun b o xs e=>frzs b o xs (I.base.frzs b o xs e),fun b ps e=>?_⟩,?_,fun x c e=>?_,?_,fun x c e=>?_,fun p hp=>?_,hok,I.len⟩
 ·exact keep b o (neL b o e) hb (neC b o e hx) (I.base.keep b o e n hb hx) (I.base.free b o e n hx)
 ·obtain⟨sl,e1⟩:=I.base.slot b o e n hb hx
  obtain⟨sl',e2⟩:=slot b _ (neL b o e) hb (neC b o e hx) e1 (I.base.free b o e n hx)
  exact⟨sl',e2⟩
 ·obtain⟨o',e1⟩:=I.base.there b o e hx
  exact free b o' (neC b o e hx) e1 (I.base.free b o e n hx)
 ·obtain⟨o',e1⟩:=I.base.there b o e hx
  exact there b o' (neC b o e hx) e1
 ·obtain⟨m1,e1⟩:=I.base.tbls b ps e
  obtain⟨m2,e2⟩:=tbls b _ e1
  exact⟨m1++m2,by rw[e2,Array.append_assoc]⟩
 ·obtain⟨m,hn,hl⟩:=I.loc
  refine⟨m,ns m hn,fun i x v e1 e2 e3=>?_⟩
  obtain⟨u,r,l⟩:=hl i x v e1 e2 e3
  refine⟨u,r,?_⟩
  rcases l with l|⟨k,c,e,z⟩
  ·exact .inl l
  ·exact .inr ⟨k,c,e,cellK x c e _ z⟩
 ·obtain⟨v,z⟩:=I.cell x c e
  exact⟨v,cellK x c e v z⟩
 ·obtain⟨m,⟨o,_,_,ho,_⟩,_⟩:=I.loc
  exact free _ o (fun z=>(hch _ z).2.1 rfl) ho I.free
 ·obtain⟨v,o,ho,hd⟩:=I.cell x c e
  exact free c o (fun z=>(hch c z).2.2.1 x c e rfl) ho (I.freeC x c e)
 ·obtain⟨e,n,ne,nf,d⟩:=I.pin p hp
  have nch:p.1∉ch:=fun z=>(hch p.1 z).2.2.2 p hp rfl
  exact⟨keep p.1 p.2 ne nf nch e n,free p.1 p.2 nch e n,ne,nf,d⟩
theorem Inv.un{t':Nat}(I:Inv X pins σ H s)(u:Un X.fs [] H H' s.heap h')(hok:HOk X.prog X.w H' h'):Inv X pins σ H' {s with heap:=h',toks:=t'}:=by
 obtain⟨m,⟨o,es,ep,ho,r⟩,_⟩:=id I.loc
 obtain⟨sl,hL⟩:=u.any ho I.free (by simp)
 exact I.step (g':=s.gens) (d':=s.drawn) (ch:=[]) (fun _ z=>nomatch z) (fun b o _ hb _ e n=>u.keep b o e n hb (by simp)) (fun b o _ hb _ e n=>u.slot b o e n hb (by simp)) (fun b o _ e n=>u.free b o e n (by simp)) (fun b o _ e=>u.there b o e (by simp)) u.tups u.frzs u.tbls (fun m' hm=>by
  obtain⟨o',es',ep',ho',r'⟩:=hm
  rw[ho]at ho';cases ho'
  exact⟨_,es',ep',hL,r'⟩) hok I.bare
theorem Inv.call{g':Array GenState}{t':Nat}{d':Drawn}{ch:As}(I:Inv X pins σ H s)(u:Un (frs X.stack) ch H H' s.heap h')(hok:HOk X.prog X.w H' h')(hg:AllBare g')
  (hch: ∀b∈ch,(b∈X.ex∨X.s₀.heap.objs.size<=b)/\b≠X.env.locals/\(∀x c,X.env.cells.lookup x=some c->c≠b)/\ ∀p∈X.pn++pins,p.1≠b):
  Inv X pins σ H' {s with heap:=h',gens:=g',drawn:=d',toks:=t'}:=by
 obtain⟨m,⟨o,es,ep,ho,r⟩,_⟩:=id I.loc
 obtain⟨sl,hL⟩:=u.any ho I.free fun z=>(hch _ z).2.1 rfl
 exact I.step (ch:=ch) hch (fun b o hL hb hc e n=>u.keep b o e n (fun z=>(a1C.mp (I.stkSub b z)).elim hL hb) hc) (fun b o _ _ hc e n=>u.any e n hc) (fun b o hc e n=>u.free b o e n hc) (fun b o hc e=>u.there b o e hc) u.tups u.frzs u.tbls (fun m' hm=>by
  obtain⟨o',es',ep',ho',r'⟩:=hm
  rw[ho]at ho';cases ho'
  exact⟨_,es',ep',hL,r'⟩) hok hg
theorem Inv.turned{t':Nat}{it:Addr}(I:Inv X pins σ H s)(k: ∀b o,b≠it->s.heap.get? b=some o->h'.get? b=some o)(hn:H it=none)(hL:it≠X.env.locals)
  (h1:it∈X.ex∨X.s₀.heap.objs.size<=it) (h2: ∀x c,X.env.cells.lookup x=some c->c≠it) (h3: ∀p∈X.pn++pins,p.1≠it):Inv X pins σ H {s with heap:=h',toks:=t'}:=by
 have nit: ∀b u,H b=some u->b≠it:=fun b u e z=>by rw[z,hn]at e;cases e
 refine I.step (g':=s.gens) (d':=s.drawn) (ch:=[it]) (fun b hb=>?_) (fun b o _ _ hc e _=>k b o (fun z=>hc (by simp[z])) e) (fun b o _ _ hc e _=>⟨o.slots,k b o (fun z=>hc (by simp[z])) e⟩) (fun _ _ _ _ n=>n)
  (fun b o hc e=>⟨o,k b o (fun z=>hc (by simp[z])) e⟩) (fun _ _ e=>e) (fun _ _ _ e=>e) (fun b ps e=>⟨#[],by rw[e];simp⟩) (fun m hm=>?_) (fun b u e=>?_) I.bare
 ·have e:b=it:=by simpa using hb
  subst e
  exact⟨h1,hL,h2,h3⟩
 ·obtain⟨o,es,ep,ho,r⟩:=hm
  exact⟨o,es,ep,k _ o (a3K hL) ho,r⟩
 ·refine(I.hok b u e).stay (fun c v hc q=>k c v ?_ q) (fun _ q=>q) fun _ _ q=>q
  rcases hc with z|z
  ·rw[z];exact nit b u e
  ·exact nit c _ z
theorem Inv.tok(I:Inv X pins σ H s)(t:Nat):Inv X pins σ H {s with toks:=t}:=I.un (h':=s.heap) (t':=t) Un.refl I.hok
theorem Inv.kept{t':Nat}(I:Inv X pins σ H s)(k: ∀b u,s.heap.get? b=some u->h'.get? b=some u):Inv X pins σ H {s with heap:=h',toks:=t'}:=I.un (Un.kept k) (I.hok.kept k)
theorem Inv.laid{a:Addr}{o:HO}{t':Nat}(I:Inv X pins σ H s)(k: ∀b u,s.heap.get? b=some u->h'.get? b=some u)(hp:s.heap.objs.size<=a)(new:ObjOk X.prog X.w (upd H a o) h' a o):
  Inv X pins σ (upd H a o) {s with heap:=h',toks:=t'}:=I.un (Un.laid k hp (I.hok.fresh hp)) (I.hok.laid k hp new)
theorem Inv.write{x e:Addr}{o:HO}{t':Nat}(I:Inv X pins σ H s)(mu:Mut (H x))(he:e=x∨H e=some (.own x))(k: ∀b u,b≠e->s.heap.get? b=some u->h'.get? b=some u)(heo: ∃u,h'.get? e=some u)
  (new:ObjOk X.prog X.w (upd H x o) h' x o):Inv X pins σ (upd H x o) {s with heap:=h',toks:=t'}:=I.un (Un.write mu he k heo) (I.hok.write mu he k heo new)
theorem Inv.weak{σ':List (Option V)}(I:Inv X pins σ H s)(hl:σ'.length=σ.length)(w: ∀(i:Nat) v,σ'[i]? =some (some v)->σ[i]? =some (some v)):Inv X pins σ' H s:=
 ⟨I.ok,I.os,I.bare,I.base,let⟨m,hn,hl'⟩:=I.loc;⟨m,hn,fun i x v e1 e2 e3=>hl' i x v e1 (w i v e2) e3⟩,I.cell,I.free,I.freeC,I.pin,I.hok,hl.trans I.len⟩
theorem Inv.pins_of{pins':AO}(I:Inv X pins σ H s)(h: ∀p∈pins',s.heap.get? p.1=some p.2/\H p.1=none/\p.1≠X.env.locals/\p.1∉X.fs/\ ∀v,p.2.data≠ .cell v):Inv X pins' σ H s:=
 ⟨I.ok,I.os,I.bare,I.base,I.loc,I.cell,I.free,I.freeC,fun p hp=>(a0L.mp hp).elim (fun z=>I.pin p (a2Z _ z)) (h p),I.hok,I.len⟩
theorem b6y{N:Ss}(hN:N.Nodup){i j:Nat}{x:Str}(a:N[i]? =some x)(b:N[j]? =some x):i=j:=by
 obtain⟨h1,e1⟩:=a0B.mp a
 obtain⟨h2,e2⟩:=a0B.mp b
 exact(List.getElem_inj hN).mp (e1.trans e2.symm)
theorem b3g{M:Model}{A:Ar}{E:VP}{i:Nat}{x:Str}{v:V}{u:Vl}{Q:Unit->Sh->Prop}(I:Inv X pins σ H s)(hN:X.N.Nodup)(hi:X.N[i]? =some x)(hx:Loc X.env.scope x)(r:RelV v u)
  (h: ∀s',Inv X pins (σ.set i (some v)) H s'->(∃a,Heap.SameBut a s.heap s'.heap/\(a=X.env.locals∨X.env.cells.lookup x=some a))->Q () s') (hf:X.fn x=true∨X.env.scope.names.lookup x=some .local:=by first|exact .inl rfl|exact .inr rfl|assumption):wpAny M A (storeName X.env x u) Q E s:=by
 obtain⟨m,hn,hl⟩:=id I.loc
 have hcls:(X.env.scope.kind== .class || (X.env.scope.kind== .module&&X.env.locals != X.env.globals))=false:=by rw[I.ok.kind];rfl
 have hiσ:i<σ.length:=by rw[I.len];exact(a0B.mp hi).1
 have cne:=I.cne
 have tracked: ∀{a:Addr} {h':Heap},(∃o,s.heap.get? a=some o/\H a=none)->Heap.SameBut a s.heap h'->HOk X.prog X.w H h':=fun {a h'} ha hs b ob e=>by
  obtain⟨_,_,hfree⟩:=ha
  refine(I.hok b ob e).stay (fun c w' hc q=>(hs.2 c ?_).trans q) (fun _ q=>q) fun _ _ q=>q
  rintro rfl
  rcases hc with rfl|hc
  ·rw[hfree]at e;cases e
  ·rw[hfree]at hc;cases hc
 rcases hx with hk|hk
 ·refine wpAny_storeName_local hk hn (fun h' hn' hs=>?_) hcls
  obtain⟨oL,_,_,hoL,_⟩:=id hn
  refine h _ ⟨I.ok,I.os,I.bare,⟨fun b o e n hb hx=>?_,fun b o e n hb hx=>?_,I.base.free,fun b o e hx=>?_,I.base.tups,I.base.frzs,I.base.tbls⟩,⟨_,hn',fun j y v' e1 e2 e3=>?_⟩,fun y c e=>?_,I.free,I.freeC,fun p hp=>?_,tracked ⟨oL,hoL,I.free⟩ hs,by simpa using I.len⟩ ⟨_,hs,.inl rfl⟩
  ·exact(hs.2 b (a1J (a1I (a0T e) I.ok.above))).trans (I.base.keep b o e n hb hx)
  ·obtain⟨sl,e1⟩:=I.base.slot b o e n hb hx
   exact⟨sl,(hs.2 b (a1J (a1I (a0T e) I.ok.above))).trans e1⟩
  ·obtain⟨o',e1⟩:=I.base.there b o e hx
   exact⟨o',(hs.2 b (a1J (a1I (a0T e) I.ok.above))).trans e1⟩
  ·by_cases hj:j=i
   ·subst hj
    rw[hi]at e1;cases e1;rw[List.getElem?_set_self hiσ]at e2;cases e2;exact⟨u,r,.inl ⟨hk,by simp⟩⟩
   ·rw[List.getElem?_set_ne (a3K hj)]at e2
    obtain⟨u',r',q⟩:=hl j y v' e1 e2 e3;refine⟨u',r',?_⟩
    rcases q with⟨k,e⟩|⟨k,c,e,z⟩
    ·refine .inl ⟨k,?_⟩
     have:y≠x:=fun e=>hj (b6y hN e1 (e▸hi))
     simp[this,e]
    ·exact .inr ⟨k,c,e,z.sameBut hs (cne y c e)⟩
  ·obtain⟨w',z⟩:=I.cell y c e
   exact⟨w',z.sameBut hs (cne y c e)⟩
  ·obtain⟨e,n,ne,nf,d⟩:=I.pin p hp
   exact⟨(hs.2 p.1 ne).trans e,n,ne,nf,d⟩
 ·have hfn:X.fn x=true:=by
   rcases hf with z|z
   ·exact z
   ·rw[z]at hk;cases hk
  obtain⟨c,hc⟩:=I.ok.has x (.inl hk)
  obtain⟨w',z⟩:=I.cell x c hc
  refine wpAny_storeName_cell I.ok.kind hk hc z (fun h' hc' hs=>?_)
  obtain⟨oc,hoc,hocd⟩:=id z
  refine h {s with heap:=h'} ⟨I.ok,I.os,I.bare,⟨fun b o e n hb hx=>?_,fun b o e n hb hx=>?_,I.base.free,fun b o e hx=>?_,I.base.tups,I.base.frzs,I.base.tbls⟩,⟨m,hn.sameBut hs (a3K (cne x c hc)),fun j y v' e1 e2 e3=>?_⟩,fun y c' e=>?_,I.free,I.freeC,fun p hp=>?_,tracked ⟨oc,hoc,I.freeC x c hc⟩ hs,by simpa using I.len⟩ ⟨c,hs,.inr hc⟩
  ·exact(hs.2 b (a1J (a1I (a0T e) (I.ok.cab x c hfn hc)))).trans (I.base.keep b o e n hb hx)
  ·obtain⟨sl,e1⟩:=I.base.slot b o e n hb hx
   exact⟨sl,(hs.2 b (a1J (a1I (a0T e) (I.ok.cab x c hfn hc)))).trans e1⟩
  ·obtain⟨o',e1⟩:=I.base.there b o e hx
   exact⟨o',(hs.2 b (a1J (a1I (a0T e) (I.ok.cab x c hfn hc)))).trans e1⟩
  ·by_cases hj:j=i
   ·subst hj
    rw[hi]at e1;cases e1;rw[List.getElem?_set_self hiσ]at e2;cases e2;exact⟨u,r,.inr ⟨.inl hk,c,hc,hc'⟩⟩
   ·rw[List.getElem?_set_ne (a3K hj)]at e2
    obtain⟨u',r',q⟩:=hl j y v' e1 e2 e3;refine⟨u',r',?_⟩
    rcases q with q|⟨k,c',e,z'⟩
    ·exact .inl q
    ·refine .inr ⟨k,c',e,z'.sameBut hs ?_⟩
     rintro rfl;exact hj (b6y hN e1 (I.ok.inj _ _ _ e hc▸hi))
  ·by_cases hcc:c'=c
   ·subst hcc;exact⟨_,hc'⟩
   ·obtain⟨w2,z2⟩:=I.cell y c' e
    exact⟨w2,z2.sameBut hs hcc⟩
  ·obtain⟨e,n,ne,nf,d⟩:=I.pin p hp
   refine⟨(hs.2 p.1 ?_).trans e,n,ne,nf,d⟩;intro q;rw[q,hoc]at e;have q':oc=p.2:=a1U e;exact d w' (by rw[<-q'];exact hocd)
theorem b6z{M:Model}{A:Ar}{E:VP}{i:Nat}{x:Str}{v:V}{u:Vl}{Q:Unit->Sh->Prop}(I:Inv X pins σ H s)(hN:X.N.Nodup)(hi:X.N[i]? =some x)(hx:Loc X.env.scope x)(r:RelV v u)
  (h: ∀s',Inv X pins (σ.set i (some v)) H s'->Q () s') (hf:X.fn x=true∨X.env.scope.names.lookup x=some .local:=by first|exact .inl rfl|exact .inr rfl|assumption):wpAny M A (storeName X.env x u) Q E s:=
 b3g I hN hi hx r (fun s' I' _=>h s' I') hf
theorem Inv.call'{s':Sh}{ch:As}(I:Inv X pins σ H s)(ho:s'.os=s.os)(u:Un (frs X.stack) ch H H' s.heap s'.heap)(hok:HOk X.prog X.w H' s'.heap)(hg:AllBare s'.gens)
  (hch: ∀b∈ch,(b∈X.ex∨X.s₀.heap.objs.size<=b)/\b≠X.env.locals/\(∀x c,X.env.cells.lookup x=some c->c≠b)/\ ∀p∈X.pn++pins,p.1≠b):Inv X pins σ H' s':=by
 obtain⟨h',g',d',t',o'⟩:=s'
 have e:o'=s.os:=ho
 subst e
 exact I.call (g':=g') (t':=t') (d':=d') u hok hg hch
end
abbrev XK:=Vl->Option Addr->Hp->Prop
abbrev St:=List (Option V)
abbrev VK:=V->Hp->Prop
abbrev TE:=St->Hp->VK->Prop
abbrev TT:=St->Hp->(Bool->Hp->Prop)->Prop
abbrev TA:=St->Hp->(List V->Hp->Prop)->Prop
structure Ends where
 nx:St->Hp->Prop
 rt:VK
 bk:St->Hp->Prop:=fun _ _=>False
 ct:St->Hp->Prop:=fun _ _=>False
abbrev TS:=Ends->St->Hp->Prop
def EP(X:Cx)(pins:AO)(σ:St)(Q:VK)(u:Vl)(s':Sh):Prop:= ∃v H',Inv X pins σ H' s'/\RelV v u/\Q v H'
def TP(X:Cx)(pins:AO)(σ:St)(Q:Bool->Hp->Prop)(b:Bool)(s':Sh):Prop:= ∃H',Inv X pins σ H' s'/\Q b H'
def AP(X:Cx)(pins:AO)(σ:St)(Q:List V->Hp->Prop)(us:Vs)(s':Sh):Prop:= ∃vs H',Inv X pins σ H' s'/\Vals vs us/\Q vs H'
def SP(X:Cx)(pins:AO)(D:Ends)(f:Flow)(s':Sh):Prop:=
 match f with
 | .next=> ∃σ' H',Inv X pins σ' H' s'/\D.nx σ' H'
 | .brk=> ∃σ' H',Inv X pins σ' H' s'/\D.bk σ' H'
 | .cont=> ∃σ' H',Inv X pins σ' H' s'/\D.ct σ' H'
 | .ret u=> ∃v σ' H',Inv X pins σ' H' s'/\RelV v u/\D.rt v H'
def PE(X:Cx)(e:Expr)(t:TE):Prop:=
 ∀(pins:AO) (s:Sh) (σ:St) (H:Hp) (Q:VK),Inv X pins σ H s->t σ H Q->wpAny (model X.prog X.w) X.A (eval e X.env) (EP X pins σ Q) X.xe s
def PT(X:Cx)(e:Expr)(t:TT):Prop:=
 ∀(pins:AO) (s:Sh) (σ:St) (H:Hp) (Q:Bool->Hp->Prop),Inv X pins σ H s->t σ H Q->wpAny (model X.prog X.w) X.A (isTrue e X.env (eval e X.env)) (TP X pins σ Q) X.xe s
def PW(X:Cx)(e:Expr)(t:TT):Prop:=
 ∀(whole:Sem Vl) (pins:AO) (s:Sh) (σ:St) (H:Hp) (Q:Bool->Hp->Prop),Inv X pins σ H s->t σ H Q->wpAny (model X.prog X.w) X.A (isTrue e X.env whole) (TP X pins σ Q) X.xe s
theorem PW.pt{X:Cx}{e:Expr}{t:TT}(h:PW X e t):PT X e t:=h _
def PA(X:Cx)(es:List Expr)(t:TA):Prop:=
 ∀(pos:Pos) (pins:AO) (s:Sh) (σ:St) (H:Hp) (Q:List V->Hp->Prop),Inv X pins σ H s->t σ H Q->wpAny (model X.prog X.w) X.A (spliced (backTo pos (starEach es X.env))) (AP X pins σ Q) X.xe s
def PS(X:Cx)(st:Stmt)(t:TS):Prop:=
 ∀(pins:AO) (s:Sh) (σ:St) (H:Hp) (D:Ends),Inv X pins σ H s->t D σ H->wpAny (model X.prog X.w) X.A (exec st X.env) (SP X pins D) X.xe s
def PSs(X:Cx)(st:List Stmt)(t:TS):Prop:=
 ∀(pins:AO) (s:Sh) (σ:St) (H:Hp) (D:Ends),Inv X pins σ H s->t D σ H->wpAny (model X.prog X.w) X.A (execs st X.env) (SP X pins D) X.xe s
theorem thn{α:Type}{t:Sem α}{Q Q':α->Sh->Prop}{M:Model}{A:Ar}{E:VP}{s:Sh}(h:wpAny M A t Q E s)(hQ: ∀a s,Q a s->Q' a s):wpAny M A t Q' E s:=a3I h hQ fun _ _ x=>x
section
variable{X:Cx}
def a7l(i:Nat):TE:=fun σ H Q=> ∃v,σ[i]? =some (some v)/\Q v H
def tC(v:V):TE:=fun _ H Q=>Q v H
theorem d2j{i:Nat}{x:Str}{pos:Pos}(hN:X.N[i]? =some x)(hv:Vis X.env.scope x)(hd:(x==("__debug__":Str))=false:=by decide)(hcd:(x==("__classdict__":Str))=false:=by decide):PE X (.Name x pos) (a7l i):=by
 intro pins s σ H Q I h
 obtain⟨v,e,h⟩:=h
 obtain⟨m,hn,hl⟩:=I.loc
 obtain⟨u,r,l⟩:=hl i x v hN e hv
 have fin:EP X pins σ Q u s:=⟨v,H,I,r,h⟩
 rcases l with⟨hk,hm⟩|⟨hk,c,hc,hcell⟩
 ·exact wpAny_Name (wpAny_loadName_local I.ok.kind hk hn hm fin) hd
 ·rcases hk with hk|hk
  ·exact wpAny_Name (wpAny_loadName_cell I.ok.kind hk hc hcell fin) hd
  ·exact wpAny_Name (wpAny_loadName_free I.ok.kind hk hc hcell fin hcd) hd
theorem a0p{i j pos}:PE X (.Constant (.int i) j pos) (tC (.int i)):=fun _ _ _ H _ I h=>wpAny_Constant_int ⟨.int i,H,I.tok _,⟨_,rfl⟩,h⟩
theorem c9x{b j pos}:PE X (.Constant (.bool b) j pos) (tC (.bl b)):=fun _ _ _ H _ I h=>Constant_bool ⟨.bl b,H,I,rfl,h⟩
theorem b7a{j pos}:PE X (.Constant .none j pos) (tC .non):=fun _ _ _ H _ I h=>Constant_none ⟨.non,H,I,rfl,h⟩
theorem b7b{x j pos}:PE X (.Constant (.str x) j pos) (tC (.str x)):=fun _ _ _ H _ I h=>Calls.Constant_str ⟨.str x,H,I.tok _,⟨_,rfl⟩,h⟩
def Gl(X:Cx)(x:Str):Prop:=X.env.kindOf x=some .globalImplicit
theorem b1h{E:VP}{pins:AO}{s:Sh}{σ:St}{H:Hp}{x:Str}{u:Vl}{pos:Pos}{Q:VP}(I:Inv X pins σ H s)(hg:Gl X x)(hm:X.mg x=some u)(h:Q u s)
  (hd:(x==("__debug__":Str))=false:=by decide):wpAny (model X.prog X.w) X.A (eval (.Name x pos) X.env) Q E s:=
 a8O I.ok.kind hg (Calls.loadGlobal_global (by rw[I.ok.glob];exact I.mod.glob.keeps I.bk) hm h) hd
theorem b0i{E:VP}{pins:AO}{s:Sh}{σ:St}{H:Hp}{x:Str}{u:Vl}{pos:Pos}{Q:VP}(I:Inv X pins σ H s)(hg:Gl X x)(hm:X.mg x=none)(hv:bootBuiltins x=some u)(h:Q u s)
  (hn:x≠"__name__":=by decide) (hd:(x==("__debug__":Str))=false:=by decide):wpAny (model X.prog X.w) X.A (eval (.Name x pos) X.env) Q E s:=by
 obtain⟨mb,h1,h2⟩:=I.mod.blt
 exact a8O I.ok.kind hg (Calls.loadGlobal_builtin (by rw[I.ok.glob];exact I.mod.glob.keeps I.bk) hm (by rw[I.ok.blt];exact h1.keeps I.bk) ((h2 x hn).trans hv) h) hd
theorem c9y{x:Str}{v:V}{u:Vl}{pos:Pos}(hg:Gl X x)(hm:X.mg x=none)(hv:bootBuiltins x=some u)(r:RelV v u)(hn:x≠"__name__":=by decide)(hd:(x==("__debug__":Str))=false:=by decide):PE X (.Name x pos) (tC v):=
 fun _ _ _ H _ I h=>b0i I hg hm hv ⟨v,H,I,r,h⟩ hn hd
variable{a b:Expr}{ta tb:TE}{pos:Pos}
def PC(X:Cx)(op:CmpOp)(a b:Expr)(t:TE):Prop:=
 ∀(pins:AO) (s:Sh) (σ:St) (H:Hp) (Q:VK),Inv X pins σ H s->t σ H Q->
  wpAny (model X.prog X.w) X.A (eval a X.env) (fun v s₁=>wpAny (model X.prog X.w) X.A (eval b X.env) (fun u s₂=>wpAny (model X.prog X.w) X.A (compareOp op v u) (EP X pins σ Q) X.xe s₂) X.xe s₁) X.xe s
theorem b7c(b:Expr){op:CmpOp}(h:op≠ .In)(h2:op≠ .NotIn):behindInMarks op b=false:=by
 have e1:(op==CmpOp.In)=false:=by cases op<;>first|rfl|exact absurd rfl h
 have e2:(op==CmpOp.NotIn)=false:=by cases op<;>first|rfl|exact absurd rfl h2
 cases b<;>simp[behindInMarks,e1,e2]
def tB(t:TE):TT:=fun σ H Q=>t σ H fun x H1=> ∃c,x= .bl c/\Q c H1
theorem d2k{op:CmpOp}{t:TE}(h:PC X op a b t)(h1:behindInMarks op b=false:=by first|exact b7c _ (by decide) (by decide)|rfl):PE X (.Compare a [op] [b] pos) t:=fun pins s σ H Q I hw=>wpAny_Compare1 (h pins s σ H Q I hw) h1
theorem c1b{op:CmpOp}{t:TE}(h:PC X op a b t)(h1:behindInMarks op b=false:=by first|exact b7c _ (by decide) (by decide)|rfl):PT X (.Compare a [op] [b] pos) (tB t):=by
 intro pins s σ H Q I hw
 refine wpAny_isTrue_Compare1 (thn (h pins s σ H _ I hw) fun v s1 h1=>thn h1 fun u s2 h2=>thn h2 fun c s3 ⟨x,H1,I1,r1,q1⟩=>?_) h1
 obtain⟨d,rfl,q⟩:=q1
 cases r1
 exact a3U ⟨H1,I1,q⟩
theorem a5z{e:Expr}{t:TE}(h:PE X e t)(he: ∀whole,isTrue e X.env whole=(do let v <-whole;standAt e.pos;holding [v] (truthy v)):=by intro _;rfl):PT X e (tB t):=by
 intro pins s σ H Q I hw
 refine isTrue_plain (thn (h pins s σ H _ I hw) fun v s1 ⟨x,H1,I1,r1,q1⟩=>?_) (he _)
 obtain⟨d,rfl,q⟩:=q1
 cases r1
 exact a3U ⟨H1,I1,q⟩
variable{tA tB':TT}{rest:List Expr}
def tAnd(t u:TT):TT:=fun σ H Q=>t σ H fun c H1=>if c=true then u σ H1 Q else Q false H1
def tOr(t u:TT):TT:=fun σ H Q=>t σ H fun c H1=>if c=true then Q true H1 else u σ H1 Q
def tNot(t:TT):TT:=fun σ H Q=>t σ H fun c H1=>Q (!c) H1
theorem b1i(ha:PT X a tA):PW X (.BoolOp .And [a] pos) tA:=by
 intro wh pins s σ H Q I h
 refine isTrue_and (thn (ha pins s σ H Q I h) fun c s1 e=>?_)
 cases c with
 |true=>exact isTrue_and_nil e
 |false=>exact e
theorem c8s(ha:PT X a tA):PW X (.BoolOp .Or [a] pos) tA:=by
 intro wh pins s σ H Q I h
 refine isTrue_or (thn (ha pins s σ H Q I h) fun c s1 e=>?_)
 cases c with
 |false=>exact isTrue_or_nil e
 |true=>exact e
theorem b7d(ha:PT X a tA)(hb:PW X (.BoolOp .And (b::rest) pos) tB'):PW X (.BoolOp .And (a::b::rest) pos) (tAnd tA tB'):=by
 intro wh pins s σ H Q I h
 refine isTrue_and (thn (ha pins s σ H _ I h) fun c s1 ⟨H1,I1,q1⟩=>?_)
 cases c with
 |true=>exact hb wh pins s1 σ H1 Q I1 q1
 |false=>exact⟨H1,I1,q1⟩
theorem c9z(ha:PT X a tA)(hb:PW X (.BoolOp .Or (b::rest) pos) tB'):PW X (.BoolOp .Or (a::b::rest) pos) (tOr tA tB'):=by
 intro wh pins s σ H Q I h
 refine isTrue_or (thn (ha pins s σ H _ I h) fun c s1 ⟨H1,I1,q1⟩=>?_)
 cases c with
 |true=>exact⟨H1,I1,q1⟩
 |false=>exact hb wh pins s1 σ H1 Q I1 q1
theorem a8t(ha:PT X a tA):PT X (.UnaryOp .Not a pos) (tNot tA):=by
 intro pins s σ H Q I h
 exact isTrue_not (ha pins s σ H (fun c H1=>Q (!c) H1) I h)
def tAndV(ta tb:TE):TE:=fun σ H Q=>ta σ H fun x H1=> ∃c,x= .bl c/\if c=true then tb σ H1 Q else Q (.bl false) H1
def tNotV(ta:TE):TE:=fun σ H Q=>ta σ H fun x H1=> ∃c,x= .bl c/\Q (.bl (!c)) H1
theorem b3h{op}{t:TE}(h:PE X a t):PE X (.BoolOp op [a] pos) t:=fun pins s σ H Q I hw=>BoolOp_one (h pins s σ H Q I hw)
theorem b3i(ha:PE X a ta)(hb:PE X (.BoolOp .And (b::rest) pos) tb):PE X (.BoolOp .And (a::b::rest) pos) (tAndV ta tb):=by
 intro pins s σ H Q I h
 refine BoolOp_and (thn (ha pins s σ H _ I h) fun v s1 ⟨x,H1,I1,r1,q1⟩=>?_)
 obtain⟨c,rfl,q1⟩:=q1
 cases r1
 refine a3U ?_
 cases c with
 |true=>exact hb pins s1 σ H1 Q I1 q1
 |false=>exact⟨.bl false,H1,I1,rfl,q1⟩
theorem d2l(ha:PE X a ta):PE X (.UnaryOp .Not a pos) (tNotV ta):=by
 intro pins s σ H Q I h
 refine UnaryOp_ (thn (ha pins s σ H _ I h) fun v s1 ⟨x,H1,I1,r1,q1⟩=>?_)
 obtain⟨c,rfl,q1⟩:=q1
 cases r1
 exact not_of (a3U ⟨.bl (!c),H1,I1,rfl,q1⟩)
end
def SqL(K:W.Frag)(H:Hp)(a:Addr)(xs:List V):Prop:=
 Rd H a (.lst xs)∨
  ∃(o:Obj) (its:AV) (n:Nat),K.lookup a=some o/\o.cls= .type "list"/\o.dict=none/\o.data= .seq its n/\its.size<=sizeLine/\Vals xs its.toList
def SqT(K:W.Frag)(H:Hp)(a:Addr)(xs:List V):Prop:=
 Rd H a (.tup xs)∨
  ∃(o:Obj) (its:AV) (n:Nat),K.lookup a=some o/\o.cls= .type "tuple"/\o.data= .seq its n/\its.size<=sizeLine/\Vals xs its.toList
def absV:Vl->Option V
 | .none=>some .non
 | .bool b=>some (.bl b)
 | .int i _=>some (.int i)
 | .str x _=>some (.str x)
 | .bytes b _=>some (.byt b)
 | .float b _=>some (.flt b)
 | .ref a=>some (.ref a)
 | .type n=>some (.ty n)
 |_=>none
theorem RelV.abs{x:V}{u:Vl}(r:RelV x u):absV u=some x:=by
 cases x with
 |non=>cases r;rfl
 |bl _=>cases r;rfl
 |int _=>obtain⟨t,rfl⟩:=r;rfl
 |str _=>obtain⟨t,rfl⟩:=r;rfl
 |byt _=>obtain⟨t,rfl⟩:=r;rfl
 |flt _=>obtain⟨t,rfl⟩:=r;rfl
 |ref _=>cases r;rfl
 |ty _=>cases r;rfl
theorem RelV.inj{x y:V}{u:Vl}(r:RelV x u)(q:RelV y u):x=y:=a1U (r.abs.symm.trans q.abs)
theorem Vals.inj: ∀{xs ys:List V} {us:Vs},Vals xs us->Vals ys us->xs=ys
 |_,_,_,.nil,.nil=>rfl
 |_,_,_,.cons r t,.cons r' t'=>by rw[r.inj r',Vals.inj t t']
section
variable{X:Cx}{pins:AO}{σ:St}{H:Hp}{s:Sh}{a:Addr}{xs ys:List V}
theorem SqL.of{K:W.Frag}(h:H a=some (.lst xs)):SqL K H a xs:= .inl (.inl h)
theorem SqT.of{K:W.Frag}(h:H a=some (.tup xs)):SqT K H a xs:= .inl (.inl h)
theorem Inv.list(I:Inv X pins σ H s)(h:SqL X.K H a xs): ∃its:Vs,Vals xs its/\PlainL s.heap a its.toArray/\xs.length<=sizeLine:=by
 rcases h with h|⟨o,its,n,hk,hc,hd,hs,hz,r⟩
 ·obtain⟨z,its,n,r,e⟩:=h.ok I.hok
  exact⟨its,r,⟨_,n,e,rfl,rfl,rfl⟩,z⟩
 ·refine⟨its.toList,r,⟨o,n,I.kIn a o hk,hc,hd,by simpa using hs⟩,?_⟩
  have e:=r.length
  simp only[Array.length_toList]at e
  lia
theorem Inv.tuple(I:Inv X pins σ H s)(h:SqT X.K H a xs): ∃its:Vs,Vals xs its/\IsTup s.heap a its.toArray/\xs.length<=sizeLine:=by
 rcases h with h|⟨o,its,n,hk,hc,hs,hz,r⟩
 ·obtain⟨z,its,r,p⟩:=h.ok I.hok
  exact⟨its,r,p.is,z⟩
 ·refine⟨its.toList,r,⟨o,I.kIn a o hk,hc,n,by simpa using hs⟩,?_⟩
  have e:=r.length
  simp only[Array.length_toList]at e
  lia
theorem Inv.list_inj(I:Inv X pins σ H s)(h:SqL X.K H a xs)(h':SqL X.K H a ys):xs=ys:=by
 obtain⟨its,r,⟨o,n,e,_,_,d⟩,_⟩:=I.list h
 obtain⟨its',r',⟨o',n',e',_,_,d'⟩,_⟩:=I.list h'
 rw[e]at e';cases e'
 rw[d]at d'
 injection d' with d1 _
 have:its=its':=by simpa using congrArg Array.toList d1
 subst this
 exact r.inj r'
theorem Inv.tuple_inj(I:Inv X pins σ H s)(h:SqT X.K H a xs)(h':SqT X.K H a ys):xs=ys:=by
 obtain⟨its,r,⟨o,e,_,n,d⟩,_⟩:=I.tuple h
 obtain⟨its',r',⟨o',e',_,n',d'⟩,_⟩:=I.tuple h'
 rw[e]at e';cases e'
 rw[d]at d'
 injection d' with d1 _
 have:its=its':=by simpa using congrArg Array.toList d1
 subst this
 exact r.inj r'
end
abbrev Cx.wish(X:Cx)(E:VP):Cx:={X with xe:=E}
abbrev Cx.nox(X:Cx):Cx:=X.wish fun _ _=>False
theorem Cx.Ok.wish{X:Cx}(ok:X.Ok)(E:VP):(X.wish E).Ok:=
 ⟨ok.mod,ok.kind,ok.glob,ok.blt,ok.above,ok.inj,ok.has,ok.cab,ok.hd,ok.frames,ok.stk,ok.exf,ok.bs,ok.bsz,ok.noex,ok.exfs,ok.funs,ok.frf⟩
theorem Cx.Ok.unwish{X:Cx}{E:VP}(ok:(X.wish E).Ok):X.Ok:=
 ⟨ok.mod,ok.kind,ok.glob,ok.blt,ok.above,ok.inj,ok.has,ok.cab,ok.hd,ok.frames,ok.stk,ok.exf,ok.bs,ok.bsz,ok.noex,ok.exfs,ok.funs,ok.frf⟩
section
variable{X:Cx}{pins:AO}{σ:St}{H:Hp}{s:Sh}{E:VP}
theorem Inv.wish(I:Inv X pins σ H s)(E:VP):Inv (X.wish E) pins σ H s:=⟨I.ok.wish E,I.os,I.bare,I.base,I.loc,I.cell,I.free,I.freeC,I.pin,I.hok,I.len⟩
theorem Inv.unwish(I:Inv (X.wish E) pins σ H s):Inv X pins σ H s:=⟨I.ok.unwish,I.os,I.bare,I.base,I.loc,I.cell,I.free,I.freeC,I.pin,I.hok,I.len⟩
theorem SP.unwish{D:Ends}{f:Flow}{s':Sh}(h:SP (X.wish E) pins D f s'):SP X pins D f s':=by
 cases f with
 |next=>obtain⟨σ',H',I,q⟩:=h;exact⟨σ',H',I.unwish,q⟩
 |brk=>obtain⟨σ',H',I,q⟩:=h;exact⟨σ',H',I.unwish,q⟩
 |cont=>obtain⟨σ',H',I,q⟩:=h;exact⟨σ',H',I.unwish,q⟩
 |ret u=>obtain⟨v,σ',H',I,r,q⟩:=h;exact⟨v,σ',H',I.unwish,r,q⟩
theorem PSs.nox{st:List Stmt}{t:TS}(h:PSs X.nox st t):PSs X st t:=fun pins s σ H D I hw=>
 a3I (h pins s σ H D (I.wish _) hw) (fun _ _ q=>q.unwish) fun _ _ z=>False.elim z
end
section
variable{X:Cx}{st:Stmt}{rest:List Stmt}{t u:TS}{e:Expr}{te:TE}{pos:Pos}
def d2m:TS:=fun D σ H=>D.nx σ H
def c5w(t u:TS):TS:=fun D σ H=>t {D with nx:=u D} σ H
theorem a2m:PSs X [] d2m:=fun _ _ σ H _ I h=>a8G ⟨σ,H,I,h⟩
theorem a0g(h1:PS X st t)(h2:PSs X rest u):PSs X (st::rest) (c5w t u):=by
 intro pins s σ H D I h
 refine wpAny_execs_cons (thn (h1 pins s σ H {D with nx:=u D} I h) fun f s1 q=>?_)
 cases f with
 |next=>
  obtain⟨σ',H',I',q⟩:=q
  exact h2 pins s1 σ' H' D I' q
 |ret v=>exact q
 |brk=>exact q
 |cont=>exact q
theorem a0j(h1:PS X st t):PSs X [st] t:=by
 intro pins s σ H D I h
 refine wpAny_execs_cons (thn (h1 pins s σ H D I h) fun f s1 q=>?_)
 cases f with
 |next=>exact a8G q
 |ret v=>exact q
 |brk=>exact q
 |cont=>exact q
theorem Inv.quiet{pins:AO}{σ:St}{H:Hp}{s:Sh}(I:Inv X pins σ H s):interactive X.env=false:=by simp[interactive,I.ok.kind]
def c5z(te:TE):TS:=fun D σ H=>te σ H fun _ H1=>D.nx σ H1
theorem a2n(he:PE X e te)(hs:swapsWith e none pos.line X.env=pure false:=by rfl):PS X (.Expr e pos) (c5z te):=by
 intro pins s σ H D I h
 exact wpAny_Expr_any (thn (he pins s σ H _ I h) fun v s1 ⟨x,H1,I1,r1,q1⟩=>⟨σ,H1,I1,q1⟩) I.quiet hs
def tRet(te:TE):TS:=fun D σ H=>te σ H D.rt
theorem a0w(he:PE X e te):PS X (.Return (some e) pos) (tRet te):=by
 intro pins s σ H D I h
 exact wpAny_Return_some (thn (he pins s σ H _ I h) fun v s1 ⟨x,H1,I1,r1,q1⟩=>⟨x,σ,H1,I1,r1,q1⟩)
def tIfS(c:TT)(t u:TS):TS:=fun D σ H=>c σ H fun b H1=>if b=true then t D σ H1 else u D σ H1
theorem a5n{c:Expr}{a b:List Stmt}{tc:TT}(hc:PT X c tc)(ha:PSs X a t)(hb:PSs X b u):PS X (.If c a b pos) (tIfS tc t u):=by
 intro pins s σ H D I h
 refine wpAny_If (thn (hc pins s σ H _ I h) fun d s1 ⟨H1,I1,q1⟩=>?_)
 cases d with
 |true=>exact ha pins s1 σ H1 D I1 q1
 |false=>exact hb pins s1 σ H1 D I1 q1
def d2n:TS:=fun _ _ _=>False
theorem c6a:PS X st d2n:=fun _ _ _ _ _ _ h=>h.elim
end
abbrev TG:=V->St->Hp->(St->Hp->Prop)->Prop
abbrev TGs:=List V->St->Hp->(St->Hp->Prop)->Prop
def PG(X:Cx)(target:Expr)(t:TG):Prop:=
 ∀(pins:AO) (s:Sh) (σ:St) (H:Hp) (v:V) (u:Vl) (Q:St->Hp->Prop),Inv X pins σ H s->RelV v u->t v σ H Q->
  wpAny (model X.prog X.w) X.A (assign target X.env u) (fun _ s'=> ∃σ' H',Inv X pins σ' H' s'/\Q σ' H') X.xe s
def PGs(X:Cx)(ts:List Expr)(t:TGs):Prop:=
 ∀(pins:AO) (s:Sh) (σ:St) (H:Hp) (vs:List V) (us:Vs) (Q:St->Hp->Prop),Inv X pins σ H s->Vals vs us->t vs σ H Q->
  wpAny (model X.prog X.w) X.A (assignInOrder ((assignEach ts X.env).map (·.2)) us) (fun _ s'=> ∃σ' H',Inv X pins σ' H' s'/\Q σ' H') X.xe s
abbrev TSet:=V->V->V->Hp->(Hp->Prop)->Prop
def PSet(X:Cx)(t:TSet):Prop:=
 ∀(pins:AO) (s:Sh) (σ:St) (H:Hp) (o i v:V) (ov iv u:Vl) (Q:Hp->Prop),Inv X pins σ H s->RelV o ov->RelV i iv->RelV v u->t o i v H Q->
  wpAny (model X.prog X.w) X.A (setItem ov iv u) (fun _ s'=> ∃H',Inv X pins σ H' s'/\Q H') X.xe s
section
variable{X:Cx}{pos:Pos}
def a4m(i:Nat):TG:=fun v σ H Q=>Q (σ.set i (some v)) H
theorem a1a{i:Nat}{x:Str}(hN:X.N.Nodup)(hi:X.N[i]? =some x)(hx:Loc X.env.scope x)(hf:X.fn x=true∨X.env.scope.names.lookup x=some .local:=by first|exact .inl rfl|exact .inr rfl|assumption):PG X (.Name x pos) (a4m i):=by
 intro pins s σ H v u Q I r h
 exact wpAny_assign_Name (b6z I hN hi hx r (fun s' I'=>⟨_,H,I',h⟩) hf)
def gNil:TGs:=fun vs σ H Q=>vs=[]/\Q σ H
def d0a(t:TG)(u:TGs):TGs:=fun vs σ H Q=> ∃v r,vs=v::r/\t v σ H fun σ' H'=>u r σ' H' Q
theorem a8u:PGs X [] gNil:=by
 intro pins s σ H vs us Q I r h
 obtain⟨e,h⟩:=h
 subst e
 cases r
 exact assignInOrder_nil ⟨σ,H,I,h⟩
theorem a2p{e:Expr}{es:List Expr}{t:TG}{u:TGs}(h1:PG X e t)(h2:PGs X es u)
  (hs:(assignEach (e::es) X.env).map (·.2)=assign e X.env::(assignEach es X.env).map (·.2):=by rfl):PGs X (e::es) (d0a t u):=by
 intro pins s σ H vs us Q I r h
 obtain⟨v,vr,e1,h⟩:=h
 subst e1
 cases r with
 |cons r rr=>
  rw[hs]
  refine assignInOrder_cons (thn (h1 pins s σ H _ _ _ I r h) fun _ s1 ⟨σ1,H1,I1,q1⟩=>?_)
  exact h2 pins s1 σ1 H1 _ _ Q I1 rr q1
def gTup(K:W.Frag)(n:Nat)(t:TGs):TG:=fun v σ H Q=> ∃a xs,v= .ref a/\SqT K H a xs/\xs.length=n/\t xs σ H Q
theorem b3j{es:List Expr}{k:Nat}{t:TGs}{n:Nat}(hc:X.calm=true)(h:PGs X es t)
  (hn:(assignEach es X.env).length=n:=by rfl) (hst:(assignEach es X.env).findIdx? (·.1)=none:=by rfl):PG X (.Tuple es k pos) (gTup X.K n t):=by
 intro pins s σ H v u Q I r hw
 obtain⟨a,xs,e1,hq,hl,hw⟩:=hw
 subst e1
 cases r
 obtain⟨its,rv,ht,hz⟩:=I.tuple hq
 refine assign_Tuple_tuple (I.ok.hd hc) ht (by simp[hn,<-hl,rv.length]) hst fun h' hx=>?_
 have I1:Inv X pins σ H {s with heap:=h'}:=I.kept (t':=s.toks) fun b o e=>hx b o (a1J (a0T e)) e
 exact h pins _ σ H xs _ Q I1 (by simpa using rv) hw
def gSub(to ti:TE)(t:TSet):TG:=fun v σ H Q=>to σ H fun o H1=>ti σ H1 fun i H2=>t o i v H2 fun H3=>Q σ H3
theorem b7e{o i:Expr}{to ti:TE}{t:TSet}(ho:PE X o to)(hi:PE X i ti)(hs:PSet X t)
  (ha: ∀v,assign (.Subscript o i pos) X.env v=(do
   let ov <-holding [v] (eval o X.env)
   let iv <-holding [v,ov] (eval i X.env)
   standAt pos
   holding [v,ov,iv] (setItem ov iv v)
   release [v,ov,iv] []):=by intro _;rfl):PG X (.Subscript o i pos) (gSub to ti t):=by
 intro pins s σ H v u Q I r h
 rw[ha]
 refine a0C (a2P (thn (ho pins s σ H _ I h) fun ov s1 ⟨x,H1,I1,r1,q1⟩=>?_))
 refine a0C (a2P (thn (hi pins s1 σ H1 _ I1 q1) fun iv s2 ⟨y,H2,I2,r2,q2⟩=>?_))
 refine a0C (a9A (a0C (a2P (thn (hs pins s2 σ H2 x y v ov iv u _ I2 r1 r2 r q2) fun _ s3 ⟨H3,I3,q3⟩=>?_))))
 exact wpAny_release ⟨σ,H3,I3,q3⟩
def c6b(te:TE)(g:TG):TS:=fun D σ H=>te σ H fun x H1=>g x σ H1 D.nx
theorem b7f{tg e:Expr}{te:TE}{g:TG}(he:PE X e te)(hg:PG X tg g)(hs:swapsWithSole [tg] e pos.line X.env=pure false:=by rfl)(hw:swappedStores [tg] e X.env=pure none:=by rfl)
  (h1:(assignEach [tg] X.env).map (·.2)=[assign tg X.env]:=by rfl):PS X (.Assign [tg] e pos) (c6b te g):=by
 intro pins s σ H D I h
 refine wpAny_Assign_stores (thn (he pins s σ H _ I h) fun v s1 ⟨x,H1,I1,r1,q1⟩=>?_) hs hw
 rw[h1]
 exact thn (hg pins s1 σ H1 x v _ I1 r1 q1) fun _ s2 q=>q
theorem a0u{i:Nat}{x:Str}{e:Expr}{te:TE}{pos':Pos}(hN:X.N.Nodup)(hi:X.N[i]? =some x)(hx:Loc X.env.scope x)(he:PE X e te)(hs:swapsWith e (some (.Name x pos')) pos.line X.env=pure false:=by rfl)(hf:X.fn x=true∨X.env.scope.names.lookup x=some .local:=by first|exact .inl rfl|exact .inr rfl|assumption):
  PS X (.Assign [.Name x pos'] e pos) (c6b te (a4m i)):=by
 intro pins s σ H D I h
 refine wpAny_Assign_Name (thn (he pins s σ H _ I h) fun v s1 ⟨y,H1,I1,r1,q1⟩=>?_) hs
 exact b6z I1 hN hi hx r1 (fun s2 I2=>⟨_,H1,I2,q1⟩) hf
end
section
variable{X:Cx}{pos:Pos}
def c8t(c:TT)(tb:TS):TS:=fun D σ H=> ∃W:Nat->St->Hp->Prop,(∃m,W m σ H)/\ ∀m σ H,W m σ H->
 c σ H fun b H1=>if b=true then ∃N:St->Hp->Prop,(∀σ' H',N σ' H'-> ∃m',m'<m/\W m' σ' H')/\tb {D with nx:=N,ct:=N,bk:=D.nx} σ H1 else D.nx σ H1
theorem b7g{c:Expr}{body:List Stmt}{tc:TT}{tb:TS}(hp:PassesOwn (model X.prog X.w) X.A X.env X.xe)(hc:PT X c tc)(hb:PSs X body tb):PS X (.While c body [] pos) (c8t tc tb):=by
 intro pins s σ H D I h
 obtain⟨W,⟨m0,w0⟩,turn⟩:=h
 refine wpAny_While (codeAny_whileLoop (fun n s'=> ∃σ' H',Inv X pins σ' H' s'/\W n σ' H') ?_ m0 ⟨σ,H,I,w0⟩)
 rintro n s1 ⟨σ1,H1,I1,w1⟩
 refine a4Y hp (thn (hc pins s1 σ1 H1 _ I1 (turn n σ1 H1 w1)) fun b s2 ⟨H2,I2,q2⟩=>?_)
 cases b with
 | true=>
  obtain⟨N,hN,q2⟩:=q2
  rw[if_pos rfl]
  refine a4Y hp (thn (hb pins s2 σ1 H2 _ I2 q2) fun f s3 q3=>?_)
  cases f with
  |next=>
   obtain⟨σ3,H3,I3,n3⟩:=q3;obtain⟨m',hm,w3⟩:=hN σ3 H3 n3;exact⟨m',hm,σ3,H3,I3,w3⟩
  |cont=>
   obtain⟨σ3,H3,I3,n3⟩:=q3;obtain⟨m',hm,w3⟩:=hN σ3 H3 n3;exact⟨m',hm,σ3,H3,I3,w3⟩
  |brk=>exact q3
  |ret v=>exact q3
 |false=>
  rw[if_neg a1M]
  exact a8G ⟨σ1,H2,I2,q2⟩
end
structure It where
 go:Nat->Hp->Prop
 yld:Nat->Hp->V->Hp->Prop
 stop:Nat->Hp->Prop
def FpOk(X:Cx)(pins:AO)(H:Hp)(b:Addr):Prop:=
 H b=none/\b≠X.env.locals/\b∉X.fs/\(b∈X.ex∨X.s₀.heap.objs.size<=b)/\(∀x c,X.env.cells.lookup x=some c->c≠b)/\ ∀p∈X.pn++pins,p.1≠b
theorem Inv.fpOk{X:Cx}{pins:AO}{σ:St}{H H':Hp}{s:Sh}{b:Addr}(I:Inv X pins σ H s)(hb:s.heap.objs.size<=b)(hn:H' b=none):FpOk X pins H' b:=by
 refine⟨hn,a4R (a1I I.lt hb),I.nofs hb,.inr (a0Y I.sz hb),fun x c e z=>?_,fun p hp z=>?_⟩
 ·obtain⟨v,q⟩:=I.cell x c e
  exact absurd (a1I q.lt (by rw[z];exact hb)) (a3Y _)
 ·exact absurd (a1I (a0T (I.pin p hp).1) (by rw[z];exact hb)) (a3Y _)
structure Turn(P:Pg)(w:World)(K:W.Frag)(tg:Expr)(J:It)(fp:As)(it:Addr)(tn:Nat->Heap->Prop):Prop where
 mem:it∈fp
 obj: ∀i h,tn i h-> ∀b∈fp,∃o,h.get? b=some o/\ ∀v,o.data≠ .cell v
 keep: ∀i h h',tn i h->(∀b∈fp,∀o,h.get? b=some o->h'.get? b=some o)->tn i h'
 item: ∀(X:Cx),X.prog=P->X.w=w->X.K=K->X.calm=true-> ∀(i:Nat) (pins:AO) (s:Sh) (σ:St) (H:Hp) (E:VP),Inv X pins σ H s->(∀b∈fp,FpOk X pins H b)->tn i s.heap->J.go i H->
  wpAny (model P w) X.A (pyNext (.ref it)) (fun r s1=> ∃u,r=some u/\
   wpAny (model P w) X.A (letOwnedTupleGo tg (.ref it) u) (fun _ s2=> ∃x H',Inv X pins σ H' s2/\RelV x u/\J.yld i H x H'/\tn (i+1) s2.heap/\ ∀b∈fp,H' b=none) E s1) E s
 done: ∀(X:Cx),X.prog=P->X.w=w->X.K=K->X.calm=true-> ∀(i:Nat) (pins:AO) (s:Sh) (σ:St) (H:Hp) (E:VP),Inv X pins σ H s->(∀b∈fp,FpOk X pins H b)->tn i s.heap->J.stop i H->
  wpAny (model P w) X.A (pyNext (.ref it)) (fun r s1=>r=none/\Inv X pins σ H s1) E s
 self: ∀(A:Ar) (i:Nat) (s:Sh) (Q:VP) (E:VP),tn i s.heap->Q (.ref it) s->wpAny (model P w) A (pyIter (.ref it)) Q E s
abbrev TI:=St->Hp->(It->Hp->Prop)->Prop
def PIE(X:Cx)(pins:AO)(σ:St)(tg:Expr)(R:It->Hp->Prop)(itv:Vl)(s2:Sh):Prop:=
 ∃(it:Addr) (fp:As) (tn:Nat->Heap->Prop) (J:It) (H':Hp),itv= .ref it/\Inv X pins σ H' s2/\Turn X.prog X.w X.K tg J fp it tn/\tn 0 s2.heap/\(∀b∈fp,FpOk X pins H' b)/\R J H'
def PI(X:Cx)(tg iter:Expr)(wi:TI):Prop:=
 ∀(pins:AO) (s:Sh) (σ:St) (H:Hp) (R:It->Hp->Prop),Inv X pins σ H s->wi σ H R->
  wpAny (model X.prog X.w) X.A (eval iter X.env) (fun v s1=>wpAny (model X.prog X.w) X.A (pyIter v) (PIE X pins σ tg R) X.xe s1) X.xe s
theorem c6c{M:Model}{A:Ar}{E:VP}{s:Sh}{tg:Expr}{it:Addr}{u:Vl}{o:Obj}{n:String}{vs:AV}{Q:Unit->Sh->Prop}(ho:s.heap.get? it=some o)(hc:o.cls= .type n)(hd:o.data= .fields vs)
    (hn:["enumerate","zip","dict_itemiterator","dict_reverseitemiterator","odict_iterator","itertools.zip_longest","itertools.pairwise"].contains n=false) (hQ:Q () s):wpAny M A (letOwnedTupleGo tg (.ref it) u) Q E s:=by
  unfold letOwnedTupleGo
  cases tg<;>first
    |exact a0F hQ
    |(cases u<;>first
        |exact a0F hQ
        | (refine a0C (wpAny_load ho ?_)
           rw[hc,hd];show wpAny M A (if(["enumerate","zip","dict_itemiterator","dict_reverseitemiterator","odict_iterator","itertools.zip_longest","itertools.pairwise"].contains n&&vs[0]? ==some (rawInt _))=true then _ else _) Q E s
           rw[if_neg (by intro h;rw[hn,Bool.false_and]at h;cases h)];exact a0F hQ))
def Itl(K:W.Frag)(a:Addr):It:=
 ⟨fun i H=> ∃xs x,SqL K H a xs/\xs[i]? =some x,fun i H x H'=>H'=H/\ ∀xs,SqL K H a xs->xs[i]? =some x,fun i H=> ∃xs,SqL K H a xs/\xs.length<=i⟩
def Itt(K:W.Frag)(a:Addr):It:=
 ⟨fun i H=> ∃xs x,SqT K H a xs/\xs[i]? =some x,fun i H x H'=>H'=H/\ ∀xs,SqT K H a xs->xs[i]? =some x,fun i H=> ∃xs,SqT K H a xs/\xs.length<=i⟩
def Itr(lo:Int)(n:Nat):It:=⟨fun i _=>i<n,fun i H x H'=>H'=H/\x= .int (lo+i),fun i _=>n<=i⟩
theorem c1c{P:Pg}{w:World}{K:W.Frag}{tg:Expr}(a it:Addr):Turn P w K tg (Itl K a) [it] it (fun i h=>h.IsListIter it a i) where
 mem:=by simp
 obj:=fun i h st b hb=>by
  have e:b=it:=by simpa using hb
  subst e
  obtain⟨o,e,c,d⟩:=st
  exact⟨o,e,fun v z=>by rw[d]at z;cases z⟩
 keep:=fun i h h' st k=>st.at fun o e=>k it (by simp) o e
 item:=by
  intro X hP hw hK hc i pins s σ H E I hf st hg
  subst hP hw hK
  obtain⟨xs,x,hq,hx⟩:=hg
  obtain⟨its,rv,p,hz⟩:=I.list hq
  obtain⟨u,hu,ru⟩:=rv.get hx
  obtain⟨f0,f1,f2,f3,f4,f5⟩:=hf it (by simp)
  refine wpAny_pyNext_list_item st p.isList (x:=u) (by simpa using hu) fun h' st' sb=>?_
  have I1:Inv X pins σ H {s with heap:=h'}:=I.turned (t':=s.toks) (fun b o hb e=>(sb.2 b hb).trans e) f0 f1 f3 f4 f5
  obtain⟨o,e,c,d⟩:=id st'
  exact⟨u,rfl,c6c (s:={s with heap:=h'}) e c d (by decide) ⟨x,H,I1,ru,⟨rfl,fun ys hy=>by rw[I.list_inj hy hq];exact hx⟩,st',fun b hb=>(hf b hb).1⟩⟩
 done:=by
  intro X hP hw hK hc i pins s σ H E I hf st hg
  subst hP hw hK
  obtain⟨xs,hq,hx⟩:=hg
  obtain⟨its,rv,p,hz⟩:=I.list hq
  obtain⟨f0,f1,f2,f3,f4,f5⟩:=hf it (by simp)
  have hl:=rv.length
  exact wpAny_pyNext_list_end (I.ok.hd hc) st p.isList (by simp;lia) fun h' eb=>⟨rfl,I.turned (t':=s.toks) (fun b o hb e=>eb b o hb e) f0 f1 f3 f4 f5⟩
 self:=fun _ _ _ _ _ st h=>wpAny_pyIter_listiter st h
theorem b9c{P:Pg}{w:World}{K:W.Frag}{tg:Expr}(a it:Addr):Turn P w K tg (Itt K a) [it] it (fun i h=>h.IsTupleIter it a i) where
 mem:=by simp
 obj:=fun i h st b hb=>by
  have e:b=it:=by simpa using hb
  subst e
  obtain⟨o,e,c,d⟩:=st
  exact⟨o,e,fun v z=>by rw[d]at z;cases z⟩
 keep:=fun i h h' st k=>st.at fun o e=>k it (by simp) o e
 item:=by
  intro X hP hw hK hc i pins s σ H E I hf st hg
  subst hP hw hK
  obtain⟨xs,x,hq,hx⟩:=hg
  obtain⟨its,rv,p,hz⟩:=I.tuple hq
  obtain⟨u,hu,ru⟩:=rv.get hx
  obtain⟨f0,f1,f2,f3,f4,f5⟩:=hf it (by simp)
  refine wpAny_pyNext_tuple_item st (show s.heap.IsTuple a its.toArray from p) (x:=u) (by simpa using hu) fun h' st' sb=>?_
  have I1:Inv X pins σ H {s with heap:=h'}:=I.turned (t':=s.toks) (fun b o hb e=>(sb.2 b hb).trans e) f0 f1 f3 f4 f5
  obtain⟨o,e,c,d⟩:=id st'
  exact⟨u,rfl,c6c (s:={s with heap:=h'}) e c d (by decide) ⟨x,H,I1,ru,⟨rfl,fun ys hy=>by rw[I.tuple_inj hy hq];exact hx⟩,st',fun b hb=>(hf b hb).1⟩⟩
 done:=by
  intro X hP hw hK hc i pins s σ H E I hf st hg
  subst hP hw hK
  obtain⟨xs,hq,hx⟩:=hg
  obtain⟨its,rv,p,hz⟩:=I.tuple hq
  obtain⟨f0,f1,f2,f3,f4,f5⟩:=hf it (by simp)
  have hl:=rv.length
  exact wpAny_pyNext_tuple_end (I.ok.hd hc) st (show s.heap.IsTuple a its.toArray from p) (by simp;lia) fun h' eb=>⟨rfl,I.turned (t':=s.toks) (fun b o hb e=>eb b o hb e) f0 f1 f3 f4 f5⟩
 self:=fun _ _ _ _ _ st h=>wpAny_pyIter_tupleiter st h
theorem b9d{P:Pg}{w:World}{K:W.Frag}{tg:Expr}(it:Addr)(lo:Int)(n:Nat):Turn P w K tg (Itr lo n) [it] it (fun i h=>IsRangeIter h it (lo+(i:Nat) * 1) ((n:Int)-(i:Nat)) 1) where
 mem:=by simp
 obj:=fun i h st b hb=>by
  have e:b=it:=by simpa using hb
  subst e
  exact⟨_,st,fun v z=>by
   have z':Data.fields _=Data.cell v:=z;cases z'⟩
 keep:=fun i h h' st k=>k it (by simp) _ st
 item:=by
  intro X hP hw hK hc i pins s σ H E I hf st hg
  subst hP hw hK
  obtain⟨f0,f1,f2,f3,f4,f5⟩:=hf it (by simp)
  have W:=Walks.range (prog:=X.prog) (w:=X.w) (I.ok.hd hc) it lo 1 n
  refine W.item i s _ _ hg st fun v h' tk hv st' kk=>?_
  obtain⟨t,rfl⟩:=hv
  have I1:Inv X pins σ H {s with heap:=h',toks:=tk}:=I.turned (fun b o hb e=>kk b o (by simpa using hb) e) f0 f1 f3 f4 f5
  refine⟨_,rfl,c6c (s:={s with heap:=h',toks:=tk}) (n:="range_iterator") st' rfl rfl (by decide) ⟨.int (lo+i),H,I1,⟨t,?_⟩,⟨rfl,rfl⟩,st',fun b hb=>(hf b hb).1⟩⟩
  rw[Int.mul_one]
 done:=by
  intro X hP hw hK hc i pins s σ H E I hf st hg
  subst hP hw hK
  obtain⟨f0,f1,f2,f3,f4,f5⟩:=hf it (by simp)
  exact wpAny_pyNext_range_end (I.ok.hd hc) st (by have:n<=i:=hg;lia) fun h' eb=>⟨rfl,I.turned (t':=s.toks) (fun b o hb e=>eb b o hb e) f0 f1 f3 f4 f5⟩
 self:=fun _ _ _ _ _ st h=>wpAny_pyIter_rangeiter st h
section
variable{X:Cx}{tg:Expr}
def d2o(K:W.Frag)(tl:TE):TI:=fun σ H R=>tl σ H fun x H1=> ∃a,x= .ref a/\(∃xs,SqL K H1 a xs)/\R (Itl K a) H1
def iTup(K:W.Frag)(tl:TE):TI:=fun σ H R=>tl σ H fun x H1=> ∃a,x= .ref a/\(∃xs,SqT K H1 a xs)/\R (Itt K a) H1
theorem a1i{l:Expr}{tl:TE}(hl:PE X l tl):PI X tg l (d2o X.K tl):=by
 intro pins s σ H R I h
 refine thn (hl pins s σ H _ I h) fun v s1 ⟨x,H1,I1,r1,q1⟩=>?_
 obtain⟨a,e,⟨xs,hq⟩,q⟩:=q1
 subst e
 cases r1
 obtain⟨its,rv,p,hz⟩:=I1.list hq
 refine a7D p.isList ?_
 refine⟨s1.heap.objs.size,[s1.heap.objs.size],_,_,H1,rfl,I1.kept (t':=s1.toks) fun b o e=>a0I _ e,c1c a _,⟨_,a0V _ rfl,rfl,rfl⟩,fun b hb=>?_,q⟩
 have e:b=s1.heap.objs.size:=by simpa using hb
 subst e
 exact I1.fpOk (a0J _) (I1.hok.fresh (a0J _))
theorem b7h{l:Expr}{tl:TE}(hl:PE X l tl):PI X tg l (iTup X.K tl):=by
 intro pins s σ H R I h
 refine thn (hl pins s σ H _ I h) fun v s1 ⟨x,H1,I1,r1,q1⟩=>?_
 obtain⟨a,e,⟨xs,hq⟩,q⟩:=q1
 subst e
 cases r1
 obtain⟨its,rv,p,hz⟩:=I1.tuple hq
 refine wpAny_pyIter_tuple (show s1.heap.IsTuple a its.toArray from p) ?_
 refine⟨s1.heap.objs.size,[s1.heap.objs.size],_,_,H1,rfl,I1.kept (t':=s1.toks) fun b o e=>a0I _ e,b9c a _,⟨_,a0V _ rfl,rfl,rfl⟩,fun b hb=>?_,q⟩
 have e:b=s1.heap.objs.size:=by simpa using hb
 subst e
 exact I1.fpOk (a0J _) (I1.hok.fresh (a0J _))
theorem c6d{pins:AO}{σ:St}{H:Hp}{s:Sh}{R:It->Hp->Prop}{E:VP}{lo hi:Int}{t u v:Tok}{tk:Nat}(I:Inv X pins σ H s)(h1: -(2 ^ 62)<=lo)(h2:lo<2 ^ 62)(h3: -(2 ^ 62)<=hi)(h4:hi<2 ^ 62)
  (q:R (Itr lo (hi-lo).toNat) H):wpAny (model X.prog X.w) X.A (pyIter (.ref s.heap.objs.size)) (PIE X pins σ tg R) E {s with heap:=s.heap.push {cls:= .type "range",data:= .fields #[.int lo t,.int hi u,.int 1 v]},toks:=tk}:=by
 refine wpAny_pyIter_range (IsRange.new ..) (small_one h1 h2 h3 h4) ?_
 have I1:Inv X pins σ H {s with heap:=s.heap.push {cls:= .type "range",data:= .fields #[.int lo t,.int hi u,.int 1 v]},toks:=tk}:=I.kept fun b o e=>a0I _ e
 refine⟨(s.heap.push {cls:= .type "range",data:= .fields #[.int lo t,.int hi u,.int 1 v]}).objs.size,[(s.heap.push {cls:= .type "range",data:= .fields #[.int lo t,.int hi u,.int 1 v]}).objs.size],_,_,H,rfl,
  I1.kept (t':=tk) fun b o e=>a0I _ e,b9d _ lo (hi-lo).toNat,?_,fun b hb=>?_,q⟩
 ·have e1:lo+((0:Nat):Int) * 1=lo:=by simp
  have e2:(((hi-lo).toNat:Nat):Int)-((0:Nat):Int)=Builtin.Range.rangeSize lo hi 1:=by rw[rangeSize_one];split<;>lia
  show IsRangeIter _ _ (lo+((0:Nat):Int) * 1) ((((hi-lo).toNat:Nat):Int)-((0:Nat):Int)) 1
  rw[e1,e2]
  exact a0V _ rfl
 ·have e:b=(s.heap.push {cls:= .type "range",data:= .fields #[.int lo t,.int hi u,.int 1 v]}).objs.size:=by simpa using hb
  subst e
  exact I1.fpOk (a0J _) (I1.hok.fresh (a0J _))
def d2p(ta:TA):TI:=fun σ H R=>ta σ H fun vs H1=> ∃j:Int,vs=[.int j]/\ -(2 ^ 62)<=j/\j<2 ^ 62/\R (Itr 0 j.toNat) H1
theorem a2e{a:Expr}{ta:TA}{p pos:Pos}(hg:Gl X "range")(hm:X.mg "range"=none)(ha:PA X [a] ta)(hs:starEach [a] X.env=[(false,eval a X.env)]:=by rfl):PI X tg (.Call (.Name "range" p) [a] [] pos) (d2p ta):=by
 intro pins s σ H R I h
 refine Call_ (b0i I hg hm boot_range (a5X (thn (ha pos pins s σ H _ I h) fun us s1 ⟨vs,H1,I1,r1,q1⟩=>?_) hs rfl))
 obtain⟨j,e,q1,q2,q⟩:=q1
 subst e
 cases r1 with
 |cons r rr=>
  cases rr
  obtain⟨t,rfl⟩:=r
  exact call_range_1 (c6d I1 (by lia) (by lia) q1 q2 (by simpa using q))
def tFor(wi:TI)(g:TG)(tb:TS):TS:=fun D σ H=>wi σ H fun J H1=> ∃W:Nat->Nat->St->Hp->Prop,(∃m,W 0 m σ H1)/\ ∀i m σ H,W i m σ H->
 (J.stop i H/\D.nx σ H)∨(J.go i H/\ ∃N:St->Hp->Prop,(∀σ' H',N σ' H'-> ∃m',m'<m/\W (i+1) m' σ' H')/\ ∀x H',J.yld i H x H'->g x σ H' fun σ2 H2=>tb {D with nx:=N,ct:=N,bk:=D.nx} σ2 H2)
def b3k(fp:As)(h:Heap):AO:=fp.filterMap fun b=>(h.get? b).map fun o=>(b,o)
theorem a5e{fp:As}{h:Heap}{b:Addr}{o:Obj}(hb:b∈fp)(e:h.get? b=some o):(b,o)∈b3k fp h:=List.mem_filterMap.mpr ⟨b,hb,by rw[e];rfl⟩
theorem c1d{fp:As}{h:Heap}{p:Addr×Obj}(hp:p∈b3k fp h):p.1∈fp/\h.get? p.1=some p.2:=by
 obtain⟨b,hb,e⟩:=List.mem_filterMap.mp hp
 cases q:h.get? b with
 |none=>rw[q]at e;cases e
 |some o=>
  rw[q]at e
  have e':(b,o)=p:=a1U e
  subst e'
  exact⟨hb,q⟩
theorem Inv.pinned{pins:AO}{σ:St}{H:Hp}{s:Sh}{fp:As}(I:Inv X pins σ H s)(hf: ∀b∈fp,FpOk X pins H b)(ho: ∀b∈fp,∃o,s.heap.get? b=some o/\ ∀v,o.data≠ .cell v):Inv X (pins++b3k fp s.heap) σ H s:=
 I.pins_of fun p hp=>(a0L.mp hp).elim (fun z=>I.pin p (a0Z _ z)) fun z=>by
  obtain⟨hb,e⟩:=c1d z
  obtain⟨f0,f1,f2,_⟩:=hf p.1 hb
  obtain⟨o,e',d⟩:=ho p.1 hb
  rw[e]at e';cases e'
  exact⟨e,f0,f1,f2,d⟩
theorem Inv.unpinned{pins pl:AO}{σ:St}{H:Hp}{s:Sh}(I:Inv X (pins++pl) σ H s):Inv X pins σ H s:=I.pins_of fun p hp=>I.pin p (a0Z _ (a2Z _ hp))
theorem a2w{iter:Expr}{body:List Stmt}{wi:TI}{g:TG}{tb:TS}{pos:Pos}(hp:PassesOwn (model X.prog X.w) X.A X.env X.xe)(hc:X.calm=true)(hi:PI X tg iter wi)(hg:PG X tg g)(hb:PSs X body tb)
  (hs: ∀x,foldedSetIterable iter X.env x=pure x:=by intro _;rfl):PS X (.For tg iter body [] pos) (tFor wi g tb):=by
 intro pins s σ H D I h
 refine wpAny_For (thn (hi pins s σ H _ I h) fun v s1 h1=>thn h1 fun itv s2 h2=>?_) hs
 obtain⟨it,fp,tn,J,H2,e,I2,T,st2,f2,W,⟨m0,w0⟩,turn⟩:=h2
 subst e
 have stat: ∀{H':Hp},(∀b∈fp,H' b=none)-> ∀b∈fp,FpOk X pins H' b:=fun hn b hb=>⟨hn b hb,(f2 b hb).2⟩
 refine codeAny_forLoop_any (fun n s'=> ∃i σ' H',Inv X pins σ' H' s'/\tn i s'.heap/\(∀b∈fp,H' b=none)/\W i n σ' H') ?_ m0 ⟨0,σ,H2,I2,st2,fun b hb=>(f2 b hb).1,w0⟩
 rintro n s3 ⟨i,σ3,H3,I3,st3,fr3,w3⟩
 rcases turn i n σ3 H3 w3 with⟨stop,qn⟩|⟨go,N,hN,step⟩
 ·refine a4Y hp (thn (T.done X rfl rfl rfl hc i pins s3 σ3 H3 X.xe I3 (stat fr3) st3 stop) fun r s4 ⟨hr,I4⟩=>?_)
  subst hr
  exact a8G ⟨σ3,H3,I4,qn⟩
 ·refine a4Y hp (thn (T.item X rfl rfl rfl hc i pins s3 σ3 H3 X.xe I3 (stat fr3) st3 go) fun r s4 ⟨u,hr,h4⟩=>?_)
  subst hr
  refine a4Y hp (thn h4 fun _ s5 ⟨x,H5,I5,r5,y5,st5,fr5⟩=>?_)
  have I5':=I5.pinned (stat fr5) (T.obj _ _ st5)
  refine a4Y hp (thn (hg _ s5 σ3 H5 x u _ I5' r5 (step x H5 y5)) fun _ s6 ⟨σ6,H6,I6,q6⟩=>?_)
  refine a4Y hp (thn (hb _ s6 σ6 H6 _ I6 q6) fun f s7 q7=>?_)
  have again: ∀{σ7:St} {H7:Hp},Inv X (pins++b3k fp s5.heap) σ7 H7 s7->N σ7 H7-> ∃m,m<n/\ ∃i σ' H',Inv X pins σ' H' s7/\tn i s7.heap/\(∀b∈fp,H' b=none)/\W i m σ' H':=fun {σ7 H7} I7 n7=>by
   obtain⟨m',hm,w7⟩:=hN σ7 H7 n7;refine⟨m',hm,i+1,σ7,H7,I7.unpinned,T.keep _ _ _ st5 fun b hb o e=>(I7.pin (b,o) (a0Z _ (a0Z _ (a5e hb e)))).1,fun b hb=>?_,w7⟩;obtain⟨o,e,d⟩:=T.obj _ _ st5 b hb;exact(I7.pin (b,o) (a0Z _ (a0Z _ (a5e hb e)))).2.1
  cases f with
  |next=>obtain⟨σ7,H7,I7,n7⟩:=q7;exact again I7 n7
  |cont=>obtain⟨σ7,H7,I7,n7⟩:=q7;exact again I7 n7
  |brk=>obtain⟨σ7,H7,I7,q7⟩:=q7;exact⟨σ7,H7,I7.unpinned,q7⟩
  |ret v=>obtain⟨x7,σ7,H7,I7,r7,q7⟩:=q7;exact⟨x7,σ7,H7,I7.unpinned,r7,q7⟩
end
theorem a3z{K:W.Frag}{a:Addr}{xs:List V}{g:TG}{tb:TS}{D:Ends}{σ:St}{H:Hp}(Pv:Nat->St->Hp->Prop)(h0:Pv 0 σ H)(hl: ∀i σ H,i<=xs.length->Pv i σ H->SqL K H a xs)
  (hs: ∀i x σ H,xs[i]? =some x->Pv i σ H->g x σ H fun σ2 H2=>tb {D with nx:=Pv (i+1),ct:=Pv (i+1),bk:=D.nx} σ2 H2) (hd: ∀σ H,Pv xs.length σ H->D.nx σ H):
  ∃W:Nat->Nat->St->Hp->Prop,(∃m,W 0 m σ H)/\ ∀i m σ H,W i m σ H->
   ((Itl K a).stop i H/\D.nx σ H)∨((Itl K a).go i H/\ ∃N:St->Hp->Prop,(∀σ' H',N σ' H'-> ∃m',m'<m/\W (i+1) m' σ' H')/\ ∀x H',(Itl K a).yld i H x H'->g x σ H' fun σ2 H2=>tb {D with nx:=N,ct:=N,bk:=D.nx} σ2 H2):=by
 refine⟨fun i m σ H=>m=xs.length-i/\i<=xs.length/\Pv i σ H,⟨xs.length,by simp,Nat.zero_le _,h0⟩,?_⟩
 rintro i m σ H ⟨rfl,hi,p⟩
 have q:=hl i σ H hi p
 by_cases hlt:i<xs.length
 ·refine .inr ⟨⟨xs,xs[i],q,by simp[hlt]⟩,Pv (i+1),fun σ' H' p'=>⟨xs.length-(i+1),Nat.sub_succ_lt_self _ _ hlt,rfl,hlt,p'⟩,fun x H' y=>?_⟩
  obtain⟨e,y⟩:=y
  subst e
  exact hs i x σ _ (y xs q) p
 ·have e:i=xs.length:=by lia
  subst e
  exact .inl ⟨⟨xs,q,a0J _⟩,hd σ H p⟩
theorem a6a{lo:Int}{n:Nat}{g:TG}{tb:TS}{D:Ends}{σ:St}{H:Hp}(Pv:Nat->St->Hp->Prop)(h0:Pv 0 σ H)
  (hs: ∀i σ H,i<n->Pv i σ H->g (.int (lo+i)) σ H fun σ2 H2=>tb {D with nx:=Pv (i+1),ct:=Pv (i+1),bk:=D.nx} σ2 H2) (hd: ∀σ H,Pv n σ H->D.nx σ H):
  ∃W:Nat->Nat->St->Hp->Prop,(∃m,W 0 m σ H)/\ ∀i m σ H,W i m σ H->
   ((Itr lo n).stop i H/\D.nx σ H)∨((Itr lo n).go i H/\ ∃N:St->Hp->Prop,(∀σ' H',N σ' H'-> ∃m',m'<m/\W (i+1) m' σ' H')/\ ∀x H',(Itr lo n).yld i H x H'->g x σ H' fun σ2 H2=>tb {D with nx:=N,ct:=N,bk:=D.nx} σ2 H2):=by
 refine⟨fun i m σ H=>m=n-i/\i<=n/\Pv i σ H,⟨n,by simp,Nat.zero_le _,h0⟩,?_⟩
 rintro i m σ H ⟨rfl,hi,p⟩
 by_cases hlt:i<n
 ·refine .inr ⟨hlt,Pv (i+1),fun σ' H' p'=>⟨n-(i+1),Nat.sub_succ_lt_self _ _ hlt,rfl,hlt,p'⟩,fun x H' y=>?_⟩
  obtain⟨e,y⟩:=y
  subst e y
  exact hs i σ _ hlt p
 ·have e:i=n:=by lia
  subst e
  exact .inl ⟨a0J _,hd σ H p⟩
abbrev R2:=V->V->Hp->VK->Prop
def OpR(X:Cx)(f:Vl->Vl->Sem Vl)(r:R2):Prop:=
 ∀(pins:AO) (s:Sh) (σ:St) (H:Hp) (x y:V) (v u:Vl) (Q:VK),Inv X pins σ H s->RelV x v->RelV y u->r x y H Q->
  wpAny (model X.prog X.w) X.A (f v u) (EP X pins σ Q) X.xe s
def UnR(X:Cx)(f:Vl->Sem Vl)(r:V->Hp->VK->Prop):Prop:=
 ∀(pins:AO) (s:Sh) (σ:St) (H:Hp) (x:V) (v:Vl) (Q:VK),Inv X pins σ H s->RelV x v->r x H Q->
  wpAny (model X.prog X.w) X.A (f v) (EP X pins σ Q) X.xe s
def a5o(X:Cx)(f:Vl)(r:List V->Hp->VK->Prop):Prop:=
 ∀(pins:AO) (s:Sh) (σ:St) (H:Hp) (xs:List V) (us:Vs) (Q:VK),Inv X pins σ H s->Vals xs us->r xs H Q->
  wpAny (model X.prog X.w) X.A (call f us) (EP X pins σ Q) X.xe s
def TruR(X:Cx)(r:V->Hp->(Bool->Hp->Prop)->Prop):Prop:=
 ∀(pins:AO) (s:Sh) (σ:St) (H:Hp) (x:V) (v:Vl) (Q:Bool->Hp->Prop),Inv X pins σ H s->RelV x v->r x H Q->
  wpAny (model X.prog X.w) X.A (truthy v) (TP X pins σ Q) X.xe s
def tOp(r:R2)(ta tb:TE):TE:=fun σ H Q=>ta σ H fun x H1=>tb σ H1 fun y H2=>r x y H2 Q
def tUn(r:V->Hp->VK->Prop)(ta:TE):TE:=fun σ H Q=>ta σ H fun x H1=>r x H1 Q
def rI(C:Int->Int->Prop)(g:Int->Int->V):R2:=fun x y H Q=> ∃i j,x= .int i/\y= .int j/\C i j/\Q (g i j) H
def rI0(g:Int->Int->V):R2:=fun x y H Q=> ∃i j,x= .int i/\y= .int j/\Q (g i j) H
def rU(g:Int->V):V->Hp->VK->Prop:=fun x H Q=> ∃i,x= .int i/\Q (g i) H
section
variable{X:Cx}{a b c:Expr}{ta tb tc:TE}{pos:Pos}
theorem binT(ha:PE X a ta)(hb:PE X b tb){pins:AO}{s:Sh}{σ:St}{H:Hp}{R:V->V->Hp->Prop}(I:Inv X pins σ H s)
  (h:ta σ H fun x H1=>tb σ H1 fun y H2=>R x y H2) {Q:VP} {f:Vl->Vl->Sem Vl}
  (hf: ∀v u s2 x y H2,Inv X pins σ H2 s2->RelV x v->RelV y u->R x y H2->wpAny (model X.prog X.w) X.A (f v u) Q X.xe s2):
  wpAny (model X.prog X.w) X.A (eval a X.env) (fun v s₁=>wpAny (model X.prog X.w) X.A (eval b X.env) (fun u s₂=>wpAny (model X.prog X.w) X.A (f v u) Q X.xe s₂) X.xe s₁) X.xe s:=by
 refine thn (ha pins s σ H _ I h) fun v s1 ⟨x,H1,I1,r1,q1⟩=>?_
 refine thn (hb pins s1 σ H1 _ I1 q1) fun u s2 ⟨y,H2,I2,r2,q2⟩=>?_
 exact hf v u s2 x y H2 I2 r1 r2 q2
theorem a4n{op:Operator}{r:R2}(ho:OpR X (binaryOp op) r)(ha:PE X a ta)(hb:PE X b tb):PE X (.BinOp a op b pos) (tOp r ta tb):=by
 intro pins s σ H Q I h
 exact wpAny_BinOp (binT ha hb I h fun v u s2 x y H2 I2 rx ry q=>ho pins s2 σ H2 x y v u Q I2 rx ry q)
theorem pe_un{op:UnaryOp}{r:V->Hp->VK->Prop}(ho:UnR X (unaryOp op) r)(ha:PE X a ta):PE X (.UnaryOp op a pos) (tUn r ta):=by
 intro pins s σ H Q I h
 exact UnaryOp_ (thn (ha pins s σ H _ I h) fun v s1 ⟨x,H1,I1,r1,q1⟩=>ho pins s1 σ H1 x v Q I1 r1 q1)
theorem opI{f:Vl->Vl->Sem Vl}{C:Int->Int->Prop}{g:Int->Int->Int}
  (rule: ∀(i j:Int) (t u:Tok) (s:Sh) (Q:VP) (E:VP),C i j->Q (.int (g i j) s.toks) {s with toks:=s.toks+1}->wpAny (model X.prog X.w) X.A (f (.int i t) (.int j u)) Q E s):
  OpR X f (rI C fun i j=> .int (g i j)):=by
 intro pins s σ H x y v u Q I rx ry h
 obtain⟨i,j,rfl,rfl,hc,q⟩:=h
 obtain⟨t,rfl⟩:=rx
 obtain⟨t',rfl⟩:=ry
 exact rule i j t t' s _ _ hc ⟨.int (g i j),H,I.tok _,⟨_,rfl⟩,q⟩
theorem opI0{f:Vl->Vl->Sem Vl}{g:Int->Int->Int}
  (rule: ∀(i j:Int) (t u:Tok) (s:Sh) (Q:VP) (E:VP),Q (.int (g i j) s.toks) {s with toks:=s.toks+1}->wpAny (model X.prog X.w) X.A (f (.int i t) (.int j u)) Q E s):
  OpR X f (rI0 fun i j=> .int (g i j)):=by
 intro pins s σ H x y v u Q I rx ry h
 obtain⟨i,j,rfl,rfl,q⟩:=h
 obtain⟨t,rfl⟩:=rx
 obtain⟨t',rfl⟩:=ry
 exact rule i j t t' s _ _ ⟨.int (g i j),H,I.tok _,⟨_,rfl⟩,q⟩
theorem opB0{f:Vl->Vl->Sem Vl}{g:Int->Int->Bool}
  (rule: ∀(i j:Int) (t u:Tok) (s:Sh) (Q:VP) (E:VP),Q (.bool (g i j)) s->wpAny (model X.prog X.w) X.A (f (.int i t) (.int j u)) Q E s):
  OpR X f (rI0 fun i j=> .bl (g i j)):=by
 intro pins s σ H x y v u Q I rx ry h
 obtain⟨i,j,rfl,rfl,q⟩:=h
 obtain⟨t,rfl⟩:=rx
 obtain⟨t',rfl⟩:=ry
 exact rule i j t t' s _ _ ⟨.bl (g i j),H,I,rfl,q⟩
def CDiv(i j:Int):Prop:=0<j/\j<1073741824
theorem c1e:OpR X (binaryOp .Add) (rI0 fun i j=> .int (i+j)):=opI0 fun _ _ _ _ _ _ _ q=>add_int q
theorem b5h:OpR X (binaryOp .FloorDiv) (rI CDiv fun i j=> .int (i/j)):=opI fun i j _ _ _ _ _ hc q=>by
 have h1:(0:Int)<j:=hc.1
 have h2:j<1073741824:=hc.2
 exact floordiv_int (by lia) (by rw[Int.fdiv_eq_ediv_of_nonneg i (by lia)];exact q) (.inl (PyProof.noPylong_small (by lia)))
theorem a6b:OpR X (binaryOp .Mod) (rI (fun _ j=>0<j) fun i j=> .int (i%j)):=opI fun i j _ _ _ _ _ hc q=>by
 have h1:(0:Int)<j:=hc
 exact mod_int' (by lia) (by rw[Int.fmod_eq_emod_of_nonneg i (by lia)];exact q)
theorem unI{f:Vl->Sem Vl}{g:Int->Int}
  (rule: ∀(i:Int) (t:Tok) (s:Sh) (Q:VP) (E:VP),Q (.int (g i) s.toks) {s with toks:=s.toks+1}->wpAny (model X.prog X.w) X.A (f (.int i t)) Q E s):
  UnR X f (rU fun i=> .int (g i)):=by
 intro pins s σ H x v Q I rx h
 obtain⟨i,rfl,q⟩:=h
 obtain⟨t,rfl⟩:=rx
 exact rule i t s _ _ ⟨.int (g i),H,I.tok _,⟨_,rfl⟩,q⟩
theorem d2q:UnR X (unaryOp .USub) (rU fun i=> .int (-i)):=unI fun _ _ _ _ _ q=>neg_int q
end
def scal:V->V->Bool
 | .non,.non=>true| .non,.int _=>true| .int _,.non=>true| .non,.bl _=>true| .bl _,.non=>true| .non,.str _=>true| .str _,.non=>true
 | .int _,.int _=>true| .bl _,.bl _=>true| .str _,.str _=>true| .byt _,.byt _=>true
 | .int _,.str _=>true| .str _,.int _=>true| .bl _,.str _=>true| .str _,.bl _=>true
 |_,_=>false
def rEq:R2:=fun x y H Q=>scal x y=true/\Q (.bl (decide (x=y))) H
theorem d0b{i j:Int}:decide (V.int i=V.int j)=(i==j):=by
 rw[a3P]
 simp
theorem d2r{i j:Bool}:decide (V.bl i=V.bl j)=(i==j):=by
 rw[a3P]
 simp
theorem d0c{i j:Str}:decide (V.str i=V.str j)=(i==j):=by
 rw[a3P]
 simp
theorem d0d{i j:Array UInt8}:decide (V.byt i=V.byt j)=(i.toList==j.toList):=by
 rw[a3P]
 cases i
 cases j
 simp
section
variable{X:Cx}{a b c:Expr}{ta tb tc:TE}{pos:Pos}
theorem a2x{pins:AO}{σ:St}{H:Hp}{s:Sh}{Q:VK}{k k':Bool}(I:Inv X pins σ H s)(q:Q (.bl k) H)(e:k=k'):EP X pins σ Q (.bool k') s:=by
 subst e
 exact⟨.bl k,H,I,rfl,q⟩
theorem d2s:OpR X (compareOp .Eq) rEq:=by
 intro pins s σ H x y v u Q I rx ry h
 obtain⟨hs,q⟩:=h
 cases x with
 |non=>
  cases rx
  cases y with
  |non=>cases ry;exact PySem.EqNone.eq_none_none (a2x I q (by simp))
  |bl j=>cases ry;exact PySem.EqNone.eq_none_bool (a2x I q (by simp))
  |int j=>obtain⟨t',rfl⟩:=ry;exact PySem.EqNone.eq_none_int (a2x I q (by simp))
  |str j=>obtain⟨t',rfl⟩:=ry;exact PySem.EqNone.eq_none_str (a2x I q (by simp))
  |_=>exact absurd (show false=true from hs) a1M
 |bl i=>
  cases rx
  cases y with
  |non=>cases ry;exact PySem.EqNone.eq_bool_none (a2x I q (by simp))
  |bl j=>cases ry;exact eq_bool (a2x I q d2r)
  |str j=>obtain⟨t',rfl⟩:=ry;exact PySem.EqMixed.eq_bool_str (a2x I q (by simp))
  |_=>exact absurd (show false=true from hs) a1M
 |int i=>
  obtain⟨t,rfl⟩:=rx
  cases y with
  |non=>cases ry;exact PySem.EqNone.eq_int_none (a2x I q (by simp))
  |int j=>obtain⟨t',rfl⟩:=ry;exact eq_int (a2x I q d0b)
  |str j=>obtain⟨t',rfl⟩:=ry;exact PySem.EqMixed.eq_int_str (a2x I q (by simp))
  |_=>exact absurd (show false=true from hs) a1M
 |str i=>
  obtain⟨t,rfl⟩:=rx
  cases y with
  |non=>cases ry;exact PySem.EqNone.eq_str_none (a2x I q (by simp))
  |bl j=>cases ry;exact PySem.EqMixed.eq_str_bool (a2x I q (by simp))
  |int j=>obtain⟨t',rfl⟩:=ry;exact PySem.EqMixed.eq_str_int (a2x I q (by simp))
  |str j=>obtain⟨t',rfl⟩:=ry;exact eq_str (a2x I q d0c)
  |_=>exact absurd (show false=true from hs) a1M
 |byt i=>
  obtain⟨t,rfl⟩:=rx
  cases y with
  |byt j=>obtain⟨t',rfl⟩:=ry;exact PySem.W.eq_bytes (a2x I q d0d)
  |_=>exact absurd (show false=true from hs) a1M
 |_=>cases y<;>exact absurd (show false=true from hs) a1M
theorem c6e:OpR X (compareOp .Lt) (rI0 fun i j=> .bl (decide (i<j))):=opB0 fun _ _ _ _ _ _ _ q=>lt_int q
theorem c6f:OpR X (compareOp .Gt) (rI0 fun i j=> .bl (decide (j<i))):=opB0 fun _ _ _ _ _ _ _ q=>gt_int q
theorem c1f:OpR X (compareOp .IsNot) (fun x y H Q=>y= .non/\Q (.bl (!decide (x= .non))) H):=by
 intro pins s σ H x y v u Q I rx ry h
 obtain⟨rfl,q⟩:=h
 cases ry
 refine isnot_none_gen (a2x I q ?_)
 cases x<;>first
  |(cases rx;rfl)
  |(obtain⟨t,rfl⟩:=rx;rfl)
theorem a1u(b:Expr){op:CmpOp}(h:op≠ .In:=by decide)(h2:op≠ .NotIn:=by decide):behindInMarks op b=false:=by
 have e1:(op==CmpOp.In)=false:=by cases op<;>first|rfl|exact absurd rfl h
 have e2:(op==CmpOp.NotIn)=false:=by cases op<;>first|rfl|exact absurd rfl h2
 cases b<;>simp[behindInMarks,e1,e2]
theorem a5p{op:CmpOp}{r:R2}(ho:OpR X (compareOp op) r)(ha:PE X a ta)(hb:PE X b tb)(hm:behindInMarks op b=false):PE X (.Compare a [op] [b] pos) (tOp r ta tb):=by
 intro pins s σ H Q I h
 exact wpAny_Compare1 (binT ha hb I h fun v u s2 x y H2 I2 rx ry q=>ho pins s2 σ H2 x y v u Q I2 rx ry q) hm
def tTest(t:TE):TT:=fun σ H Q=>t σ H fun x H'=> ∃k,x= .bl k/\Q k H'
theorem a1r{op:CmpOp}{r:R2}(ho:OpR X (compareOp op) r)(ha:PE X a ta)(hb:PE X b tb)(hm:behindInMarks op b=false):PT X (.Compare a [op] [b] pos) (tTest (tOp r ta tb)):=by
 intro pins s σ H Q I h
 refine wpAny_isTrue_Compare1 (thn (ha pins s σ H _ I h) fun v s1 ⟨x,H1,I1,r1,q1⟩=>thn (hb pins s1 σ H1 _ I1 q1) fun u s2 ⟨y,H2,I2,r2,q2⟩=>
  thn (ho pins s2 σ H2 x y v u _ I2 r1 r2 q2) fun c s3 ⟨z,H3,I3,r3,k,e,q3⟩=>?_) hm
 subst e
 cases r3
 exact a3U ⟨H3,I3,q3⟩
def TruV(K:W.Frag)(x:V)(H:Hp)(k:Bool):Prop:=
 match x with
 | .non=>k=false
 | .bl b=>k=b
 | .int i=>k=(i != 0)
 | .str y=>y.length<=sizeLine/\k=((y.length:Int) != 0)
 | .byt y=>y.size<=sizeLine/\k=((y.size:Int) != 0)
 | .ref p=>(∃xs,SqL K H p xs/\k= !xs.isEmpty)∨(∃xs,SqT K H p xs/\k= !xs.isEmpty)∨ ∃kvs,H p=some (.dK kvs)/\k= !kvs.isEmpty
 |_=>False
theorem b9e{κ:Type}{kvs:List (κ×V)}{vs:List (κ×Vl)}(r:KV kvs vs):(!vs.isEmpty)= !kvs.isEmpty:=by
 cases r<;>rfl
theorem b0j{xs:List V}{its:Vs}(r:Vals xs its):(!its.toArray.isEmpty)= !xs.isEmpty:=by
 cases r<;>simp
theorem b3l:(sizeLine:Nat)<2 ^ 63:=by rw[a1B];decide
theorem d2t:TruR X (fun x H Q=> ∃k,TruV X.K x H k/\Q k H):=by
 intro pins s σ H x v Q I rx h
 obtain⟨k,e,q⟩:=h
 have hl:=b3l
 have hs:sizeLine=16777216:=a1B
 cases x with
 |non=>
  cases rx
  have e':k=false:=e
  subst e'
  exact truthy_none ⟨H,I,q⟩
 |bl b=>
  cases rx
  have e':k=b:=e
  subst e'
  exact a3U ⟨H,I,q⟩
 |int i=>
  obtain⟨t,rfl⟩:=rx
  have e':k=(i != 0):=e
  subst e'
  exact PySem.P.truthy_int ⟨H,I,q⟩
 |str y=>
  obtain⟨t,rfl⟩:=rx
  obtain⟨hy,e'⟩:y.length<=sizeLine/\k=((y.length:Int) != 0):=e
  subst e'
  exact PySem.P.truthy_str (by lia) ⟨H,I.tok _,q⟩
 |byt y=>
  obtain⟨t,rfl⟩:=rx
  obtain⟨hy,e'⟩:y.size<=sizeLine/\k=((y.size:Int) != 0):=e
  subst e'
  exact PySem.W.truthy_bytes (by lia) ⟨H,I.tok _,q⟩
 | ref p=>
  cases rx
  have e':(∃xs,SqL X.K H p xs/\k= !xs.isEmpty)∨(∃xs,SqT X.K H p xs/\k= !xs.isEmpty)∨ ∃kvs,H p=some (.dK kvs)/\k= !kvs.isEmpty:=e
  rcases e' with⟨xs,hx,e'⟩|⟨xs,hx,e'⟩|⟨kvs,hx,e'⟩
  ·subst e'
   obtain⟨its,r,pl,hz⟩:=I.list hx;have hlen:=r.length;exact wpAny_truthy_list pl.isList (by simp only[List.size_toArray];lia) ⟨H,I.tok _,by rw[b0j r];exact q⟩
  ·subst e'
   obtain⟨its,r,pl,hz⟩:=I.tuple hx;have hlen:=r.length;exact truthy_tuple pl (by simp only[List.size_toArray];lia) ⟨H,I.tok _,by rw[b0j r];exact q⟩
  ·subst e'
   obtain⟨hz,hS,vs,r,m⟩:kvs.length<=sizeLine/\(p==sysModules)=false/\ ∃vs,KV kvs vs/\s.heap.DictOf (a2d X.prog X.w) p vs:=I.hok p _ hx;have hlen:kvs.length=vs.length:=a4Q r;exact wpAny_truthy_dict hS m (by lia) ⟨H,I.tok _,by rw[b9e r];exact q⟩
 |_=>exact(show False from e).elim
theorem b7i(ha:PE X a ta)(he: ∀whole,isTrue a X.env whole=(do let v <-whole;standAt a.pos;holding [v] (truthy v))):
  PT X a (fun σ H Q=>ta σ H fun x H'=> ∃k,TruV X.K x H' k/\Q k H'):=by
 intro pins s σ H Q I h
 exact isTrue_plain (thn (ha pins s σ H _ I h) fun v s1 ⟨x,H1,I1,r1,q1⟩=>d2t pins s1 σ H1 x v Q I1 r1 q1) (he _)
theorem a5q{x:V}{us:Vs}(r:Vals [x] us): ∃u,us=[u]/\RelV x u:=by
 cases r with
 |cons r1 r2=>cases r2;exact⟨_,rfl,r1⟩
theorem vals2{x y:V}{us:Vs}(r:Vals [x,y] us): ∃u w',us=[u,w']/\RelV x u/\RelV y w':=by
 cases r with
 |cons r1 r2=>
  cases r2 with
  |cons r3 r4=>cases r4;exact⟨_,_,rfl,r1,r3⟩
end
structure ObjM(h:Heap)(x dx C:Addr)(mA:SV):Prop where
 obj:h.get? x=some (PySem.W.instObj C dx)
 ns:h.Ns1 dx mA
 ne:dx≠x
theorem c1g{h:Heap}{dx:Addr}{mA:SV}(n:h.Ns1 dx mA): ∃od,h.get? dx=some od/\ ∀name,PySem.W.lookIn name od=some (mA name):=by
 obtain⟨o,es,ep,ho,hd,hk,_,hm⟩:=n
 refine⟨o,ho,fun name=>?_⟩
 have e:=hm name
 unfold nsFind findBy at e
 rw[<-Array.find?_toList]at e
 unfold PySem.W.lookIn
 rw[hd]
 dsimp only
 split
 ·rename_i y q
  rw[q]at e
  exact a1Z some e
 ·rename_i q
  rw[q]at e
  have a:es.toList.any (·.refKey)=false:=by
   rw[List.any_eq_false];intro y hy;obtain⟨z,t,hkey⟩:=hk y (a8B.mp hy);simp[DictEntry.refKey,hkey]
  have a': ¬es.toList.any (·.refKey)=true:=by rw[a];exact a1M
  rw[if_neg a']
  exact a1Z some e
theorem ObjM.look{h:Heap}{x dx C:Addr}{mA:SV}(I:ObjM h x dx C mA): ∃od,PySem.W.InstAt h x (PySem.W.instObj C dx) C (some od)/\ ∀name,PySem.W.lookIn name od=some (mA name):=
 let⟨od,ho,hl⟩:=c1g I.ns
 ⟨od,⟨I.obj,rfl,rfl,ho⟩,hl⟩
section
variable{prog:Pg}{w:World}{A:Ar}{E:VP}{s:Sh}{K:W.Frag}{x dx C f:Addr}{mA:SV}{name:Str}{v:Vl}
theorem d0e{expr:Bool}{Q:VP}(X:K.In s.heap)(I:ObjM s.heap x dx C mA)(hg:PySem.W.plainGet K C name=true)(hh:PySem.W.hasDictIn K C=true)
  (ha:PySem.W.findIn K (.ref C) name=some none) (hv:mA name=some v) (hv':PySem.W.handedIn v=true) (h:Q v {s with toks:=s.toks+1}):
  wpAny (model prog w) A (getAttr (.ref x) name expr) Q E s:=by
 obtain⟨od,J,hl⟩:=I.look
 exact PySem.W.get_value X J (a8H hg).1 (PySem.W.findObj_own hh ha rfl (by rw[hl,hv])) hv' h
theorem c6g{pl:Sem Bool}{Q:Vl×Vs->Sh->Prop}(X:K.In s.heap)(I:ObjM s.heap x dx C mA)(hg:PySem.W.plainGet K C name=true)
  (hf:PySem.W.findIn K (.ref C) name=some (some (.ref f))) (ht:PySem.W.isFn K (.ref f)=true) (hv:mA name=none) (h:Q (.ref f,[.ref x]) s):
  wpAny (model prog w) A (getMethod (.ref x) name pl) Q E s:=by
 obtain⟨od,J,hl⟩:=I.look
 exact PySem.W.method_fn X J (a8H hg).1 (a8H hg).2 hf (a7E.mp ht) (by show(PySem.W.lookIn name od).map (·.isSome)=some false;rw[hl,hv];rfl) h
theorem d0f{ns:Ss}{Q:Unit->Sh->Prop}(X:K.In s.heap)(I:ObjM s.heap x dx C mA)
  (hs:PySem.W.findIn K (.ref C) "__setattr__"=some (some (.builtin "object.__setattr__"))) (hp:PySem.W.plainOver K C=true) (ht:PySem.W.takerIn K C name=some none) (hh:PySem.W.hasDictIn K C=true)
  (hw:PySem.Within mA ns) (hsz:ns.length<=sizeLine)
  (h: ∀h',ObjM h' x dx C (fun y=>if y=name then some v else mA y)->Heap.SameBut dx s.heap h'->Q () {s with heap:=h',toks:=s.toks+2}):
  wpAny (model prog w) A (setAttr (.ref x) name v) Q E s:=by
 obtain⟨od,J,hl⟩:=I.look
 refine PySem.W.set_plain X J hs (PySem.W.osa_open (s:={s with toks:=s.toks+1}) (r:=none) X J hp ht fun b=>?_)
 obtain⟨cd,hc,hd'⟩:=PySem.W.any_some hh
 have hx:s.heap.get? x=some ⟨.ref C,some dx,.plain,#[]⟩:=I.obj
 refine a0C (a0F (a0C (a0C (wpAny_loadPart hx (a0C (PySem.W.Looks.here (s:={s with toks:=s.toks+1}) (PySem.W.looks_clsIn X hc) ?_))))))
 rw[hd']
 refine a0F (a:=some dx) (a0C (a0F (a0C ?_)))
 refine wpAny_nsSet1 (s:={s with toks:=s.toks+1}) I.ns fun h' hn2 hs2=>?_
 obtain⟨oD,esD,epD,hoD,hdD,hcD⟩:=hn2.count (PySem.Within.cons name v hw)
 refine a0C (wpAny_lookBehind hoD (by rw[hdD];exact pastItsLine_dict (a0Y hcD (by rw[a2W];lia))) ?_)
 exact a0F (h _ ⟨(hs2.2 _ (a3K I.ne)).trans I.obj,hn2,I.ne⟩ hs2)
theorem c6h{R:Result->Sh->Prop}{vs:Vs}{kw:List (Str×Vl)}(X:K.In s.heap)(hm:PySem.W.makesIn K C=true)
    (hi:PySem.W.findIn K (.ref C) "__init__"=some (some (.ref f))) (hf:PySem.W.typeIn K (.ref f)=some (.type "function"))
    (h:codeAny (model prog w) (A.under (.builtin "type.__call__" ⟨.ref C::vs,kw⟩)) (.call (.ref f) ⟨.ref (s.heap.objs.size+1)::vs,kw⟩) (PySem.W.InitBack (s.heap.objs.size+1) R)
      {s with heap:=(s.heap.push PySem.W.emptyDict).push (PySem.W.instObj C s.heap.objs.size)}):
    codeAny (model prog w) A (.call (.ref C) ⟨vs,kw⟩) R s:=by
  obtain⟨hh,g,d,t,os⟩:=s
  exact PySem.W.make_core (PySem.W.makes_of X hm) (PySem.W.looks_findIn X hi) (fun self=>PySem.W.bind_fn X self hf) (.inl rfl) h
end
def a2q(f:Str)(v:V):List (Str×V)->List (Str×V)
 | []=>[(f,v)]
 |(g,x)::r=>if g=f then(g,v)::r else(g,x)::a2q f v r
theorem a8v(f g:Str)(v:V): ∀fs:List (Str×V),(a2q f v fs).lookup g=if g=f then some v else fs.lookup g
 | []=>by
  show List.lookup g [(f,v)]=_
  by_cases h:g=f
  ·have hb:(g==f)=true:=a7E.mpr h
   simp only[List.lookup,hb,if_pos h]
  ·have hb:(g==f)=false:=a3C.mpr h
   simp only[List.lookup,hb,if_neg h]
 | (k,x)::r=>by
  have ih:=a8v f g v r
  rw[show a2q f v ((k,x)::r)=(if k=f then(k,v)::r else(k,x)::a2q f v r)from rfl]
  by_cases hk:k=f
  ·rw[if_pos hk]
   by_cases h:g=k
   ·have hb:(g==k)=true:=a7E.mpr h
    simp only[List.lookup,hb,if_pos (h.trans hk)]
   ·have hb:(g==k)=false:=a3C.mpr h
    simp only[List.lookup,hb,if_neg (fun e:g=f=>h (e.trans hk.symm))]
  ·rw[if_neg hk]
   by_cases h:g=k
   ·have hb:(g==k)=true:=a7E.mpr h
    simp only[List.lookup,hb,if_neg (fun e:g=f=>hk (h.symm.trans e))]
   ·have hb:(g==k)=false:=a3C.mpr h
    simp only[List.lookup,hb];exact ih
theorem a8w(f:Str)(v:V): ∀fs:List (Str×V),f∈(a2q f v fs).map (·.1)/\ ∀g,g∈fs.map (·.1)->g∈(a2q f v fs).map (·.1)
 | []=>⟨by simp[a2q],fun g h=>by simp at h⟩
 | (k,x)::r=>by
  obtain⟨i1,i2⟩:=a8w f v r
  rw[show a2q f v ((k,x)::r)=(if k=f then(k,v)::r else(k,x)::a2q f v r)from rfl]
  by_cases hk:k=f
  ·rw[if_pos hk]
   subst hk;exact⟨by simp,fun g h=>by simpa using h⟩
  ·rw[if_neg hk]
   refine⟨?_,fun g h=>?_⟩
   ·rw[a2I]
    exact a0X _ i1
   ·rw[a2I]at h⊢
    rcases a1C.mp h with e|e
    ·exact a1C.mpr (.inl e)
    ·exact a0X _ (i2 g e)
theorem a8x(f:Str)(v:V): ∀fs:List (Str×V),(a2q f v fs).length<=fs.length+1
 | []=>by simp[a2q]
 |(k,x)::r=>by
  have ih:=a8x f v r
  rw[show a2q f v ((k,x)::r)=(if k=f then(k,v)::r else(k,x)::a2q f v r)from rfl]
  by_cases hk:k=f
  ·rw[if_pos hk,a2W,a2W];lia
  ·rw[if_neg hk,a2W,a2W];lia
theorem RelO.some_of{v:V}{o:Option Vl}(r:RelO (some v) o): ∃u,o=some u/\RelV v u:=by
 cases o with
 |none=>exact(show False from r).elim
 |some u=>exact⟨u,rfl,r⟩
theorem RelO.none_of{o:Option Vl}(r:RelO none o):o=none:=by
 cases o with
 |none=>rfl
 |some u=>exact(show False from r).elim
theorem c1h{v:V}{u:Vl}(r:RelV v u):PySem.W.handedIn u=true:=by
 cases v with
 |non=>cases(show u=Value.none from r);rfl
 |bl b=>cases(show u=Value.bool b from r);rfl
 |int i=>obtain⟨t,e⟩:=(show ∃t,u=Value.int i t from r);cases e;rfl
 |str x=>obtain⟨t,e⟩:=(show ∃t,u=Value.str x t from r);cases e;rfl
 |byt b=>obtain⟨t,e⟩:=(show ∃t,u=Value.bytes b t from r);cases e;rfl
 |flt b=>obtain⟨t,e⟩:=(show ∃t,u=Value.float b t from r);cases e;rfl
 |ref a=>cases(show u=Value.ref a from r);rfl
 |ty n=>cases(show u=Value.type n from r);rfl
section
variable{P:Pg}{w:World}{H H':Hp}{h h':Heap}{a C dx:Addr}{fs fs':List (Str×V)}
theorem b1j(hok:HOk P w H h)(e:H a=some (.ins C dx fs)): ∃mA,ObjM h a dx C mA/\(∀f,RelO (fs.lookup f) (mA f))/\PySem.Within mA (fs.map (·.1))/\fs.length<=1000/\H dx=some (.own a):=by
 obtain⟨d,z,ne,ob,mA,n,r,q⟩:=(show ObjOk P w H h a (.ins C dx fs)from hok a _ e)
 exact⟨mA,⟨ob,n,ne⟩,r,q,z,d⟩
end
structure Cls(K:W.Frag)(C:Addr):Prop where
 pg:PySem.W.plainGet K C Str.empty=true
 hd:PySem.W.hasDictIn K C=true
 po:PySem.W.plainOver K C=true
 sa:PySem.W.findIn K (.ref C) "__setattr__"=some (some (.builtin "object.__setattr__"))
theorem Cls.get{K:W.Frag}{C:Addr}(c:Cls K C)(f:Str):PySem.W.plainGet K C f=true:=c.pg
def NoAttr(K:W.Frag)(C:Addr)(f:Str):Prop:=PySem.W.findIn K (.ref C) f=some none
theorem NoAttr.taker{K:W.Frag}{C:Addr}{f:Str}(n:NoAttr K C f):PySem.W.takerIn K C f=some none:=by
 unfold PySem.W.takerIn
 rw[show PySem.W.findIn K (.ref C) f=some none from n]
 rfl
structure Meth(K:W.Frag)(C:Addr)(m:Str)(f:Addr):Prop where
 at_:PySem.W.findIn K (.ref C) m=some (some (.ref f))
 fn:PySem.W.isFn K (.ref f)=true
 kp:PySem.W.keepIn K (.ref f)=true
section
variable{X:Cx}{pins:AO}{σ:St}{H:Hp}{s:Sh}{a C dx:Addr}{fs:List (Str×V)}{f:Str}{v:V}{A:Ar}{E:VP}
theorem b9f{b:Bool}{Q:VP}(I:Inv X pins σ H s)(e:H a=some (.ins C dx fs))(c:Cls X.K C)(n:NoAttr X.K C f)(l:fs.lookup f=some v)
  (h: ∀u s',Inv X pins σ H s'->RelV v u->Q u s'):wpAny (model X.prog X.w) A (getAttr (.ref a) f b) Q E s:=by
 obtain⟨mA,O,r,_,_,_⟩:=b1j I.hok e
 obtain⟨u,hu,ru⟩:=RelO.some_of (v:=v) (o:=mA f) (by rw[<-l];exact r f)
 exact d0e I.kIn O (c.get f) c.hd n hu (c1h ru) (h u _ (I.tok _) ru)
theorem b9g{m:Str}{g:Addr}{pl:Sem Bool}{Q:Vl×Vs->Sh->Prop}(I:Inv X pins σ H s)(e:H a=some (.ins C dx fs))(c:Cls X.K C)(k:Meth X.K C m g)(l:fs.lookup m=none)
  (h:Q (.ref g,[.ref a]) s):wpAny (model X.prog X.w) A (getMethod (.ref a) m pl) Q E s:=by
 obtain⟨mA,O,r,_,_,_⟩:=b1j I.hok e
 have hn:mA m=none:=RelO.none_of (by rw[<-l];exact r m)
 exact c6g I.kIn O (c.get m) k.at_ k.fn hn h
theorem b9h{y:V}{u:Vl}{Q:Unit->Sh->Prop}(I:Inv X pins σ H s)(e:H a=some (.ins C dx fs))(c:Cls X.K C)(n:NoAttr X.K C f)(hl:fs.length<1000)(ry:RelV y u)
  (h: ∀s',Inv X pins σ (upd H a (.ins C dx (a2q f y fs))) s'->Q () s'):wpAny (model X.prog X.w) A (setAttr (.ref a) f u) Q E s:=by
 obtain⟨mA,O,r,wi,_,ho⟩:=b1j I.hok e
 have hz:(fs.map (·.1)).length<=sizeLine:=by rw[a0D,a1B];lia
 refine d0f I.kIn O c.sa c.po n.taker c.hd wi hz fun h' O' sb=>h _ ?_
 have hd: ∃o,h'.get? dx=some o:=let⟨o,_,_,e',_⟩:=O'.ns;⟨o,e'⟩
 refine I.write (x:=a) (e:=dx) (by rw[e];exact True.intro) (.inr ho) (fun b q hb z=>(sb.2 b hb).trans z) hd ?_
 refine⟨by rw[a0c O.ne];exact ho,?_,O.ne,O'.obj,_,O'.ns,fun g=>?_,fun g hg=>?_⟩
 ·have:=a8x f y fs;lia
 ·show RelO ((a2q f y fs).lookup g) (if g=f then some u else mA g)
  rw[a8v]
  by_cases q:g=f
  ·rw[if_pos q,if_pos q];exact ry
  ·rw[if_neg q,if_neg q];exact r g
 ·by_cases q:g=f
  ·rw[q];exact(a8w f y fs).1
  ·refine(a8w f y fs).2 g (wi g fun z=>hg ?_)
   show(if g=f then some u else mA g)=none
   rw[if_neg q];exact z
theorem Inv.made(I:Inv X pins σ H s):Inv X pins σ (upd (upd H s.heap.objs.size (.own (s.heap.objs.size+1))) (s.heap.objs.size+1) (.ins C s.heap.objs.size []))
    {s with heap:=(s.heap.push PySem.W.emptyDict).push (PySem.W.instObj C s.heap.objs.size)}:=by
  have e1:(s.heap.push PySem.W.emptyDict).get? s.heap.objs.size=some PySem.W.emptyDict:=a0V s.heap rfl
  have e2:((s.heap.push PySem.W.emptyDict).push (PySem.W.instObj C s.heap.objs.size)).get? (s.heap.objs.size+1)=some (PySem.W.instObj C s.heap.objs.size):=by
    have:=a0V (s.heap.push PySem.W.emptyDict) (o:=PySem.W.instObj C s.heap.objs.size) rfl
    rwa[a7L]at this
  have e3:(s.heap.push PySem.W.emptyDict).Ns s.heap.objs.size (fun _=>none):=⟨PySem.W.emptyDict,#[],_,e1,rfl,(fun e he=>absurd he (by simp)),fun _=>rfl⟩
  have I1:=I.laid (a:=s.heap.objs.size) (o:= .own (s.heap.objs.size+1)) (h':=s.heap.push PySem.W.emptyDict) (t':=s.toks) (fun b u q=>a0I _ q) (a0J _) ⟨_,e1⟩
  refine I1.laid (a:=s.heap.objs.size+1) (o:= .ins C s.heap.objs.size []) (t':=s.toks) (fun b u q=>a0I _ q) (a6P (a7L _ _)) ?_
  have ne:s.heap.objs.size≠s.heap.objs.size+1:=a1J (a4G _)
  refine⟨by rw[a0c ne,a0a],a3E _,ne,e2,fun _=>none,(Heap.Ns1.of_empty e3).at fun o q=>a0I _ q,fun _=>True.intro,fun y hy=>absurd rfl hy⟩
theorem d0g{prog:Pg}{w:World}{env:Env}{e:Expr}{f:Str}{pos:Pos}{s:Sh}{Q:VP}(hb:attributeBase e f env (eval e env)=eval e env)
  (h:wpAny (model prog w) A (eval e env) (fun o s₁=>wpAny (model prog w) A (getAttr o f true) Q E s₁) E s):wpAny (model prog w) A (eval (.Attribute e f pos) env) Q E s:=
 Attribute_any_ h (by rw[arm_eval_Attribute,hb])
end
def tFld(K:W.Frag)(ta:TE)(f:Str):TE:=fun σ H Q=>ta σ H fun x H1=> ∃a C dx fs v,x= .ref a/\H1 a=some (.ins C dx fs)/\Cls K C/\NoAttr K C f/\fs.lookup f=some v/\Q v H1
def sFld(K:W.Frag)(ta tv:TE)(f:Str):TS:=fun D σ H=>tv σ H fun y H1=>ta σ H1 fun x H2=> ∃a C dx fs,x= .ref a/\H2 a=some (.ins C dx fs)/\Cls K C/\NoAttr K C f/\fs.length<1000/\
 D.nx σ (upd H2 a (.ins C dx (a2q f y fs)))
section
variable{X:Cx}{o e value:Expr}{f:Str}{pos pos' tpos:Pos}{ta tv:TE}
theorem b0k(he:PE X e ta)(hb:attributeBase e f X.env (eval e X.env)=eval e X.env):PE X (.Attribute e f pos) (tFld X.K ta f):=by
 intro pins s σ H Q I h
 refine d0g hb (thn (he pins s σ H _ I h) fun u s1 ⟨x,H1,I1,rx,a,C,dx,fs,v,ex,ea,c,n,l,q⟩=>?_)
 subst ex
 obtain rfl:u=Value.ref a:=rx
 exact b9f I1 ea c n l fun u' s2 I2 ru=>⟨v,H1,I2,ru,q⟩
theorem a8y(ha:PE X o ta)(hv:PE X value tv)(hs:swapsWith value (some (.Attribute o f pos')) pos.line X.env=pure false):PS X (.Assign [.Attribute o f pos'] value pos) (sFld X.K ta tv f):=by
 intro pins s σ H D I h
 refine plainObj_wpAny_Assign_Attribute (thn (hv pins s σ H _ I h) fun u s1 ⟨y,H1,I1,ry,q⟩=>thn (ha pins s1 σ H1 _ I1 q) fun ov s2 ⟨x,H2,I2,rx,a,C,dx,fs,ex,ea,c,n,l,q2⟩=>?_) hs
 subst ex
 obtain rfl:ov=Value.ref a:=rx
 exact b9h I2 ea c n l ry fun s3 I3=>⟨σ,_,I3,q2⟩
end
section
variable{X:Cx}{pins:AO}{σ:St}{H:Hp}{s:Sh}{A:Ar}{E:VP}{Q:VP}{c:Vl}{b:Bool}
inductive TyOf (K:W.Frag) (H:Hp):V->Vl->Prop where
 |non:TyOf K H .non (.type "NoneType")
 |bl (x:Bool):TyOf K H (.bl x) (.type "bool")
 |int (i:Int):TyOf K H (.int i) (.type "int")
 |str (x:Str):TyOf K H (.str x) (.type "str")
 |flt (x:UInt64):TyOf K H (.flt x) (.type "float")
 |lst {a:Addr} {xs:List V} (e:H a=some (.lst xs)):TyOf K H (.ref a) (.type "list")
 |frz {a:Addr} {o:Obj} {xs:List V} (e:H a=some (.frz o (.lst xs))):TyOf K H (.ref a) (.type "list")
 |tup {a:Addr} {xs:List V} (e:H a=some (.tup xs)):TyOf K H (.ref a) (.type "tuple")
 |dK {a:Addr} {kvs:List (Key×V)} (e:H a=some (.dK kvs)):TyOf K H (.ref a) (.type "dict")
 |dT {a:Addr} {kvs:List (List Key×V)} (e:H a=some (.dT kvs)):TyOf K H (.ref a) (.type "dict")
 | ins {a C dx:Addr} {fs:List (Str×V)} (e:H a=some (.ins C dx fs)) (cl:Cls K C) (ha:PySem.W.findIn K (.ref C) "__class__"=some (some (.builtin "object.__class__")))
   (hn:PySem.W.specialIn K (.builtin "object.__class__") "__get__"=some (some (.builtin "getset_descriptor.__get__"))) (htk:PySem.W.takesIn K (.builtin "object.__class__")=some true)
   (hm:PySem.W.mroIn K C (.type "object")=some true):TyOf K H (.ref a) (.ref C)
theorem c1i{x:V}{u t:Vl}(I:Inv X pins σ H s)(rx:RelV x u)(ty:TyOf X.K H x t)(e:PySem.W.kitOne X.K t c=some b)(h: ∀tk,Q (.bool b) {s with toks:=tk}):
  wpAny (model X.prog X.w) A (call (.builtin "isinstance") [u,c]) Q E s:=by
 cases ty with
 |non=>cases(show u=Value.none from rx);exact a3L PySem.W.kitx_none I.kIn True.intro e (fun z=>nomatch z) h
 |bl y=>cases(show u=Value.bool y from rx);exact a3L PySem.W.kitx_bool I.kIn True.intro e (fun z=>nomatch z) h
 |int i=>obtain⟨t,q⟩:=(show ∃t,u=Value.int i t from rx);cases q;exact a3L PySem.W.kitx_int I.kIn True.intro e (fun z=>nomatch z) h
 |str y=>obtain⟨t,q⟩:=(show ∃t,u=Value.str y t from rx);cases q;exact a3L PySem.W.kitx_str I.kIn True.intro e (fun z=>nomatch z) h
 |flt y=>obtain⟨t,q⟩:=(show ∃t,u=Value.float y t from rx);cases q;exact a3L PySem.W.kitx_float I.kIn True.intro e (fun z=>nomatch z) h
 | @lst a xs ea=>
  cases(show u=Value.ref a from rx)
  obtain⟨_,_,n,_,h1⟩:=(show ObjOk X.prog X.w H s.heap a (.lst xs)from I.hok a _ ea)
  exact a3L PySem.W.kitx_list I.kIn ⟨_,h1,rfl⟩ e (fun z=>nomatch z) h
 | @frz a ob xs ea=>
  cases(show u=Value.ref a from rx)
  obtain⟨_,_,_,n,_,h1⟩:=(show ObjOk X.prog X.w H s.heap a (.frz ob (.lst xs))from I.hok a _ ea)
  exact a3L PySem.W.kitx_list I.kIn ⟨_,h1,rfl⟩ e (fun z=>nomatch z) h
 | @tup a xs ea=>
  cases(show u=Value.ref a from rx)
  obtain⟨_,_,_,p⟩:=(show ObjOk X.prog X.w H s.heap a (.tup xs)from I.hok a _ ea)
  obtain⟨o,h1,h2,_⟩:=p
  exact a3L PySem.W.kitx_tuple I.kIn ⟨o,h1,h2⟩ e (fun z=>nomatch z) h
 | @dK a kvs ea=>
  cases(show u=Value.ref a from rx)
  obtain⟨_,_,vs,_,p⟩:=(show ObjOk X.prog X.w H s.heap a (.dK kvs)from I.hok a _ ea)
  obtain⟨o,es,ep,h1,h2,_⟩:=p
  exact a3L PySem.W.kitx_dict I.kIn ⟨o,h1,h2.1⟩ e (fun z=>nomatch z) h
 | @dT a kvs ea=>
  cases(show u=Value.ref a from rx)
  obtain⟨_,_,xs,_,o,es,ep,h1,h2,_⟩:=(show ObjOk X.prog X.w H s.heap a (.dT kvs)from I.hok a _ ea)
  exact a3L PySem.W.kitx_dict I.kIn ⟨o,h1,h2.1⟩ e (fun z=>nomatch z) h
 | @ins a C dx fs ea cl ha hn htk hm=>
  cases(show u=Value.ref a from rx)
  obtain⟨mA,O,_⟩:=b1j I.hok ea
  obtain⟨od,J,_⟩:=O.look
  exact a3L (PySem.W.kitx_own (cl.get _) cl.hd ha hn htk hm) I.kIn J e (fun z=>nomatch z) h
end
structure Room(k:Nat)(A:Ar):Prop where
 hd:A.handled=none
 dp:A.depth+3 * k+5<recursionLimit
 un:A.units+16 * k+200<cLine
theorem Room.mono{j k:Nat}{A:Ar}(r:Room k A)(h:j<=k):Room j A:=⟨r.hd,by have:=r.dp;lia,by have:=r.un;lia⟩
theorem Room.m{A:Ar}{k j:Nat}(h:Room k A)(d:j≤k:=by decide):Room j A:=h.mono d
theorem Room.deeper{k:Nat}{A:Ar}(r:Room (k+1) A)(env:Env):Room k (A.deeper env):=
 ⟨r.hd,by have:=r.dp;show A.depth+1+3 * k+5<_;lia,by have:=r.un;show A.units+3+16 * k+200<_;lia⟩
theorem Room.in1{k:Nat}{A:Ar}(r:Room (k+1) A):Room k A.in1:=
 ⟨r.hd,by have:=r.dp;show A.depth+3 * k+5<_;lia,by have:=r.un;show A.units+1+16 * k+200<_;lia⟩
theorem b9i{A:Ar}{C:Addr}{us:Vs}{kw:List (Str×Vl)}:(A.under (.builtin "type.__call__" ⟨.ref C::us,kw⟩)).depth=A.depth+1:=by
 first|rfl|simp[Around.under,Code.weight,Code.isCreation,Code.isGuard,Code.isCaller,Code.frames,Code.isFrame,guardIds]
theorem b9j{A:Ar}{C:Addr}{us:Vs}{kw:List (Str×Vl)}:(A.under (.builtin "type.__call__" ⟨.ref C::us,kw⟩)).units=A.units+1:=by
 first|rfl|simp[Around.under,Code.cUnits,Code.frames,Code.isFrame]
theorem Room.make{k:Nat}{A:Ar}(r:Room (k+1) A)(C:Addr)(us:Vs)(kw:List (Str×Vl)):Room k (A.under (.builtin "type.__call__" ⟨.ref C::us,kw⟩)):=
 ⟨r.hd,by have:=r.dp;rw[b9i];lia,by have:=r.un;rw[b9j];lia⟩
theorem Room.depth{k:Nat}{A:Ar}(r:Room k A):A.depth<recursionLimit:=by have:=r.dp;lia
theorem Room.units{k:Nat}{A:Ar}(r:Room k A):A.units+64<cLine:=by have:=r.un;lia
def b7j:TA:=fun _ H Q=>Q [] H
def a6w(ta:TE)(tr:TA):TA:=fun σ H Q=>ta σ H fun x H1=>tr σ H1 fun xs H2=>Q (x::xs) H2
section
variable{X:Cx}{e:Expr}{es:List Expr}{te:TE}{t:TA}{pos:Pos}
theorem a0i:PA X [] b7j:=fun _ _ _ _ H Q I h=>Calls.spliced_nil ⟨[],H,I,.nil,h⟩
theorem a0f(ha:PE X e te)(hr:PA X es t)(hs:starEach (e::es) X.env=(false,eval e X.env)::starEach es X.env:=by rfl):PA X (e::es) (a6w te t):=by
 intro pos pins s σ H Q I h
 rw[hs]
 show wpAny _ _ (spliced ((false,eval e X.env)::backTo pos (starEach es X.env))) _ _ s
 refine Calls.spliced_cons (thn (ha pins s σ H _ I h) fun u s1 ⟨x,H1,I1,r1,q1⟩=>?_)
 exact thn (hr pos pins s1 σ H1 _ I1 q1) fun us s2 ⟨xs,H2,I2,r2,q2⟩=>⟨x::xs,H2,I2,.cons r1 r2,q2⟩
def tTup(t:TA):TE:=fun σ H Q=>t σ H fun xs H1=>xs.length<=sizeLine/\ ∀p,H1 p=none->Q (.ref p) (upd H1 p (.tup xs))
def d2u(t:TA):TE:=fun σ H Q=>t σ H fun xs H1=>xs.length<=sizeLine/\ ∀p,H1 p=none->Q (.ref p) (upd H1 p (.lst xs))
theorem a7m{x1}(h:PA X es t):PE X (.Tuple es x1 pos) (tTup t):=by
 intro pins s σ H Q I hq
 refine wpAny_Tuple_spliced (thn (h pos pins s σ H _ I hq) fun us s1 ⟨xs,H1,I1,r,z,q⟩=>⟨by rw[<-r.length];exact z,?_⟩)
 have hf:H1 s1.heap.objs.size=none:=I1.hok.fresh (a0J _)
 refine⟨.ref s1.heap.objs.size,upd H1 s1.heap.objs.size (.tup xs),I1.laid (t':=s1.toks) (fun b u e=>a0I _ e) (a0J _) ?_,rfl,q _ hf⟩
 exact⟨z,us,r,⟨_,a0V _ rfl,rfl,_,rfl,rfl⟩⟩
theorem a2r(h:PA X es t):PE X (.List es pos) (d2u t):=by
 intro pins s σ H Q I hq
 refine wpAny_List_spliced (thn (h pos pins s σ H _ I hq) fun us s1 ⟨xs,H1,I1,r,z,q⟩=>⟨by rw[<-r.length];exact z,?_⟩)
 have hf:H1 s1.heap.objs.size=none:=I1.hok.fresh (a0J _)
 refine⟨.ref s1.heap.objs.size,upd H1 s1.heap.objs.size (.lst xs),I1.laid (t':=s1.toks) (fun b u e=>a0I _ e) (a0J _) ?_,rfl,q _ hf⟩
 exact⟨z,us,0,r,a0V _ rfl⟩
end
abbrev Sp:=List V->Hp->VK->XK->Prop
abbrev CXT:=List Env->Hp->Sh->XK->Vl->Sh->Prop
structure Env0(P:Pg)(w:World)(K:W.Frag)(mg:SV)(base:Heap)(A:Ar)(outer:List Env)(s:Sh)(H:Hp):Prop where
 frames:A.frames=some outer
 mod:Mod K mg base
 bs: ∀b o,base.get? b=some o->s.heap.get? b=some o/\H b=none
 bsz:base.objs.size<=s.heap.objs.size
 funs:s.heap.FunFrames base outer
 frf: ∀b∈frs outer,H b=none
 hok:HOk P w H s.heap
 bare:AllBare s.gens
def CE(outer:List Env)(P:Pg)(w:World)(H:Hp)(s:Sh)(Q:VK)(u:Vl)(s':Sh):Prop:=
 ∃v H',s'.os=s.os/\AllBare s'.gens/\Un (frs outer) [] H H' s.heap s'.heap/\HOk P w H' s'.heap/\RelV v u/\Q v H'
def CR(CX:CXT)(outer:List Env)(P:Pg)(w:World)(H:Hp)(s:Sh)(Q:VK)(E:XK)(r:Result)(s':Sh):Prop:=
 match r with
 | .ok (.ret u)=>CE outer P w H s Q u s'
 | .ok _=>False
 | .error e=>CX outer H s E e s'
structure FnOk(P:Pg)(w:World)(K:W.Frag)(mg:SV)(base:Heap)(CX:CXT)(k:Nat)(f:Addr)(fd:Fd)(ps:Ss)(sp:Sp):Prop where
 len: ∀vs H Q E,sp vs H Q E->vs.length=ps.length
 run: ∀(A:Ar) (outer:List Env) (s:Sh) (H:Hp) (args:Args) (us:Vs) (vs:List V) (Q:VK) (E:XK),Room k A->Env0 P w K mg base A outer s H->BindsTo s fd args (ps.zip us)->Vals vs us->sp vs H Q E->
  codeAny (model P w) A (.call (.ref f) args) (CR CX outer P w H s Q E) s
theorem Env0.make{P:Pg}{w:World}{K:W.Frag}{mg:SV}{base:Heap}{A:Ar}{outer:List Env}{s:Sh}{H:Hp}(e:Env0 P w K mg base A outer s H)(C:Addr)(us:Vs)(kw:List (Str×Vl)):
  Env0 P w K mg base (A.under (.builtin "type.__call__" ⟨.ref C::us,kw⟩)) outer s H:=⟨by first|exact e.frames|(simpa[Around.under,Code.envs,Code.isFrame,pushEnvs]using e.frames),e.mod,e.bs,e.bsz,e.funs,e.frf,e.hok,e.bare⟩
theorem Env0.in1{P:Pg}{w:World}{K:W.Frag}{mg:SV}{base:Heap}{A:Ar}{outer:List Env}{s:Sh}{H:Hp}(e:Env0 P w K mg base A outer s H):
  Env0 P w K mg base A.in1 outer s H:=⟨e.frames,e.mod,e.bs,e.bsz,e.funs,e.frf,e.hok,e.bare⟩
section
variable{X:Cx}{pins:AO}{σ:St}{H:Hp}{s s':Sh}
theorem Inv.env0(I:Inv X pins σ H s):Env0 X.prog X.w X.K X.mg X.base X.A X.stack s H:=
 ⟨I.ok.frames,I.ok.mod,I.bs,a0Y I.ok.bsz I.sz,I.stack,I.stkFree,I.hok,I.bare⟩
theorem Inv.after{Q:VK}{u:Vl}(I:Inv X pins σ H s)(h:CE X.stack X.prog X.w H s Q u s'):EP X pins σ Q u s':=by
 obtain⟨v,H',os,bare,un,hok,r,q⟩:=h
 obtain⟨hh,g,d,t,os'⟩:=s'
 obtain rfl:os'=s.os:=os
 exact⟨v,H',I.call (h':=hh) (g':=g) (d':=d) (t':=t) (ch:=[]) un hok bare (fun b z=>absurd z (by simp)),r,q⟩
end
def c6i(sp:Sp)(dvs:List V)(E:XK)(t:TA):TE:=fun σ H Q=>t σ H fun vs H1=>sp (vs++dvs) H1 Q E
def d2v(C:Addr)(m:Str)(sp:Sp)(dvs:List V)(E:XK)(ta:TE)(t:TA):TE:=fun σ H Q=>ta σ H fun x H1=> ∃a dx fs,x= .ref a/\H1 a=some (.ins C dx fs)/\fs.lookup m=none/\
 t σ H1 fun vs H2=>sp (x::(vs++dvs)) H2 Q E
def d2w(C:Addr)(sp:Sp)(dvs:List V)(E:XK)(t:TA):TE:=fun σ H Q=>t σ H fun vs H1=> ∀x dx,H1 x=none->H1 dx=none->dx≠x->
 sp (.ref x::(vs++dvs)) (upd (upd H1 dx (.own x)) x (.ins C dx [])) (fun v H2=>v= .non/\Q (.ref x) H2) E
def Binds(K:W.Frag)(fd:Fd)(ps:Ss)(ds:Vs):Prop:=
 ∀(s:Sh) (us:Vs),K.In s.heap->(us++ds).length=ps.length->BindsTo s fd ⟨us,[]⟩ (ps.zip (us++ds))
theorem Binds.all{K:W.Frag}{fd:Fd}{ps:Ss}(h: ∀us:Vs,us.length=ps.length->bindArgs fd ⟨us,[]⟩=pure (ps.zip us)):Binds K fd ps []:=fun s us _ hl=>by
 rw[a2K]at hl⊢
 exact .of_eq (h us hl)
def b0l(CX:CXT)(X:Cx)(E:XK):Prop:= ∀(pins:AO) (σ:St) (H:Hp) (s:Sh) (e:Vl) (s':Sh),Inv X pins σ H s->CX X.stack H s E e s'->X.xe e s'
section
variable{X:Cx}{CX:CXT}{k:Nat}{f C:Addr}{fd:Fd}{ps:Ss}{sp:Sp}{dvs:List V}{ds:Vs}{E:XK}{x m:Str}{p pos apos:Pos}{e o:Expr}{es:List Expr}{ta:TE}{t:TA}
theorem c1j{pins:AO}{σ:St}{H:Hp}{s:Sh}{Q:VK}{us:Vs}{vs:List V}(F:FnOk X.prog X.w X.K X.mg X.base CX k f fd ps sp)(hr:Room k X.A)(hb:Binds X.K fd ps ds)(hd:Vals dvs ds)(hx:b0l CX X E)
  (I:Inv X pins σ H s) (r:Vals vs us) (h:sp (vs++dvs) H Q E):wpAny (model X.prog X.w) X.A (call (.ref f) us) (EP X pins σ Q) X.xe s:=by
 have r2:Vals (vs++dvs) (us++ds):=r.append hd
 have hl:(us++ds).length=ps.length:=by rw[<-r2.length];exact F.len _ _ _ _ h
 refine a9N (a5G (F.run X.A X.stack s H ⟨us,[]⟩ (us++ds) (vs++dvs) Q E hr I.env0 (hb s us I.kIn hl) r2 h) fun r s' hq=>?_)
 cases r with
 |error e=>exact hx pins σ H s e s' I hq
 |ok fl=>
  cases fl with
  |ret u=>exact I.after hq
  |next=>exact False.elim hq
  |brk=>exact False.elim hq
  |cont=>exact False.elim hq
theorem d0h(F:FnOk X.prog X.w X.K X.mg X.base CX k f fd ps sp)(hr:Room k X.A)(hg:Gl X x)(hm:X.mg x=some (.ref f))(hk:PySem.W.keepIn X.K (.ref f)=true)(hb:Binds X.K fd ps ds)(hd:Vals dvs ds)(hx:b0l CX X E)
  (ha:PA X (e::es) t) (hdb:(x==("__debug__":Str))=false:=by decide) (he:starEach (e::es) X.env=(false,eval e X.env)::starEach es X.env:=by rfl) (hpl:(backTo pos (starEach es X.env)).any (·.1)=false:=by rfl):
  PE X (.Call (.Name x p) (e::es) [] pos) (c6i sp dvs E t):=by
 intro pins s σ H Q I h
 refine a4E (b1h I hg hm ?_ hdb)
 refine a8Q (h₀:=X.base) I.ok.mod.kin hk (thn (ha pos pins s σ H _ I h) fun us s1 ⟨vs,H1,I1,r,q⟩=>⟨I1.kIn,?_⟩) he hpl
 exact c1j F hr hb hd hx I1 r q
theorem c6j{pl:Sem Bool}(he:PE X o ta)(c:Cls X.K C)(hm:Meth X.K C m f)(F:FnOk X.prog X.w X.K X.mg X.base CX k f fd ps sp)(hr:Room k X.A)(hb:Binds X.K fd ps ds)(hd:Vals dvs ds)(hx:b0l CX X E)
  (ht:eval (.Call (.Attribute o m apos) [] [] pos) X.env=(do
   let ov <-eval o X.env
   standAt apos.atName
   let(f,first) <-holding [ov] (getMethod ov m pl)
   callWith pos f first (backTo pos (starEach [] X.env)) (backToKw pos (keywordEach [] X.env))):=by rfl):
  PE X (.Call (.Attribute o m apos) [] [] pos) (d2v C m sp dvs E ta b7j):=by
 intro pins s σ H Q I h
 refine PySem.W.methodCall_KW (pl:=pl) (thn (he pins s σ H _ I h) fun u s1 ⟨x,H1,I1,rx,a,dx,fs,ex,ea,l,q⟩=>?_) ht
 subst ex
 obtain rfl:u=Value.ref a:=rx
 refine b9g I1 ea c hm l ?_
 exact PySem.W.callWith_K0 (first:=[.ref a]) I1.kIn hm.kp (c1j (us:=[.ref a]) (vs:=[.ref a]) F hr hb hd hx I1 (.cons rfl .nil) q)
structure Mk(K:W.Frag)(C f:Addr):Prop where
 makes:PySem.W.makesIn K C=true
 init:PySem.W.findIn K (.ref C) "__init__"=some (some (.ref f))
 fn:PySem.W.isFn K (.ref f)=true
 kp:PySem.W.keepIn K (.ref C)=true
theorem c6k{pins:AO}{σ:St}{H:Hp}{s:Sh}{Q:VK}{us:Vs}{vs:List V}(M:Mk X.K C f)(F:FnOk X.prog X.w X.K X.mg X.base CX k f fd ps sp)(hr:Room (k+1) X.A)(hb:Binds X.K fd ps ds)(hd:Vals dvs ds)
  (hx:b0l CX X E) (I:Inv X pins σ H s) (r:Vals vs us)
  (h: ∀x dx,H x=none->H dx=none->dx≠x->sp (.ref x::(vs++dvs)) (upd (upd H dx (.own x)) x (.ins C dx [])) (fun v H2=>v= .non/\Q (.ref x) H2) E):
  wpAny (model X.prog X.w) X.A (call (.ref C) us) (EP X pins σ Q) X.xe s:=by
 have hq:=h (s.heap.objs.size+1) s.heap.objs.size (I.hok.fresh (a6M _)) (I.hok.fresh (a0J _)) (a1J (a4G _))
 have I2:=Inv.made (C:=C) I
 have r2:Vals (V.ref (s.heap.objs.size+1)::(vs++dvs)) (Value.ref (s.heap.objs.size+1)::(us++ds)):= .cons rfl (r.append hd)
 have hl:(Value.ref (s.heap.objs.size+1)::us++ds).length=ps.length:=by
  have e:=r2.length
  rw[F.len _ _ _ _ hq]at e
  exact e.symm
 refine a9N (c6h (f:=f) I.kIn M.makes M.init (a7E.mp M.fn) (a5G (F.run _ X.stack _ _ ⟨Value.ref (s.heap.objs.size+1)::us,[]⟩ (Value.ref (s.heap.objs.size+1)::(us++ds)) _ _ E (hr.make C us [])
  (I2.env0.make C us []) (hb _ (Value.ref (s.heap.objs.size+1)::us) I2.kIn hl) r2 hq) fun r s' hq'=>?_))
 cases r with
 |error e=>exact hx pins σ _ _ e s' I2 hq'
 | ok fl=>
  cases fl with
  |ret u=>
   obtain⟨v,H',I3,rv,ev,q3⟩:=I2.after hq';subst ev;exact⟨rv,⟨V.ref (s.heap.objs.size+1),H',I3,rfl,q3⟩⟩
  |next=>exact False.elim hq'
  |brk=>exact False.elim hq'
  |cont=>exact False.elim hq'
theorem d0i(M:Mk X.K C f)(F:FnOk X.prog X.w X.K X.mg X.base CX k f fd ps sp)(hr:Room (k+1) X.A)(hg:Gl X x)(hm:X.mg x=some (.ref C))(hb:Binds X.K fd ps ds)(hd:Vals dvs ds)(hx:b0l CX X E)
  (ha:PA X (e::es) t) (hdb:(x==("__debug__":Str))=false:=by decide) (he:starEach (e::es) X.env=(false,eval e X.env)::starEach es X.env:=by rfl) (hpl:(backTo pos (starEach es X.env)).any (·.1)=false:=by rfl):
  PE X (.Call (.Name x p) (e::es) [] pos) (d2w C sp dvs E t):=by
 intro pins s σ H Q I h
 refine a4E (b1h I hg hm ?_ hdb)
 refine a8Q (h₀:=X.base) I.ok.mod.kin M.kp (thn (ha pos pins s σ H _ I h) fun us s1 ⟨vs,H1,I1,r,q⟩=>⟨I1.kIn,?_⟩) he hpl
 exact c6k M F hr hb hd hx I1 r q
end
structure FnScope(N P:Ss)(sc:Scope):Prop where
 kind:sc.kind= .function:=by rfl
 co:sc.isCoroutine=false:=by rfl
 gen:sc.isGenerator=false:=by rfl
 nd:N.Nodup:=by decide+kernel
 pre:N.take P.length=P:=by rfl
 par: ∀x∈P,sc.names.lookup x=some .local∨sc.names.lookup x=some .cell:=by decide+kernel
 nofree: ∀y∈sc.names,y.2≠ .free:=by decide+kernel
theorem b3m{kindOf:Str->Option NameKind}{x:Str}: ∀{binds:List (Str×Vl)} {m:SV},(∀v,(x,v)∉binds)->bindL kindOf binds m x=m x
 | [],_,_=>rfl
 | (n,v)::r,m,h=>by
  unfold bindL
  rw[b3m fun w hw=>h w (a0X _ hw)]
  split
  ·have:x≠n:=by rintro rfl;exact h v a0S
   simp[this]
  ·rfl
theorem b3n{kindOf:Str->Option NameKind}{x:Str}: ∀{binds:List (Str×Vl)} {m:SV},(∀v,(x,v)∉binds)->bindC kindOf binds m x=m x
 | [],_,_=>rfl
 | (n,v)::r,m,h=>by
  unfold bindC
  rw[b3n fun w hw=>h w (a0X _ hw)]
  split
  ·rfl
  ·have:x≠n:=by rintro rfl;exact h v a0S
   simp[this]
theorem b3o{kindOf:Str->Option NameKind}{x:Str}{v:Vl}: ∀{P:Ss} {vs:Vs} {i:Nat} {m:SV},P.Nodup->P[i]? =some x->vs[i]? =some v->kindOf x=some .local->
  bindL kindOf (P.zip vs) m x=some v
 | [],_,_,_,_,h,_,_=>by simp at h
 |_::_,[],_,_,_,_,h,_=>by simp at h
 |p::P,w::vs,0,m,nd,h1,h2,hk=>by
  simp at h1 h2;subst h1;subst h2
  show bindL kindOf ((p,w)::P.zip vs) m p=_
  unfold bindL
  rw[b3m fun v hv=>(a2X.mp nd).1 (a8I hv).1,if_pos hk]
  simp
 |p::P,w::vs,i+1,m,nd,h1,h2,hk=>by
  show bindL kindOf ((p,w)::P.zip vs) m x=_
  unfold bindL
  exact b3o (i:=i) (a2X.mp nd).2 (by simpa using h1) (by simpa using h2) hk
theorem b3p{kindOf:Str->Option NameKind}{x:Str}{v:Vl}: ∀{P:Ss} {vs:Vs} {i:Nat} {m:SV},P.Nodup->P[i]? =some x->vs[i]? =some v->kindOf x≠some .local->
  bindC kindOf (P.zip vs) m x=some v
 | [],_,_,_,_,h,_,_=>by simp at h
 |_::_,[],_,_,_,_,h,_=>by simp at h
 |p::P,w::vs,0,m,nd,h1,h2,hk=>by
  simp at h1 h2;subst h1;subst h2
  show bindC kindOf ((p,w)::P.zip vs) m p=_
  unfold bindC
  rw[b3n fun v hv=>(a2X.mp nd).1 (a8I hv).1,if_neg hk]
  simp
 |p::P,w::vs,i+1,m,nd,h1,h2,hk=>by
  show bindC kindOf ((p,w)::P.zip vs) m x=_
  unfold bindC
  exact b3p (i:=i) (a2X.mp nd).2 (by simpa using h1) (by simpa using h2) hk
def start(N:Ss)(vs:List V):St:=vs.map some++List.replicate (N.length-vs.length) none
def d0j(CX:CXT)(P:Pg)(w:World)(K:W.Frag)(mg:SV)(base:Heap)(N:Ss)(qual:Str)(scope:Scope)(f:Addr)(cd:Vl)(A:Ar)(outer:List Env)(s:Sh)(H:Hp)(E:XK):Cx where
 prog:=P
 w:=w
 K:=K
 mg:=mg
 base:=base
 A:=A.deeper (envOfC qual scope s.heap.objs.size f cd)
 N:=N
 s₀:=s
 H₀:=H
 env:=envOfC qual scope s.heap.objs.size f cd
 outer:=outer
 stack:=envOfC qual scope s.heap.objs.size f cd::outer
 ex:=[]
 calm:=true
 fn:=fun _=>true
 pn:=[]
 xe:=fun e s'=>wpAny (model P w) (A.deeper (envOfC qual scope s.heap.objs.size f cd)) (leaving (envOfC qual scope s.heap.objs.size f cd) e) (fun _ s''=>CX outer H s E e s'') (fun e' s''=>CX outer H s E e' s'') s'
theorem b7k{sc:Scope}{n:Nat}{x:Str}(h:sc.names.lookup x=some .cell): ∃c,(cellsFrom n sc.names []).lookup x=some c:=by
 have q:=PySem.W.cellsFrom_some sc.names n [] (.inl h)
 exact Option.isSome_iff_exists.mp q
theorem c1k{CX:CXT}{P:Pg}{w:World}{K:W.Frag}{mg:SV}{base:Heap}{N ps:Ss}{qual:Str}{scope:Scope}{f:Addr}{cd:Vl}{A:Ar}{outer:List Env}{s s1:Sh}{H:Hp}{E:XK}{us:Vs}{vs:List V}
  (S:FnScope N ps scope) (hd:A.handled=none) (e0:Env0 P w K mg base A outer s H) (hl:vs.length=ps.length) (r:Vals vs us)
  (x:InCallC s s.heap.objs.size (bindL (envOfC qual scope s.heap.objs.size f cd).kindOf (ps.zip us) fun _=>none) (cellsFrom (s.heap.objs.size+1) scope.names []) (bindC (envOfC qual scope s.heap.objs.size f cd).kindOf (ps.zip us) fun _=>none) s1):
  Inv (d0j CX P w K mg base N qual scope f cd A outer s H E) [] (start N vs) H s1:=by
 have hpl:ps.length<=N.length:=by have:=a1Z List.length S.pre;rw[a1N]at this;lia
 obtain⟨h1,tk,rfl,hk⟩:=x.done
 have noA: ∀b:Addr,b∉(d0j CX P w K mg base N qual scope f cd A outer s H E).ex:=fun b z=>absurd (show b∈([]:As)from z) (by simp)
 refine⟨⟨e0.mod,S.kind,rfl,rfl,a0J _,fun y z c h1 h2=>?_,fun y hy=>?_,fun y c _ h=>?_,fun _=>hd,Around.frames_deeper e0.frames,.inr ⟨rfl,rfl⟩,fun b z=>absurd z (noA b),e0.bs,e0.bsz,fun b _ _=>noA b,fun b z=>absurd z (noA b),e0.funs,e0.frf⟩,
  rfl,e0.bare,Un.kept hk,⟨_,x.toInCall.ns,fun i y v h1 h2 h3=>?_⟩,fun y c h=>⟨_,x.cell y c h⟩,e0.hok.fresh (a0J _),fun y c h=>?_,fun p hp=>absurd (show p∈([]:AO)from hp) (by simp),e0.hok.kept hk,?_⟩
 ·exact name_of_addr x.apart (a3F h1) (a3F h2)
 ·have hy:scope.names.lookup y=some .cell∨scope.names.lookup y=some .free:=hy
  rcases hy with hy|hy
  ·exact b7k hy
  ·exact absurd rfl (S.nofree _ (a3F hy))
 ·exact a3D (x.above y c (a3F h))
 ·have hi:i<vs.length:=by
   unfold start at h2;by_cases hi:i<vs.length
   ·exact hi
   ·rw[a0P (by simpa using hi)]at h2
    rw[List.getElem?_replicate]at h2
    split at h2<;>cases h2
  have ha:vs[i]? =some v:=by
   unfold start at h2;rw[a0R (by simpa using hi),List.getElem?_map]at h2;cases e:vs[i]? with
   |none=>rw[e]at h2;cases h2
   |some a=>rw[e]at h2;cases h2;rfl
  obtain⟨u,hu,rv⟩:=r.get ha
  have hp:ps[i]? =some y:=by
   rw[<-S.pre,a4Z (by lia)];exact h1
  have ndP:ps.Nodup:=by rw[<-S.pre];exact S.nd.sublist (a5A _ _)
  refine⟨u,rv,?_⟩
  rcases S.par y (a0E hp)with k|k
  ·exact .inl ⟨k,b3o ndP hp hu k⟩
  ·obtain⟨c,e⟩:=b7k (n:=s.heap.objs.size+1) k
   refine .inr ⟨.inl k,c,e,?_⟩;have q:=x.cell y c e;rw[b3p ndP hp hu (by show scope.names.lookup y≠_;rw[k];decide)]at q;exact q
 ·exact e0.hok.fresh (a3D (x.above y c (a3F h)))
 ·unfold start
  show _=N.length
  rw[a0M,a0D,List.length_replicate]
  lia
theorem d2x{CX:CXT}{P:Pg}{w:World}{K:W.Frag}{mg:SV}{base:Heap}{k:Nat}{f:Addr}{name qual:Str}{params:Arguments}{body:List Stmt}{scope:Scope}{dV kV doc pm cdv ct oc:Vl}{an od:Option Addr}
  {osl:Array (Option Vl)} {N ps:Ss} {sp:Sp} (lk:K.lookup f=some ⟨oc,od,.func (PySem.W.fnOf name qual params body scope dV kV doc pm an cdv ct),osl⟩) (hcd:PySem.W.codeIn K cdv qual=true) (S:FnScope N ps scope)
  (len: ∀vs H Q E,sp vs H Q E->vs.length=ps.length)
  (hbody: ∀(A:Ar) (outer:List Env) (s:Sh) (H:Hp) (vs:List V) (Q:VK) (E:XK),Room k (A.deeper (envOfC qual scope s.heap.objs.size f cdv))->sp vs H Q E->
   ∃t,PSs (d0j CX P w K mg base N qual scope f cdv A outer s H E) body t/\t {nx:=fun _ H'=>Q .non H',rt:=Q} (start N vs) H):
  FnOk P w K mg base CX (k+1) f (PySem.W.fnOf name qual params body scope dV kV doc pm an cdv ct) ps sp:=by
 refine⟨len,fun A outer s H args us vs Q E hr e0 hb r hsp=>?_⟩
 have hl:=len _ _ _ _ hsp
 have KX:K.In s.heap:=e0.mod.kin.keeps fun b o e=>(e0.bs b o e).1
 have lim:s.heap.NoLimit:=e0.mod.nolimit.keeps fun b o e=>(e0.bs b o e).1
 have hkind: ∀y∈ps.zip us,scope.names.lookup y.1=some .local∨(scope.names.lookup y.1=some .cell/\((cellsFrom (s.heap.objs.size+1) scope.names []).lookup y.1).isSome=true):=fun⟨n,v⟩ hy=>by
  rcases S.par n (a8I hy).1 with q|q
  ·exact .inl q
  ·exact .inr ⟨q,PySem.W.cellsFrom_some _ _ _ (.inl q)⟩
 refine codeAny_call_function hr.depth (KX _ _ lk) rfl S.co S.gen rfl (PySem.W.codeRec_of KX hcd) (hb _ _ _ _ ?_)
 refine wpAny_newFunctionEnv_cells S.kind hkind fun env he s1 x=>?_
 subst he
 refine⟨lim.keeps x.toInCall.keep,codeAny_func ?_⟩
 obtain⟨t,ht,hq⟩:=hbody A outer s H vs Q E (hr.deeper _) hsp
 have I:Inv (d0j CX P w K mg base N qual scope f cdv A outer s H E) [] (start N vs) H s1:=c1k S hr.hd e0 hl r x
 refine a3I (ht [] s1 (start N vs) H _ I hq) (fun fl s' hs=>?_) fun e s' hs=>hs
 have fin: ∀{σ':St} {H':Hp} {v:V} {u:Vl},Inv (d0j CX P w K mg base N qual scope f cdv A outer s H E) [] σ' H' s'->RelV v u->Q v H'->CE outer P w H s Q u s':=
  fun {σ' H' v u} J rv q=>⟨v,H',J.os,J.bare,J.base,J.hok,rv,q⟩
 cases fl with
 |ret u=>
  obtain⟨v,σ',H',J,rv,q⟩:=hs
  exact fin J rv q
 |next=>
  obtain⟨σ',H',J,q⟩:=hs
  exact fin (v:=V.non) (u:=Value.none) J rfl q
 |brk=>
  obtain⟨_,_,_,q⟩:=hs
  exact False.elim q
 |cont=>
  obtain⟨_,_,_,q⟩:=hs
  exact False.elim q
section
variable{X:Cx}{x:Str}{p pos:Pos}{e:Expr}{es:List Expr}{t:TA}{id T:String}{r:List V->Hp->VK->Prop}
def tCB(r:List V->Hp->VK->Prop)(t:TA):TE:=fun σ H Q=>t σ H fun vs H1=>r vs H1 Q
theorem a0n(hc:a5o X (.builtin id) r)(hg:Gl X x)(hm:X.mg x=none)(hv:bootBuiltins x=some (.builtin id))(ha:PA X (e::es) t)(hn:x≠"__name__":=by decide)(hdb:(x==("__debug__":Str))=false:=by decide)
  (he:starEach (e::es) X.env=(false,eval e X.env)::starEach es X.env:=by rfl) (hpl:(backTo pos (starEach es X.env)).any (·.1)=false:=by rfl):PE X (.Call (.Name x p) (e::es) [] pos) (tCB r t):=by
 intro pins s σ H Q I h
 refine a4E (b0i I hg hm hv ?_ hn hdb)
 exact PyProof.Rows.callWith_builtin1 (thn (ha pos pins s σ H _ I h) fun us s1 ⟨vs,H1,I1,r1,q1⟩=>hc pins s1 σ H1 vs us Q I1 r1 q1) he hpl
theorem a1j(hc:a5o X (.type T) r)(hg:Gl X x)(hm:X.mg x=none)(hv:bootBuiltins x=some (.type T))(ha:PA X (e::es) t)(hn:x≠"__name__":=by decide)(hdb:(x==("__debug__":Str))=false:=by decide)
  (he:starEach (e::es) X.env=(false,eval e X.env)::starEach es X.env:=by rfl) (hpl:(backTo pos (starEach es X.env)).any (·.1)=false:=by rfl):PE X (.Call (.Name x p) (e::es) [] pos) (tCB r t):=by
 intro pins s σ H Q I h
 refine a4E (b0i I hg hm hv ?_ hn hdb)
 exact a5X (thn (ha pos pins s σ H _ I h) fun us s1 ⟨vs,H1,I1,r1,q1⟩=>hc pins s1 σ H1 vs us Q I1 r1 q1) he hpl
end
end L2
namespace HT
open PySem PyProof.Rows
theorem eqAt_int(A:Ar)(s:Sh)(a:Int)(t:Tok)(c:Int)(u:Tok): ∃e,SeqAt.EqAt A s (.int a t) (.int c u) e/\(e=true↔a=c):=
 ⟨(a==c),SeqAt.EqAt.int_int a t c u,by simp⟩
section
variable{prog:Pg}{w:World}{A:Ar}{E:VP}{s:Sh}
def sIx(n d:Nat):Option Int->Nat
 |none=>d
 |some v=>if v<0 then(v+(n:Int)).toNat else min v.toNat n
theorem d2y(n d:Nat)(hd:d<=n)(o:Option Int):sIx n d o<=n:=by
 cases o with
 |none=>exact hd
 |some v=>
  show(if v<0 then(v+(n:Int)).toNat else min v.toNat n)<=n
  by_cases hv:v<0
  ·rw[if_pos hv];lia
  ·rw[if_neg hv];exact Nat.min_le_right _ _
theorem c1l(v:Int)(n d:Nat):(if v<0 then max (v+(n:Int)) 0 else min v (n:Int))=((sIx n d (some v):Nat):Int):=by
 show(if v<0 then max (v+(n:Int)) 0 else min v (n:Int))=(((if v<0 then(v+(n:Int)).toNat else min v.toNat n):Nat):Int)
 by_cases hv:v<0
 ·simp only[if_pos hv];lia
 ·simp only[if_neg hv];lia
theorem b9k(lo hi:Option Int)(n:Nat):Builtin.Slice.sliceAdjust lo hi 1 (n:Int)=(((sIx n 0 lo:Nat):Int),((sIx n n hi:Nat):Int)):=by
 have h1: ¬((1:Int)<0):=by lia
 unfold Builtin.Slice.sliceAdjust
 simp only[h1,if_false]
 refine Prod.ext ?_ ?_
 ·cases lo with
  |none=>rfl
  |some v=>exact c1l v n 0
 ·cases hi with
  |none=>rfl
  |some v=>exact c1l v n n
theorem b9l(i j:Nat):Builtin.Slice.slicePlaces (i:Int) (j:Int) 1=j-i:=by
 unfold Builtin.Slice.slicePlaces
 have h1:(1:Int)>0:=by lia
 simp only[h1,if_true,Int.ediv_one]
 split<;>lia
theorem b0m{v:Vl}{o:Option Int}{Q:Option Int->Sh->Prop}(p:IsPart v o)(h:Q o s):wpAny (model prog w) A (Builtin.Slice.slicePartIndex v) Q E s:=by
 cases p with
 |none=>exact slicePart_none h
 |int i t=>exact slicePart_int h
theorem sliceApplied_gen{sl:Addr}{vl vu:Vl}{lo hi:Option Int}{n:Nat}{Q:Int×Int×Nat->Sh->Prop}(hs:s.heap.IsSliceOf sl vl vu .none)(pl:IsPart vl lo)(pu:IsPart vu hi)
  (h:Q (((sIx n 0 lo:Nat):Int),1,sIx n n hi-sIx n 0 lo) s):wpAny (model prog w) A (Builtin.Slice.sliceApplied (.ref sl) (pure (n:Int))) Q E s:=by
 obtain⟨os,hos,hcs,hds⟩:=id hs
 unfold Builtin.Slice.sliceApplied Builtin.Slice.sliceFields
 refine a0C (a0C (a5Y hos hds (x:=vl) rfl (a0C (a5Y hos hds (x:=vu) rfl (a0C (a5Y hos hds (x:= .none) rfl (a0F ?_)))))))
 refine a0C (slicePart_none ?_)
 show wpAny _ _ (if((1:Int)==0)=true then _ else _) _ _ s
 rw[if_neg (by decide)]
 refine a0C (b0m pl (a0C (b0m pu (a0C (a0F ?_)))))
 show wpAny _ _ (match Builtin.Slice.sliceAdjust lo hi 1 (n:Int)with|(lo,hi)=>pure (lo,(1:Int),Builtin.Slice.slicePlaces lo hi 1)) _ _ s
 rw[b9k lo hi n]
 show wpAny _ _ (pure (((sIx n 0 lo:Nat):Int),(1:Int),Builtin.Slice.slicePlaces ((sIx n 0 lo:Nat):Int) ((sIx n n hi:Nat):Int) 1)) _ _ s
 rw[b9l]
 exact a0F h
theorem c6l(xs:AV)(i k:Nat):((List.range k).filterMap fun(m:Nat)=>xs[((i:Int)+(m:Int) * 1).toNat]?).toArray=((xs.toList.drop i).take k).toArray:=by
 have e:(fun(m:Nat)=>xs[((i:Int)+(m:Int) * 1).toNat]?)=fun m=>xs[i+m]? :=by
  funext m
  have:((i:Int)+(m:Int) * 1).toNat=i+m:=by lia
  rw[this]
 rw[e]
 have:=pick_run xs i k
 rw[List.filterMap_map]at this
 have e2:((fun x=>xs[x]?)∘fun x=>i+x)=fun m=>xs[i+m]? :=rfl
 rw[e2]at this
 rw[this]
theorem getItem_tuple_cut{t sl:Addr}{items:AV}{vl vu:Vl}{lo hi:Option Int}{Q:VP}(ht:IsTup s.heap t items)(hs:s.heap.IsSliceOf sl vl vu .none)(pl:IsPart vl lo)(pu:IsPart vu hi)
  (hw: ¬(sIx items.size 0 lo=0/\sIx items.size items.size hi=items.size))
  (h:Q (.ref s.heap.objs.size) {s with heap:=s.heap.push {cls:= .type "tuple",data:= .seq ((items.toList.drop (sIx items.size 0 lo)).take (sIx items.size items.size hi-sIx items.size 0 lo)).toArray}})
  (hsz:items.size<=sizeLine):wpAny (model prog w) A (getItem (.ref t) (.ref sl)) Q E s:=by
 have htake:sizeOk (.seq ((items.toList.drop (sIx items.size 0 lo)).take (sIx items.size items.size hi-sIx items.size 0 lo)).toArray):=by
  show((items.toList.drop (sIx items.size 0 lo)).take (sIx items.size items.size hi-sIx items.size 0 lo)).toArray.size<=sizeLine
  rw[a0U,a1N,a4P,a0K]
  lia
 have hj:sIx items.size items.size hi<=items.size:=d2y _ _ (a0J _) hi
 obtain⟨os,hos,hcs,hds⟩:=id hs
 have hTs:s.TypeIs (.ref sl) "slice":=⟨os,hos,hcs⟩
 unfold getItem
 try with_reducible refine a2P ?_
 first|refine a0C (a0F ?_)|skip
 refine a0C (wpAny_sequenceKey ht.typeIs (by decide) ?_)
 refine a0C (a2Q (name:=Str.ofString "__getitem__") ht.typeIs a2U
  (a2H a2U ht.typeIs entry_tuple_getitem ?_ (args_tuple_getitem _ _)))
 show wpAny _ _ (Builtin.Tuple.tupleItemsOf (.ref t) >>= _) _ _ s
 refine a0C (tupleItemsOf_ ht ?_)
 refine a0C (a7M hTs ?_)
 rw[if_pos (by decide)]
 refine a0C (sliceApplied_gen hs pl pu ?_)
 have hno: ¬((((sIx items.size 0 lo:Nat):Int)==0&&(1:Int)==1&&(sIx items.size items.size hi-sIx items.size 0 lo)==items.size)=true):=by
  intro q
  rw[a2Y,a2Y]at q
  have q1:((sIx items.size 0 lo:Nat):Int)=0:=eq_of_beq q.1.1
  have q2:sIx items.size items.size hi-sIx items.size 0 lo=items.size:=eq_of_beq q.2
  exact hw ⟨by lia,by lia⟩
 show wpAny _ _ (if(((sIx items.size 0 lo:Nat):Int)==0&&(1:Int)==1&&(sIx items.size items.size hi-sIx items.size 0 lo)==items.size)=true then _ else _) _ _ s
 rw[if_neg hno,c6l]
 first
  |exact a0C (m:=Builtin.Tuple.tupleExact _) (a2N (a0F ⟨_,rfl,a0F h⟩) htake)
  |exact a0C (m:=Builtin.Tuple.tupleExact _) (a2N (a0C (a0F (a0F ⟨_,rfl,a0F h⟩))) htake)
  |exact a0C (a0C (m:=Builtin.Tuple.tupleExact _) (a2N (a0F (a0F ⟨_,rfl,a0F h⟩)) htake))
  |exact a0C (a0C (m:=Builtin.Tuple.tupleExact _) (a2N (a0F ⟨_,rfl,a0F h⟩) htake))
end
end HT
namespace L2
open PySem PySem.Spec PyProof.Rows
abbrev TO:=St->Hp->(Option Int->Hp->Prop)->Prop
def PO(X:Cx)(e:Option Expr)(t:TO):Prop:=
 ∀(pins:AO) (s:Sh) (σ:St) (H:Hp) (Q:Option Int->Hp->Prop),Inv X pins σ H s->t σ H Q->
  wpAny (model X.prog X.w) X.A (evalPart e X.env) (fun u s'=> ∃o H',Inv X pins σ H' s'/\IsPart u o/\Q o H') X.xe s
def d0k:TO:=fun _ H Q=>Q none H
def tPart(t:TE):TO:=fun σ H Q=>t σ H fun x H1=> ∃i,x= .int i/\Q (some i) H1
section
variable{X:Cx}{e:Expr}{te:TE}{lo hi:Option Expr}{tl th:TO}{pos p2:Pos}
theorem d0l:PO X none d0k:=by
 intro pins s σ H Q I h
 rw[evalPart_none]
 exact a0F ⟨none,H,I,.none,h⟩
theorem d0m(h:PE X e te):PO X (some e) (tPart te):=by
 intro pins s σ H Q I hw
 rw[evalPart_some]
 refine thn (h pins s σ H _ I hw) fun u s1 ⟨x,H1,I1,r1,q1⟩=>?_
 obtain⟨i,rfl,q⟩:=q1
 obtain⟨t,rfl⟩:=r1
 exact⟨some i,H1,I1,.int i t,q⟩
def SlR(X:Cx)(r:V->Option Int->Option Int->Hp->VK->Prop):Prop:=
 ∀(pins:AO) (s:Sh) (σ:St) (H:Hp) (x:V) (v vl vu:Vl) (lo hi:Option Int) (sl:Addr) (Q:VK),Inv X pins σ H s->RelV x v->s.heap.IsSliceOf sl vl vu .none->IsPart vl lo->IsPart vu hi->r x lo hi H Q->
  ∃T id,typeLookup (.type T) "__getitem__"=pure (some (.builtin id))/\s.TypeIs v T/\wpAny (model X.prog X.w) X.A (getItem v (.ref sl)) (EP X pins σ Q) X.xe s
def tSl(r:V->Option Int->Option Int->Hp->VK->Prop)(te:TE)(tl th:TO):TE:=fun σ H Q=>te σ H fun x H1=>tl σ H1 fun l H2=>th σ H2 fun u H3=>r x l u H3 Q
theorem c6m{r:V->Option Int->Option Int->Hp->VK->Prop}(hr:SlR X r)(he:PE X e te)(hl:PO X lo tl)(hu:PO X hi th):PE X (.Subscript e (.Slice lo hi none p2) pos) (tSl r te tl th):=by
 intro pins s σ H Q I h
 refine Subscript_ (thn (he pins s σ H _ I h) fun v s1 ⟨x,H1,I1,r1,q1⟩=>?_)
 refine wpAny_Slice (thn (hl pins s1 σ H1 _ I1 q1) fun vl s2 ⟨l,H2,I2,pl,q2⟩=>thn (hu pins s2 σ H2 _ I2 q2) fun vu s3 ⟨u,H3,I3,pu,q3⟩=>?_)
 rw[evalPart_none]
 refine a0F ?_
 have I4:Inv X pins σ H3 {s3 with heap:=s3.heap.push {cls:= .type "slice",data:= .fields #[vl,vu,.none]}}:=I3.kept (t':=s3.toks) fun b ob q=>a0I _ q
 obtain⟨T,id,hT,ht,hg⟩:=hr pins {s3 with heap:=s3.heap.push {cls:= .type "slice",data:= .fields #[vl,vu,.none]}} σ H3 x v vl vu l u s3.heap.objs.size Q I4 r1 (Heap.IsSliceOf.new ..) pl pu q3
 show wpAny (model X.prog X.w) X.A (subscriptTail e (.Slice lo hi none p2) v (.ref s3.heap.objs.size)) (EP X pins σ Q) X.xe {s3 with heap:=s3.heap.push {cls:= .type "slice",data:= .fields #[vl,vu,.none]}}
 exact tail_any (ops:=[.ref s3.heap.objs.size,v]) ht hT hg (by with_unfolding_all rfl)
def d0n(xs:List V)(lo hi:Option Int):List V:=(xs.drop (HT.sIx xs.length 0 lo)).take (HT.sIx xs.length xs.length hi-HT.sIx xs.length 0 lo)
theorem b5i(xs:List V)(lo hi:Option Int):(d0n xs lo hi).length<=xs.length:=by
 unfold d0n
 rw[a1N,a4P]
 lia
def rSlT(K:W.Frag):V->Option Int->Option Int->Hp->VK->Prop:=fun x lo hi H Q=> ∃a xs,x= .ref a/\SqT K H a xs/\
 ¬(HT.sIx xs.length 0 lo=0/\HT.sIx xs.length xs.length hi=xs.length)/\ ∀p,H p=none->Q (.ref p) (upd H p (.tup (d0n xs lo hi)))
theorem d2z:SlR X (rSlT X.K):=by
 intro pins s σ H x v vl vu lo hi sl Q I rx hs pl pu h
 obtain⟨a,xs,rfl,hx,hw,q⟩:=h
 cases rx
 obtain⟨its,r,ht,hz⟩:=I.tuple hx
 have hlen:its.toArray.size=xs.length:=by rw[a0U];exact r.length.symm
 refine⟨"tuple",_,a2U.lookup,ht.typeIs,?_⟩
 refine HT.getItem_tuple_cut ht hs pl pu (by rw[hlen];exact hw) ?_ (by rw[hlen];exact hz)
 rw[hlen]
 refine⟨.ref s.heap.objs.size,_,I.laid (t':=s.toks) (o:= .tup (d0n xs lo hi)) (fun b ob q=>a0I _ q) (a0J _) ?_,rfl,q _ (I.hok.fresh (a0J _))⟩
 exact⟨a0Y (b5i xs lo hi) hz,_,(r.drop (HT.sIx xs.length 0 lo)).take (HT.sIx xs.length xs.length hi-HT.sIx xs.length 0 lo),TupD.new _ _⟩
end
def ixN(n:Nat)(i:Int):Option Nat:=if 0<=i then(if i<n then some i.toNat else none)else if -(n:Int)<=i then some (i+n).toNat else none
def atI{α:Type}(xs:List α)(i:Int):Option α:=(ixN xs.length i).bind fun j=>xs[j]?
theorem c1m{n:Nat}{i:Int}{j:Nat}(h:ixN n i=some j):seqIndex? i n=some j/\j<n/\ -(n:Int)<=i/\i<n:=by
 unfold ixN at h
 by_cases h0:0<=i
 ·rw[if_pos h0]at h
  by_cases h1:i<n
  ·rw[if_pos h1]at h
   have e:i.toNat=j:=a1U h;exact⟨by rw[seqIndex_of h0 h1,e],by lia,by lia,h1⟩
  ·rw[if_neg h1]at h;cases h
 ·rw[if_neg h0]at h
  by_cases h1: -(n:Int)<=i
  ·rw[if_pos h1]at h
   have e:(i+n).toNat=j:=a1U h;exact⟨by rw[seqIndex_neg (by lia) h1,e],by lia,h1,by lia⟩
  ·rw[if_neg h1]at h;cases h
theorem c1n{α:Type}{xs:List α}{i:Int}{v:α}(h:atI xs i=some v): ∃j,seqIndex? i xs.length=some j/\xs[j]? =some v/\j<xs.length/\ -(xs.length:Int)<=i/\i<xs.length:=by
 unfold atI at h
 cases e:ixN xs.length i with
 |none=>rw[e]at h;cases h
 |some j=>
  rw[e]at h
  obtain⟨h1,h2,h3,h4⟩:=c1m e
  exact⟨j,h1,h,h2,h3,h4⟩
theorem a3r{α:Type}{xs:List α}{j:Nat}{v:α}(h:xs[j]? =some v):atI xs (j:Int)=some v:=by
 have hj:j<xs.length:=(a0B.mp h).1
 have e:ixN xs.length (j:Int)=some j:=by
  unfold ixN
  rw[if_pos (by lia),if_pos (by lia)];simp
 unfold atI;rw[e];exact h
def d0o(b:Expr):Prop:= ∀o i,subscripted b false o i=operate [o,i] (getItem o i)
def IxR(X:Cx)(r:R2):Prop:=
 ∀(value slice:Expr) (pins:AO) (s:Sh) (σ:St) (H:Hp) (x y:V) (v u:Vl) (Q:VK),Inv X pins σ H s->RelV x v->RelV y u->r x y H Q->
  subscripted slice false v u=operate [v,u] (getItem v u)->wpAny (model X.prog X.w) X.A (subscriptTail value slice v u) (EP X pins σ Q) X.xe s
def MtR(X:Cx)(id:String)(r:V->List V->Hp->VK->Prop):Prop:=
 ∀(pins:AO) (s:Sh) (σ:St) (H:Hp) (x:V) (xs:List V) (v:Vl) (us:Vs) (Q:VK),Inv X pins σ H s->RelV x v->Vals xs us->r x xs H Q->
  wpAny (model X.prog X.w) X.A (call (.builtin id) (v::us)) (EP X pins σ Q) X.xe s
section
variable{X:Cx}{a b:Expr}{ta tb:TE}{pos:Pos}
theorem a1h{r:R2}(hr:IxR X r)(ha:PE X a ta)(hb:PE X b tb)(hs:d0o b):PE X (.Subscript a b pos) (tOp r ta tb):=by
 intro pins s σ H Q I h
 exact Subscript_ (binT ha hb I h fun v u s2 x y H2 I2 rx ry q=>hr a b pins s2 σ H2 x y v u Q I2 rx ry q (hs _ _))
def rIxL(K:W.Frag):R2:=fun x y H Q=> ∃p xs i v,x= .ref p/\y= .int i/\SqL K H p xs/\atI xs i=some v/\Q v H
def rIxT(K:W.Frag):R2:=fun x y H Q=> ∃p xs i v,x= .ref p/\y= .int i/\SqT K H p xs/\atI xs i=some v/\Q v H
theorem a2f:IxR X (rIxL X.K):=by
 intro value slice pins s σ H x y v u Q I rx ry h hs
 obtain⟨p,xs,i,z,rfl,rfl,hq,he,q⟩:=h
 cases rx
 obtain⟨t,rfl⟩:=ry
 obtain⟨its,r,pl,hz⟩:=I.list hq
 obtain⟨j,h1,h2,h3,h4,h5⟩:=c1n he
 obtain⟨w,ew,rw'⟩:=r.get h2
 have hl:=r.length
 have hn:=b3l
 have fin:EP X pins σ Q w s:=⟨z,H,I,rw',q⟩
 by_cases h0:0<=i
 ·have hj:i.toNat=j:=by
   rw[seqIndex_of h0 h5]at h1;exact a1U h1
  exact item_listR pl.isList h0 (by lia) (by rw[hj];simpa using ew) fin hs
 ·have hj:(i+(its.toArray.size:Int)).toNat=j:=by
   rw[seqIndex_neg (by lia) h4]at h1;rw[a0U,<-hl];exact a1U h1
  exact subscriptTail_builtinR (x:=w) pl.isList.typeIs slot_list_getitem.lookup
   (wpAny_getItem_list_neg (Q:=fun r s'=>r=w/\EP X pins σ Q r s') pl.isList (by lia) (by rw[a0U]<;>lia) (by lia) (by rw[hj];simpa using ew) ⟨rfl,fin⟩) hs
theorem a1k:IxR X (rIxT X.K):=by
 intro value slice pins s σ H x y v u Q I rx ry h hs
 obtain⟨p,xs,i,z,rfl,rfl,hq,he,q⟩:=h
 cases rx
 obtain⟨t,rfl⟩:=ry
 obtain⟨its,r,pl,hz⟩:=I.tuple hq
 obtain⟨j,h1,h2,h3,h4,h5⟩:=c1n he
 obtain⟨w,ew,rw'⟩:=r.get h2
 have hl:=r.length
 have hn:=b3l
 have fin:EP X pins σ Q w s:=⟨z,H,I,rw',q⟩
 exact subscriptTail_builtinR (x:=w) pl.typeIs slot_tuple_getitem.lookup
  (getItem_tuple (j:=j) (Q:=fun r s'=>r=w/\EP X pins σ Q r s') pl (by lia) (by lia) (by rw[a0U,<-hl];exact h1) (by simpa using ew) ⟨rfl,fin⟩) hs
theorem b9m(its:Vs)(n j:Nat)(u:Vl):Obj.mapSeq (·.setIfInBounds j u) {cls:= .type "list",data:= .seq its.toArray n}={cls:= .type "list",data:= .seq (its.set j u).toArray n}:=by
 simp[Obj.mapSeq]
theorem Inv.lst{pins:AO}{σ:St}{H:Hp}{s:Sh}{p:Addr}{xs:List V}(I:Inv X pins σ H s)(h:H p=some (.lst xs)):
  ∃(its:Vs) (n:Nat),Vals xs its/\s.heap.get? p=some {cls:= .type "list",data:= .seq its.toArray n}/\xs.length<=sizeLine:=by
 obtain⟨z,its,n,r,e⟩:=I.hok p _ h
 exact⟨its,n,r,e,z⟩
theorem Inv.lstUpd{pins:AO}{σ:St}{H:Hp}{s:Sh}{p:Addr}{xs ys:List V}{its its':Vs}{n n':Nat}{f:Obj->Obj}(I:Inv X pins σ H s)(h:H p=some (.lst xs))
  (ho:s.heap.get? p=some {cls:= .type "list",data:= .seq its.toArray n}) (hf:f {cls:= .type "list",data:= .seq its.toArray n}={cls:= .type "list",data:= .seq its'.toArray n'}) (r:Vals ys its') (hz:ys.length<=sizeLine) (t:Nat):
  Inv X pins σ (upd H p (.lst ys)) {s with heap:=s.heap.update p f,toks:=t}:=by
 have e:(s.heap.update p f).get? p=some {cls:= .type "list",data:= .seq its'.toArray n'}:=by
  rw[a4A f ho (by rw[hf]<;>rfl),hf]
 refine I.write (x:=p) (e:=p) (by rw[h];trivial) (.inl rfl) (fun b u hb q=>(a1S _ _ (a3K hb)).trans q) ⟨_,e⟩ ?_
 exact⟨hz,its',n',r,e⟩
def rSetL:V->V->V->Hp->(Hp->Prop)->Prop:=fun o i v H Q=> ∃p xs k j,o= .ref p/\i= .int k/\H p=some (.lst xs)/\ixN xs.length k=some j/\Q (upd H p (.lst (xs.set j v)))
theorem a8d:PSet X rSetL:=by
 intro pins s σ H o i v ov iv u Q I ro ri rv h
 obtain⟨p,xs,k,j,rfl,rfl,hp,hj,q⟩:=h
 cases ro
 obtain⟨t,rfl⟩:=ri
 obtain⟨its,n,r,ho,hz⟩:=I.lst hp
 obtain⟨h1,h2,h3,h4⟩:=c1m hj
 have hl:=r.length
 have hn:=b3l
 have I':Inv X pins σ (upd H p (.lst (xs.set j v))) {s with heap:=s.heap.update p (Obj.mapSeq (·.setIfInBounds j u))}:=
  I.lstUpd hp ho (b9m its n j u) (r.set rv j) (by rw[a5B];exact hz) s.toks
 by_cases h0:0<=k
 ·have hk:k.toNat=j:=by
   rw[seqIndex_of h0 h4]at h1;exact a1U h1
  exact PySem.W.ki_setAt ho h0 (by lia) (by rw[a0U,<-hl];exact h4) (by rw[hk];exact⟨_,I',q⟩)
 ·have hk:(k+(its.toArray.size:Int)).toNat=j:=by
   rw[seqIndex_neg (by lia) h3]at h1;rw[a0U,<-hl];exact a1U h1
  exact PySem.W.ki_setBack ho (by lia) (by rw[a0U,<-hl];exact h3) (by lia) (by rw[hk];exact⟨_,I',q⟩)
def a4p:V->Bool
 | .non=>true
 | .bl _=>true
 | .int _=>true
 | .str _=>true
 |_=>false
def eqV:V->V->Bool
 | .non,.non=>true
 | .bl a,.bl b=>a==b
 | .bl a,.int b=>(if a then 1 else 0)==b
 | .int a,.bl b=>a==(if b then 1 else 0)
 | .int a,.int b=>a==b
 | .str a,.str b=>a==b
 |_,_=>false
theorem b7l{A:Ar}{s:Sh}{y x:V}{u v:Vl}(ry:RelV y u)(rx:RelV x v)(fy:a4p y=true)(fx:a4p x=true):SeqAt.EqAt A s u v (eqV y x):=by
 cases y with
 |non=>
  cases ry
  cases x with
  |non=>cases rx;exact SeqAt.EqAt.same _
  |bl b=>cases rx;exact SeqAt.EqAt.none_bool b
  |int b=>obtain⟨t,rfl⟩:=rx;exact SeqAt.EqAt.none_int b t
  |str b=>obtain⟨t,rfl⟩:=rx;exact SeqAt.EqAt.none_str b t
  |_=>exact absurd (show false=true from fx) a1M
 |bl a=>
  cases ry
  cases x with
  |non=>cases rx;exact SeqAt.EqAt.bool_none a
  |bl b=>cases rx;exact SeqAt.EqAt.bool_bool a b
  |int b=>obtain⟨t,rfl⟩:=rx;exact SeqAt.EqAt.bool_int a b t
  |str b=>obtain⟨t,rfl⟩:=rx;exact SeqAt.EqAt.bool_str a b t
  |_=>exact absurd (show false=true from fx) a1M
 |int a=>
  obtain⟨t',rfl⟩:=ry
  cases x with
  |non=>cases rx;exact SeqAt.EqAt.int_none a t'
  |bl b=>cases rx;exact SeqAt.EqAt.int_bool a t' b
  |int b=>obtain⟨t,rfl⟩:=rx;exact SeqAt.EqAt.int_int a t' b t
  |str b=>obtain⟨t,rfl⟩:=rx;exact SeqAt.EqAt.int_str a t' b t
  |_=>exact absurd (show false=true from fx) a1M
 |str a=>
  obtain⟨t',rfl⟩:=ry
  cases x with
  |non=>cases rx;exact SeqAt.EqAt.str_none a t'
  |bl b=>cases rx;exact SeqAt.EqAt.str_bool a t' b
  |int b=>obtain⟨t,rfl⟩:=rx;exact SeqAt.EqAt.str_int a t' b t
  |str b=>obtain⟨t,rfl⟩:=rx;exact SeqAt.EqAt.str_str a t' b t
  |_=>exact absurd (show false=true from fx) a1M
 |_=>exact absurd (show false=true from fy) a1M
def eqU(x:V)(u:Vl):Bool:=match u with
 | .none=>eqV .non x
 | .bool b=>eqV (.bl b) x
 | .int i _=>eqV (.int i) x
 | .str z _=>eqV (.str z) x
 |_=>false
theorem c8u{x y:V}{u:Vl}(r:RelV y u)(f:a4p y=true):eqU x u=eqV y x:=by
 cases y with
 |non=>cases r;rfl
 |bl b=>cases r;rfl
 |int i=>obtain⟨t,rfl⟩:=r;rfl
 |str z=>obtain⟨t,rfl⟩:=r;rfl
 |_=>exact absurd (show false=true from f) a1M
theorem b5j{x:V}: ∀{xs:List V} {us:Vs},Vals xs us->xs.all a4p=true->us.any (eqU x)=xs.any fun y=>eqV y x
 |_,_,.nil,_=>rfl
 |y::xs,u::us,.cons r t,f=>by
  rw[List.all_cons,a2Y]at f
  rw[a6Q,a6Q,c8u r f.1,b5j t f.2]
theorem b1k{A:Ar}{s:Sh}{x:V}{v:Vl}(rx:RelV x v)(fx:a4p x=true): ∀{xs:List V} {us:Vs},Vals xs us->xs.all a4p=true-> ∀u∈us,SeqAt.EqAt A s u v (eqU x u)
 |_,_,.nil,_=>fun u hu=>by cases hu
 |y::xs,u::us,.cons r t,f=>fun u' hu=>by
  rw[List.all_cons,a2Y]at f
  rcases a1C.mp hu with rfl|hu
  ·rw[c8u r f.1];exact b7l r rx f.1 fx
  ·exact b1k rx fx t f.2 u' hu
def inV(x:V)(xs:List V):Bool:=xs.any fun y=>eqV y x
def rIn(K:W.Frag)(neg:Bool):R2:=fun x y H Q=> ∃p xs,y= .ref p/\(SqL K H p xs∨SqT K H p xs)/\a4p x=true/\xs.all a4p=true/\Q (.bl (if neg then !inV x xs else inV x xs)) H
theorem c1o:OpR X (compareOp .In) (rIn X.K false):=by
 intro pins s σ H x y v u Q I rx ry h
 obtain⟨p,xs,rfl,hq,fx,fs,q⟩:=h
 cases ry
 rcases hq with hq|hq
 ·obtain⟨its,r,pl,hz⟩:=I.list hq
  refine SeqAt.in_listAt (eqU x) pl.isList (fun w hw=>b1k rx fx r fs w (by simpa using hw)) ⟨.bl _,H,I,rfl,?_⟩
  rw[show its.toArray.any (eqU x)=its.any (eqU x) by simp,b5j r fs]
  exact q
 ·obtain⟨its,r,pl,hz⟩:=I.tuple hq
  refine SeqAt.in_tupleAt (eqU x) pl (fun w hw=>b1k rx fx r fs w (by simpa using hw)) ⟨.bl _,H,I,rfl,?_⟩
  rw[show its.toArray.any (eqU x)=its.any (eqU x) by simp,b5j r fs]
  exact q
theorem a0l:a5o X (.builtin "len") (fun xs H Q=> ∃p ys,xs=[.ref p]/\(SqL X.K H p ys∨SqT X.K H p ys)/\Q (.int ys.length) H):=by
 intro pins s σ H xs us Q I r h
 obtain⟨p,ys,rfl,hq,q⟩:=h
 obtain⟨u,rfl,rx⟩:=a5q r
 cases rx
 have hn:=b3l
 rcases hq with hq|hq
 ·obtain⟨its,r',pl,hz⟩:=I.list hq
  have hlen:=r'.length
  exact Calls.call_len_list pl.isList (by simp only[List.size_toArray]<;>lia) ⟨.int ys.length,H,I.tok _,⟨s.toks+1,by rw[List.size_toArray,hlen]⟩,q⟩
 ·obtain⟨its,r',pl,hz⟩:=I.tuple hq
  have hlen:=r'.length
  exact len_tuple pl (by simp only[List.size_toArray]<;>lia) ⟨.int ys.length,H,I.tok _,⟨s.toks+1,by rw[List.size_toArray,hlen]⟩,q⟩
theorem a2g:a5o X (.type "tuple") (fun xs H Q=> ∃p ys,xs=[.ref p]/\((SqL X.K H p ys/\ ∀l,H l=none->Q (.ref l) (upd H l (.tup ys)))∨(SqT X.K H p ys/\Q (.ref p) H))):=by
 intro pins s σ H xs us Q I r h
 obtain⟨p,ys,rfl,h⟩:=h
 obtain⟨u,rfl,rx⟩:=a5q r
 cases rx
 rcases h with⟨hq,q⟩|⟨hq,q⟩
 ·obtain⟨its,r',pl,hz⟩:=I.list hq
  have hlen:=r'.length
  refine call_tuple_list pl.isList (fun h' kp=>?_) (by simp only[List.size_toArray]<;>lia)
  have I1:Inv X pins σ H {s with heap:=h'}:=I.kept (t':=s.toks) kp
  have I2:Inv X pins σ (upd H h'.objs.size (.tup ys)) {s with heap:=h'.push {cls:= .type "tuple",data:= .seq its.toArray}}:=
   I1.laid (t':=s.toks) (fun b o e=>a0I _ e) (a0J _) (show ObjOk X.prog X.w _ _ _ (.tup ys)from⟨hz,its,r',TupD.new _ _⟩)
  exact⟨.ref h'.objs.size,_,I2,rfl,q _ (I1.hok.fresh (a0J _))⟩
 ·obtain⟨its,r',pl,hz⟩:=I.tuple hq
  exact call_tuple_same pl ⟨.ref p,H,I,rfl,q⟩
def tyV(K:W.Frag)(T:String)(x:V)(H:Hp):Prop:=match x with
 | .str _=>T="str"
 | .int _=>T="int"
 | .ref p=>(T="list"/\ ∃xs,SqL K H p xs)∨(T="tuple"/\ ∃o,K.lookup p=some o/\o.cls= .type "tuple"/\o.dict=none)∨
   (T="dict"/\((∃kvs,H p=some (.dK kvs))∨ ∃kvs,H p=some (.dT kvs)))∨(T="set"/\ ∃S n,H p=some (.set S n))
 |_=>False
theorem c8v{pins:AO}{σ:St}{H:Hp}{s:Sh}{T:String}{x:V}{v:Vl}(I:Inv X pins σ H s)(r:RelV x v)(ty:tyV X.K T x H):
  s.TypeIs v T/\ ∀a,v= .ref a-> ∃ob,s.heap.get? a=some ob/\ob.dict=none:=by
 cases x with
 |str z=>
  obtain⟨t,rfl⟩:=r
  cases(show T="str" from ty)
  exact⟨typeIs_str s z t,fun _ e=>nomatch e⟩
 |int i=>
  obtain⟨t,rfl⟩:=r
  cases(show T="int" from ty)
  exact⟨typeIs_int s i t,fun _ e=>nomatch e⟩
 | ref p=>
  cases r
  rcases ty with⟨rfl,xs,hq⟩|⟨rfl,o,hk,hc,hd⟩|⟨rfl,hk⟩|⟨rfl,S,n,hk⟩
  ·obtain⟨its,_,pl,_⟩:=I.list hq
   refine⟨pl.isList.typeIs,fun a e=>?_⟩;cases e;obtain⟨o,n,e,c,hd,_⟩:=pl;exact⟨o,e,hd⟩
  ·refine⟨⟨o,I.kIn p o hk,hc⟩,fun a e=>?_⟩
   cases e;exact⟨o,I.kIn _ o hk,hd⟩
  ·have z: ∃o,s.heap.get? p=some o/\o.ExactDict:=by
    rcases hk with⟨kvs,hk⟩|⟨kvs,hk⟩
    ·obtain⟨_,_,_,_,o,_,_,e,ex,_⟩:=I.hok p _ hk
     exact⟨o,e,ex⟩
    ·obtain⟨_,_,_,_,o,_,_,e,ex,_⟩:=I.hok p _ hk
     exact⟨o,e,ex⟩
   obtain⟨o,e,ex⟩:=z;refine⟨⟨o,e,ex.1⟩,fun a e2=>?_⟩;cases e2;exact⟨o,e,ex.2.1⟩
  ·obtain⟨o,_,_,_,e,ex,_⟩:=I.hok p _ hk
   refine⟨⟨o,e,ex.1⟩,fun a e2=>?_⟩;cases e2;exact⟨o,e,ex.2.1⟩
 |_=>exact False.elim ty
def tBM0(K:W.Frag)(T:String)(r:V->List V->Hp->VK->Prop)(to:TE):TE:=fun σ H Q=>to σ H fun x H1=>tyV K T x H1/\r x [] H1 Q
def tBM(K:W.Frag)(T:String)(r:V->List V->Hp->VK->Prop)(to:TE)(t:TA):TE:=fun σ H Q=>to σ H fun x H1=>tyV K T x H1/\t σ H1 fun xs H2=>r x xs H2 Q
variable{o e:Expr}{es:List Expr}{to:TE}{t:TA}{name:Str}{apos cpos:Pos}{T id:String}{r:V->List V->Hp->VK->Prop}
theorem d3a(pa:PlainAttrs T)(slot:Slot T name id)(hty:typeOf (.builtin id)=pure (.type "method_descriptor"))(hm:MtR X id r)(ho:PE X o to)
  (hbase:attributeBase o name X.env (eval o X.env)=eval o X.env:=by rfl) (hline:(apos.endLine==cpos.line)=true:=by rfl):PE X (.Call (.Attribute o name apos) [] [] cpos) (tBM0 X.K T r to):=by
 intro pins s σ H Q I h
 refine wpAny_Call_method0_late hbase hline (thn (ho pins s σ H _ I h) fun v s1 ⟨x,H1,I1,r1,ty,q1⟩=>?_)
 obtain⟨h1,h2⟩:=c8v I1 r1 ty
 exact⟨T,id,pa,slot,hty,h1,h2,Calls.callWith_builtin rfl (PySem.evalArgs_none (hm pins s1 σ H1 x [] v [] Q I1 r1 .nil q1))⟩
theorem a6x(pa:PlainAttrs T)(slot:Slot T name id)(hty:typeOf (.builtin id)=pure (.type "method_descriptor"))(hm:MtR X id r)(ho:PE X o to)(ha:PA X (e::es) t)
  (hbase:attributeBase o name X.env (eval o X.env)=eval o X.env:=by rfl)
  (hfew:((backTo cpos (starEach (e::es) X.env)).all (fun x=> !x.1)&&(backToKw cpos (keywordEach [] X.env)).all (fun x=>x.1.isSome)
   &&decide ((e::es).length+([]:List Keyword).length+(if([]:List Keyword).isEmpty then 0 else 1)<30))=true:=by rfl)
  (hline:(apos.endLine==cpos.line)=true:=by rfl) (hs:starEach (e::es) X.env=(false,eval e X.env)::starEach es X.env:=by rfl) (hplain:(backTo cpos (starEach es X.env)).any (·.1)=false:=by rfl):
  PE X (.Call (.Attribute o name apos) (e::es) [] cpos) (tBM X.K T r to t):=by
 intro pins s σ H Q I h
 refine wpAny_Call_method_late hbase hfew hline rfl (thn (ho pins s σ H _ I h) fun v s1 ⟨x,H1,I1,r1,ty,q1⟩=>?_)
 obtain⟨h1,h2⟩:=c8v I1 r1 ty
 refine⟨T,id,pa,slot,hty,h1,h2,?_⟩
 have hA:=ha cpos pins s1 σ H1 _ I1 q1
 rw[hs]at hA⊢
 refine Calls.callWith_builtin (by show(false || (backTo cpos (starEach es X.env)).any (·.1))=false;rw[hplain]<;>rfl) (Calls.evalArgs_plain ?_)
 exact thn hA fun us s2 ⟨vs,H2,I2,r2,q2⟩=>hm pins s2 σ H2 x vs v us Q I2 r1 r2 q2
/-xs.append(e),list.index on a module's tuple .. are MtR facts of 06m-/
end
def MtM(X:Cx)(id:String)(r:V->List V->Hp->VK->Prop):Prop:=
 ∀(pins:AO) (s:Sh) (σ:St) (H:Hp) (x:V) (xs:List V) (v:Vl) (us:Vs) (Q:VK),Inv X pins σ H s->RelV x v->Vals xs us->r x xs H Q->
  wpAny (model X.prog X.w) X.A (call (.builtin id) (v::us)) (EP X pins σ Q) X.xe s
theorem Vals.one: ∀{x:V} {us:Vs},Vals [x] us-> ∃u,us=[u]/\RelV x u
 |_,_,.cons r .nil=>⟨_,rfl,r⟩
theorem Vals.rep{xs:List V}{us:Vs}(h:Vals xs us): ∀k:Nat,Vals (List.replicate k xs).flatten (List.replicate k us).flatten
 |0=> .nil
 |k+1=>by
  rw[a5I,a5I,a7F,a7F]
  exact Vals.append h (Vals.rep h k)
theorem b3q(its:Vs): ∀(k:Nat) (acc:Vs),
  List.foldl (fun x1 x2=>x1++x2) acc.toArray (List.replicate k its.toArray)=(acc++(List.replicate k its).flatten).toArray
 |0,acc=>by simp
 | k+1,acc=>by
  have e:acc.toArray++its.toArray=(acc++its).toArray:=by simp
  have e2:(acc++its)++(List.replicate k its).flatten=acc++(List.replicate (k+1) its).flatten:=by
   rw[a5I,a7F,a1H]
  rw[<-e2,<-b3q its k (acc++its),<-e,a5I,a9D]
section
variable{X:Cx}{pins:AO}{σ:St}{H:Hp}{s:Sh}{l b:Addr}{xs ys zs:List V}
theorem Inv.lset{its its':Vs}{n:Nat}{f:AV->Array Vl}{t':Nat}(I:Inv X pins σ H s)(hH:H l=some (.lst xs))
  (e:s.heap.get? l=some {cls:= .type "list",data:= .seq its.toArray n}) (hf:f its.toArray=its'.toArray) (hv:Vals ys its') (hz:ys.length<=sizeLine):
  Inv X pins σ (upd H l (.lst ys)) {s with heap:=s.heap.update l (Obj.mapSeq f),toks:=t'}:=by
 have q:=PySem.IsL.update e f
 rw[hf]at q
 refine I.write (x:=l) (e:=l) (by rw[hH];exact trivial) (.inl rfl) (fun b' u hb hu=>(a1S s.heap (Obj.mapSeq f) (a3K hb)).trans hu) ⟨_,q⟩ ?_
 exact⟨hz,its',_,hv,q⟩
theorem Inv.lnew{its:Vs}{t':Nat}(I:Inv X pins σ H s)(hv:Vals ys its)(hz:ys.length<=sizeLine):
  Inv X pins σ (upd H s.heap.objs.size (.lst ys)) {s with heap:=s.heap.push {cls:= .type "list",data:= .seq its.toArray},toks:=t'}:=
 I.laid (fun _ _ q=>a0I _ q) (a0J _) ⟨hz,its,0,hv,a0V _ rfl⟩
theorem Inv.fresh(I:Inv X pins σ H s):H s.heap.objs.size=none:=I.hok.fresh (a0J _)
theorem Inv.lstM(I:Inv X pins σ H s)(hH:H l=some (.lst xs)):xs.length<=sizeLine/\ ∃(its:Vs) (n:Nat),Vals xs its/\xs.length=its.length/\s.heap.get? l=some {cls:= .type "list",data:= .seq its.toArray n}:=by
 obtain⟨z,its,n,r,e⟩:=I.hok l _ hH
 exact⟨z,its,n,r,r.length,e⟩
theorem c6n{n:Nat}(h:n<=sizeLine):Builtin.List.listTooLong n=false:=by
 unfold Builtin.List.listTooLong
 exact a1L (by lia)
end
section
variable{X:Cx}
def c1p:V->List V->Hp->VK->Prop:=fun x vs H Q=> ∃l xs y,x= .ref l/\vs=[y]/\H l=some (.lst xs)/\xs.length<sizeLine/\Q .non (upd H l (.lst (xs++[y])))
theorem a1l:MtM X "list.append" c1p:=by
 intro pins s σ H x vs v us Q I rx rv h
 obtain⟨l,xs,y,rfl,rfl,hH,hz,q⟩:=h
 cases rx
 obtain⟨u,rfl,ru⟩:=rv.one
 obtain⟨z,its,n,r,hl,e⟩:=I.lstM hH
 refine call_meets F.slot_list_append ⟨_,e,rfl⟩ F.entry_list_append (F.args_list_append_2 _ _) (PySem.list_append l its.toArray n u (by rw[a0U];lia)) ⟨e,?_⟩
 refine⟨.non,_,I.lset (its':=its++[u]) hH e (by simp) (r.append (.cons ru .nil)) ?_,rfl,q⟩
 rw[a0M,a4S]
 lia
def rRep:R2:=fun x y H Q=> ∃l k xs,x= .ref l/\y= .int k/\H l=some (.lst xs)/\ -(2 ^ 63)<=k/\k<2 ^ 63/\xs.length * k.toNat<=sizeLine/\
 ∀p,H p=none->Q (.ref p) (upd H p (.lst (List.replicate k.toNat xs).flatten))
theorem d0p{α:Type}(xs:List α)(k:Nat):(List.replicate k xs).flatten.length=k * xs.length:=by
 induction k with
 |zero=>simp
 |succ k ih=>rw[a5I,a7F,a0M,ih,Nat.succ_mul,a9E]
theorem d3b:OpR X (binaryOp .Mult) rRep:=by
 intro pins s σ H x y v u Q I rx ry h
 obtain⟨l,k,xs,rfl,rfl,hH,h1,h2,hz,q⟩:=h
 cases rx
 obtain⟨t,rfl⟩:=ry
 obtain⟨z,its,n,r,hl,e⟩:=I.lstM hH
 have hlen:its.toArray.size * k.toNat<=sizeLine:=by rw[a0U,<-hl];exact hz
 have hcap: ¬its.toArray.size * k.toNat>(2 ^ 63-1) /8:=by
  have:(sizeLine:Nat)<=(2 ^ 63-1) /8:=by decide
  lia
 have hfit: ¬(!Builtin.List.listFitsIndex k)=true:=by
  rw[fitsIndex_both h1 h2]
  exact a1M
 have hlong: ¬Builtin.List.listTooLong (its.toArray.size * k.toNat)=true:=by
  rw[c6n hlen]
  exact a1M
 have hnew:List.foldl (fun x1 x2=>x1++x2) #[] (List.replicate (if its.toArray.isEmpty=true then 0 else k.toNat) its.toArray)=(List.replicate k.toNat its).flatten.toArray:=by
  have f0: ∀m:Nat,List.foldl (fun x1 x2=>x1++x2) #[] (List.replicate m its.toArray)=(List.replicate m its).flatten.toArray:=fun m=>by
   have:=b3q its m []
   rw[a9F]at this;exact this
  rw[f0]
  cases its with
  |nil=>simp
  |cons a r'=>rw[if_neg (by simp)]
 refine wpAny_binaryOp_repeat_ref (T:="list") (U:="int") (by decide) ⟨_,e,rfl⟩ (fun s'=>typeIs_int s' k t) noFill_list_mul F.fills_int_mul F.slot_int_rmul repeat_list F.slot_int_index.lookup
  (call_meets F.slot_int_rmul (typeIs_int s k t) F.entry_int_rmul (F.args_int_rmul_2 _ _) (int___rmul___int_list k t l its.toArray n)
   ⟨e,rfl,⟨_,e,rfl⟩,call_meets F.slot_list_mul ⟨_,e,rfl⟩ F.entry_list_mul (F.args_list_mul_2 _ _) (AutoListH.list___mul___list_int_3 l its.toArray n k t hfit hcap hlong) ⟨e,?_⟩⟩)
 rw[hnew]
 exact⟨.ref _,_,I.lnew (t':=s.toks) (r.rep k.toNat) (by rw[d0p,Nat.mul_comm];exact hz),rfl,q _ I.fresh⟩
end
end L2
namespace Att
open PySem PySem.W PySem.Calls PyProof.Rows
theorem a8z{P:Params}{h:Heap}: ∀(ns:Zs) (vs:Vs),WellAll P h vs (ns.map WData.int)->IntsAre vs ns:=by
 intro ns
 induction ns with
 |nil=>
  intro vs w
  rw[List.map_nil]at w
  cases w
  exact .nil
 | cons n ns ih=>
  intro vs w
  rw[a2I]at w
  cases w with
  |cons a b=>
   cases a;exact .cons _ _ (ih _ b)
theorem c1q{l:OpenLaw}{n:Nat}(hn:l.most=some n){P:Params}{h:Heap}{args:List WData}{vals:Vs}
  (hpre:l.row.toRowW.claim.pre args=true) (hwl:WellAll P h vals args):
  ∃a vs ns,vals=[Value.ref a]/\args=[WData.list (ns.map WData.int)]/\h.get? a=some {cls:= .type "list",data:= .seq vs.toArray}/\IntsAre vs ns/\ns.length<=n:=by
 have hsh:WShape.hasAll [] args [.list .int]=true:=(pre_splitW hpre).1
 have hc:l.pre.holds [] {args:=args}=true:=(pre_splitW hpre).2
 obtain⟨d,r,rfl,h1,h2⟩:=hasAllW_cons hsh
 obtain rfl:=hasAllW_nil h2
 obtain⟨xs,rfl,h3⟩:=hasW_list h1
 obtain⟨ns,rfl⟩:=items_int h3
 have hlen:ns.length<=n:=by
  unfold OpenLaw.pre at hc
  have h4:(WTm.not (.lt (.lit (.int (n:Int))) (.len (.arg 0)))).holds [] {args:=[.list (ns.map .int)]}=true:=by
   have h4:=(holds_andW hc).1;rw[hn]at h4;exact h4
  have h5:=condW_of h4 (w_not (w_lt w_lit (w_len_list (w_arg rfl))))
  rw[a0D]at h5
  refine a7U fun q=>?_
  have q':(n:Int)<((ns.length:Nat):Int):=by lia
  first
   |(rw[a1E q']at h5;exact absurd h5 (by decide))
   |(simp at h5;lia)
 cases hwl with
 |cons w1 w2=>
  cases w2
  cases w1 with
  |list ho hall=>exact⟨_,_,ns,rfl,rfl,ho,a8z ns _ hall,hlen⟩
theorem c1r(l:OpenLaw)(args:List WData):l.row.toRowW.claim.post args (.bool true) args=true:=
 postW_of (r:=l.row.toRowW) (X:=(true==true))
  (show WShape.has [] (.bool true) .bool=true by first|rfl|decide|simp[WShape.has,WShape.arms,WShape.armsAll])
  (show(WTm.eq .res (.lit (.bool true))).value [] {args:=args,res:=some (.bool true),after:=args}=some (.bool (true==true))from w_eq_bool (w_res rfl) w_lit) rfl
theorem attach_call{l:OpenLaw}{n:Nat}{q:Pg}{loose:Ss}{XP:SV->Heap->Prop}{YP:World->Heap->Prop}{d:DefRec}
  (hn:l.most=some n) (hdf:d.params.defaults=[])
  (call: ∀(w:World) (s₀ s₁:Sh) (mg mb:SV) (fa:Addr) (o:Obj) (pm cd doc:Vl) (a:Addr) (vs:Vs) (ns:Zs),
   Ground q loose [] XP w s₀ mg mb s₁.heap->YP w s₁.heap->
   s₁.heap.get? fa=some o->o.data= .func (docDef d.name d.params d.body d.scope pm cd doc)->s₁.heap.CodeRec cd d.name->mg d.name=some (.ref fa)->
   s₁.heap.get? a=some {cls:= .type "list",data:= .seq vs.toArray}->IntsAre vs ns->ns.length<=n->s₁.gens= #[]->
   codeAny (model l.prog w) callerA (.call (.ref fa) ⟨[.ref a],[]⟩) (fun r s'=>r= .ok (.ret (.bool true))/\OldK s₁.heap s'.heap/\s'.os=s₁.os/\AllBare s'.gens) s₁):
  WalkO q loose XP YP l.row.toRowW d [] (fun f vs=>PySem.call f vs):=by
 intro w s₀ s₁ mg mb G Y fa o pm cd doc dV kV ho hd hcd hD hmg hg args vals as hpre hlay hrd hwl hlo
 obtain rfl:dV= .none:=Dflts.none hD hdf
 obtain rfl:kV= .none:=Dflts.noKw hD
 obtain⟨a,vs,ns,rfl,rfl,hobj,hints,hlen⟩:=c1q hn hpre hwl
 refine enter_call (a5G (call w s₀ s₁ mg mb fa o pm cd doc a vs ns G Y ho (fd_plain hd) hcd hmg hobj hints hlen hg) fun r s' hq=>?_)
 obtain⟨rfl,h2,h3,h4⟩:=hq
 exact⟨.inl ⟨.bool true,.bool true,[],rfl,fun _=>rfl,.bool true,c1r l _,fun _=>⟨List.Pairwise.nil,fun _ hm=>(nomatch hm)⟩⟩,h2,h3,h4⟩
end Att
namespace L2
open PySem PySem.Spec PyProof.Rows
theorem b3r: ∀{vs:Vs} {ns:Zs},IntsAre vs ns->Vals (ns.map V.int) vs
 |_,_,.nil=> .nil
 |_,_,.cons n t h=> .cons ⟨t,rfl⟩ (b3r h)
abbrev KOf{K:W.Frag}{h:Heap}(_:K.In h):W.Frag:=K
end L2
/-THE LAST THEOREM (shape;LID,My.* are yours):
   My.Adr:a structure of the addresses that your layer names (classes,functions);My.Txt K t:a structure (Prop) of the equations over K;
   My.txt_mk:{K} {implicit addresses ..} (e1:nsIn K mainGlobals "law"=some (some (.ref f))) (e2:K.lookup f=some ⟨oc,od,.func (fnOf "law" "law" params body scope dV kV doc pm an cdv ct),sl⟩) (e3:codeIn K cdv "law"=true) .. : ∃t,My.Txt K t
set_option maxRecDepth 100000 in
set_option maxHeartbeats 0 in
theorem PySem.Challenge.cw_LID_holds:PySem.Challenge.rw_LID.Holds:=by
 w_on;o_law;k_head;(case hw=>w_witness2)
 k_fill
 refine L2.walk_of (l:=PySem.Challenge.rw_LID) (n:=63) (k:=40) (x:="script") (CX:=fun w=> ..) (sp:=fun _=>My.sp_law) rfl (by decide) rfl ⟨rfl,by decide,by decide⟩ (fun w h Y=>PySem.W.kIn_of Y) ?F ?S ?C
 case F=>
  intro w mg fa h KX G hmg
  have T: ∃t,My.Txt (L2.KOf KX) t:=by
   dsimp only[L2.KOf]--K must stand as «<heap const> w.params» for k_is
   refine' My.txt_mk ?e1 ?e2 ?e3 ..
   (case e1=>PySem.W.k_is)--in the order:a name->its address->its object->its parts
   (case e2=>PySem.W.k_is)
   ..
  obtain⟨t,T⟩:=T
  have e0:=hmg.symm.trans (PySem.W.mg_of KX G T.law)
  cases e0--fa is the law's own address
  exact⟨_,fun s u=> .of_eq rfl,fun base kb nb=>My.law_fn T kb nb⟩--if «.of_eq rfl» comes too early:refine'⟨_,?b,fun base kb nb=>My.law_fn T kb nb⟩;exact fun s u=> .of_eq rfl
 case S=>exact fun w H a ns hl hO hS=> ..
 case C=>exact ..
(the tactic k_is has no namespace:write k_is)-/
namespace L2
open PySem PySem.Spec PyProof.Rows
def a2o(s:Stmt):Arguments:=match s with
 | .FunctionDef _ a _ _ _ _ _ _ _ _=>a
 |_=>{posonlyargs:=[],args:=[],vararg:=none,kwonlyargs:=[],kw_defaults:=[],kwarg:=none,defaults:=[]}
def a1m(s:Stmt):List Stmt:=match s with
 | .FunctionDef _ _ b _ _ _ _ _ _ _=>b
 |_=>[]
def a0e(s:Stmt):Scope:=match s with
 | .FunctionDef _ _ _ _ _ _ sc _ _ _=>sc
 |_=>{kind:= .function,names:=[],isGenerator:=false,isCoroutine:=false}
abbrev CX0:CXT:=fun _ _ _ _ _ _=>False
abbrev E0:XK:=fun _ _ _=>False
theorem c6o{X:Cx}:b0l CX0 X E0:=fun _ _ _ _ _ _ _ h=>h.elim
structure Fun(K:W.Frag)(x qual:Str)(st:Stmt)(f:Addr)(fd:Fd):Prop where
 ex: ∃(oc:Vl) (od:Option Addr) (kV doc pm:Vl) (an:Option Addr) (cdv ct:Vl) (osl:Array (Option Vl)),
  fd=PySem.W.fnOf x qual (a2o st) (a1m st) (a0e st) .none kV doc pm an cdv ct/\K.lookup f=some ⟨oc,od,.func fd,osl⟩/\PySem.W.codeIn K cdv qual=true
 kp:PySem.W.keepIn K (.ref f)=true
section
variable{P:Pg}{w:World}{K:W.Frag}{mg:SV}{base:Heap}
theorem Fun.ok{x qual:Str}{st:Stmt}{f:Addr}{fd:Fd}{N ps:Ss}{k:Nat}{sp:Sp}(F:Fun K x qual st f fd)(S:FnScope N ps (a0e st))(len: ∀vs H Q E,sp vs H Q E->vs.length=ps.length)
  (hbody: ∀(cdv:Vl) (A:Ar) (outer:List Env) (s:Sh) (H:Hp) (vs:List V) (Q:VK) (E:XK),Room k (A.deeper (envOfC qual (a0e st) s.heap.objs.size f cdv))->sp vs H Q E->
   ∃t,PSs (d0j CX0 P w K mg base N qual (a0e st) f cdv A outer s H E).nox (a1m st) t/\t {nx:=fun _ H'=>Q .non H',rt:=Q} (start N vs) H):FnOk P w K mg base CX0 (k+1) f fd ps sp:=by
 obtain⟨oc,od,kV,doc,pm,an,cdv,ct,osl,rfl,lk,hcd⟩:=F.ex
 refine d2x lk hcd S len fun A outer s H vs Q E hr hsp=>?_
 obtain⟨t,h,q⟩:=hbody cdv A outer s H vs Q E hr hsp
 exact⟨t,h.nox,q⟩
theorem Fun.binds{x qual:Str}{st:Stmt}{f:Addr}{fd:Fd}{ps:Ss}(F:Fun K x qual st f fd)
  (h: ∀(kV doc pm:Vl) (an:Option Addr) (cdv ct:Vl) (us:Vs),us.length=ps.length->bindArgs (PySem.W.fnOf x qual (a2o st) (a1m st) (a0e st) .none kV doc pm an cdv ct) ⟨us,[]⟩=pure (ps.zip us)):Binds K fd ps []:=by
 obtain⟨oc,od,kV,doc,pm,an,cdv,ct,osl,rfl,lk,hcd⟩:=F.ex
 exact .all (h kV doc pm an cdv ct)
theorem b3s{x qual:Str}{st:Stmt}{f:Addr}{oc:Vl}{od an:Option Addr}{osl:Array (Option Vl)}{kV doc pm cdv ct:Vl}(l:K.lookup f=some ⟨oc,od,.func (PySem.W.fnOf x qual (a2o st) (a1m st) (a0e st) .none kV doc pm an cdv ct),osl⟩)
  (c:PySem.W.codeIn K cdv qual=true) (k:PySem.W.keepIn K (.ref f)=true):Fun K x qual st f (PySem.W.fnOf x qual (a2o st) (a1m st) (a0e st) .none kV doc pm an cdv ct):=⟨⟨oc,od,kV,doc,pm,an,cdv,ct,osl,rfl,l,c⟩,k⟩
end
theorem a7w{A:Ar}{k:Nat}(hr:Room k A):A.units+1<cLine:=a5U (a5J (by decide:1<=64) _) hr.units
theorem c1s{n:Nat}(h:n<=1000):n<sizeLine:=a5U h (by decide)
section
variable{X:Cx}
theorem pv(i:Nat){x:Str}{pos:Pos}(hN:X.N[i]? =some x:=by rfl)(hv:Vis X.env.scope x:=by first|exact Or.inl rfl|exact Or.inr (Or.inl rfl)|exact Or.inr (Or.inr rfl))(hd:(x==("__debug__":Str))=false:=by decide)
  (hcd:(x==("__classdict__":Str))=false:=by decide):PE X (.Name x pos) (a7l i):=d2j hN hv hd hcd
end
theorem b0d{A B:Prop}(h:B):if false=true then A else B:=by
 rw[if_neg a1M]
 exact h
theorem b0n{A B:Prop}(h:A):if true=true then A else B:=by
 rw[if_pos rfl]
 exact h
theorem c6p{c A B:Prop}[Decidable c](h1:c->A)(h2: ¬c->B):if c then A else B:=by
 by_cases h:c
 ·rw[if_pos h]
  exact h1 h
 ·rw[if_neg h]
  exact h2 h
def Same(H H':Hp):Prop:= ∀b o,H b=some o->H' b=some o
theorem Same.refl(H:Hp):Same H H:=fun _ _ h=>h
theorem Same.trans{H H1 H2:Hp}(a:Same H H1)(b:Same H1 H2):Same H H2:=fun c o h=>b c o (a c o h)
theorem Same.free{H H':Hp}(e:Same H H'){l:Addr}(h:H' l=Option.none):H l=Option.none:=by
 cases q:H l with
 |none=>rfl
 |some o=>
  rw[e l o q]at h
  cases h
theorem Same.seq{K:W.Frag}{H H':Hp}{a:Addr}{xs:List V}(e:Same H H')(h:SqL K H a xs):SqL K H' a xs:=by
 rcases h with(h|⟨o,h⟩)|h
 ·exact .inl (.inl (e _ _ h))
 ·exact .inl (.inr ⟨o,e _ _ h⟩)
 ·exact .inr h
section
variable{κ:Type}[DecidableEq κ]
def b1l(kvs:List (κ×V))(k:κ):Option V:=(kvs.find? fun kv=>decide (kv.1=k)).map (·.2)
def b3t(kvs:List (κ×V))(k:κ)(v:V):List (κ×V):=
 if(kvs.any fun kv=>decide (kv.1=k))=true then kvs.map (fun kv=>if kv.1=k then(kv.1,v)else kv)else kvs++[(k,v)]
theorem a8e{p:κ×V}{r:List (κ×V)}{k:κ}(e:p.1=k):b1l (p::r) k=some p.2:=by simp[b1l,List.find?_cons,e]
theorem a6c{p:κ×V}{r:List (κ×V)}{k:κ}(e: ¬p.1=k):b1l (p::r) k=b1l r k:=by simp[b1l,List.find?_cons,e]
theorem b1m(k:κ): ∀kvs:List (κ×V),(kvs.any fun kv=>decide (kv.1=k))=(b1l kvs k).isSome
 | []=>rfl
 |p::r=>by
  rw[a6Q]
  by_cases e:p.1=k
  ·simp only[a8e e,decide_eq_true e,Bool.true_or,Option.isSome_some]
  ·rw[a6c e,a1L e,Bool.false_or];exact b1m k r
theorem a9a(kvs:List (κ×V))(k:κ)(v:V):(b3t kvs k v).length<=kvs.length+1:=by
 unfold b3t
 split
 ·rw[a0D];lia
 ·rw[a0M,a2W,List.length_nil];lia
theorem b1n{kvs:List (κ×V)}{k:κ}(v:V)(h:b1l kvs k=none):b3t kvs k v=kvs++[(k,v)]:=by
 unfold b3t
 rw[b1m,h]
 exact if_neg (by decide)
theorem RelO.isSome_eq{o:Option V}{u:Option Vl}(r:RelO o u):o.isSome=u.isSome:=by
 cases o with
 |none=>cases u with
  |none=>rfl
  |some _=>exact(show False from r).elim
 |some _=>cases u with
  |none=>exact(show False from r).elim
  |some _=>rfl
theorem KV.val{kvs:List (κ×V)}{vs:List (κ×Vl)}(r:KV kvs vs)(k:κ):RelO (b1l kvs k) (valueAt vs k):=by
 unfold KV at r
 induction r with
 |nil=>exact True.intro
 | @cons p q ps qs h t ih=>
  obtain⟨h1,h2⟩:=h
  by_cases e:p.1=k
  ·have e':q.1=k:=h1.symm.trans e
   have b:valueAt (q::qs) k=some q.2:=by simp[valueAt,List.find?_cons,e']
   rw[a8e e,b];exact h2
  ·have e': ¬q.1=k:=fun z=>e (h1.trans z)
   have b:valueAt (q::qs) k=valueAt qs k:=by simp[valueAt,List.find?_cons,e']
   rw[a6c e,b];exact ih
theorem KV.any{kvs:List (κ×V)}{vs:List (κ×Vl)}(r:KV kvs vs)(k:κ):(kvs.any fun kv=>decide (kv.1=k))=vs.any fun kv=>decide (kv.1=k):=by
 unfold KV at r
 induction r with
 |nil=>rfl
 |cons h t ih=>rw[a6Q,a6Q,ih,h.1]
theorem KV.repl{kvs:List (κ×V)}{vs:List (κ×Vl)}(r:KV kvs vs)(k:κ){y:V}{u:Vl}(ry:RelV y u):
  KV (kvs.map fun kv=>if kv.1=k then(kv.1,y)else kv) (vs.map fun kv=>if kv.1=k then(kv.1,u)else kv):=by
 unfold KV at r⊢
 induction r with
 |nil=>exact .nil
 | @cons p q ps qs h t ih=>
  rw[a2I,a2I]
  refine .cons ?_ ih
  obtain⟨h1,h2⟩:=h
  by_cases e:p.1=k
  ·rw[if_pos e,if_pos (h1.symm.trans e)];exact⟨h1,ry⟩
  ·rw[if_neg e,if_neg (fun z=>e (h1.trans z))];exact⟨h1,h2⟩
theorem KV.put{kvs:List (κ×V)}{vs:List (κ×Vl)}(r:KV kvs vs)(k:κ){y:V}{u:Vl}(ry:RelV y u):KV (b3t kvs k y) (stored vs k u):=by
 unfold b3t stored
 rw[r.any k]
 by_cases e:(vs.any fun kv=>decide (kv.1=k))=true
 ·rw[if_pos e,if_pos e];exact r.repl k ry
 ·rw[if_neg e,if_neg e];exact Paired.snoc r ⟨rfl,ry⟩
theorem KV.length{kvs:List (κ×V)}{vs:List (κ×Vl)}(r:KV kvs vs):kvs.length=vs.length:=a4Q r
end
theorem c1t{P:Pg}{w:World}{k:Key}{u:Vl}(r:RelV (kV k) u):(a2d P w).is k u=true:=by
 cases k with
 |inl i=>obtain⟨t,e⟩:=(show ∃t,u=Value.int i t from r);subst e;exact b5f P w i t
 |inr x=>obtain⟨t,e⟩:=(show ∃t,u=Value.str x t from r);subst e;exact b5g P w x t
theorem b3u{P:Pg}{w:World}: ∀{ks:List Key} {us:Vs},Vals (ks.map kV) us->ItemsAre (a2d P w) ks us
 | [],_,r=>by rw[List.map_nil]at r;cases r;exact .nil
 |k::ks,_,r=>by
  rw[a2I]at r
  cases r with
  |cons h t=>exact .cons (c1t h) (b3u t)
abbrev KT(H:Hp):List (List Key×V)->List (List Key×Addr×Vl)->Prop:=Paired fun p q=>p.1=q.1/\H q.2.1=some (.tup (p.1.map kV))/\RelV p.2 q.2.2
theorem KT.val{H:Hp}{kvs:List (List Key×V)}{xs:List (List Key×Addr×Vl)}(r:KT H kvs xs)(k:List Key):RelO (b1l kvs k) ((atKey xs k).map (·.2)):=by
 induction r with
 |nil=>exact True.intro
 | @cons p q ps qs h t ih=>
  obtain⟨h1,_,h2⟩:=h
  by_cases e:p.1=k
  ·have e':q.1=k:=h1.symm.trans e
   have b:atKey (q::qs) k=some q.2:=by simp[atKey,List.find?_cons,e']
   rw[a8e e,b];exact h2
  ·have e': ¬q.1=k:=fun z=>e (h1.trans z)
   have b:atKey (q::qs) k=atKey qs k:=by simp[atKey,List.find?_cons,e']
   rw[a6c e,b];exact ih
theorem KT.repl{H:Hp}{kvs:List (List Key×V)}{xs:List (List Key×Addr×Vl)}(r:KT H kvs xs)(k:List Key){y:V}{u:Vl}(ry:RelV y u):
  KT H (kvs.map fun kv=>if kv.1=k then(kv.1,y)else kv) (xs.map (putAt k u)):=by
 induction r with
 |nil=>exact .nil
 | @cons p q ps qs h t ih=>
  rw[a2I,a2I]
  refine .cons ?_ ih
  obtain⟨h1,h2,h3⟩:=h
  unfold putAt
  by_cases e:p.1=k
  ·rw[if_pos e,if_pos (h1.symm.trans e)];exact⟨h1,h2,ry⟩
  ·rw[if_neg e,if_neg (fun z=>e (h1.trans z))];exact⟨h1,h2,h3⟩
theorem KT.put{H:Hp}{kvs:List (List Key×V)}{xs:List (List Key×Addr×Vl)}(r:KT H kvs xs)(k:List Key){b:Addr}{y:V}{u:Vl}(hb:H b=some (.tup (k.map kV)))(ry:RelV y u):
  KT H (b3t kvs k y) (storedH xs k b u):=by
 have e:(kvs.any fun kv=>decide (kv.1=k))=(atKey xs k).isSome:=by
  rw[b1m,(r.val k).isSome_eq,a8W]
 unfold b3t storedH
 rw[e]
 by_cases q:(atKey xs k).isSome=true
 ·rw[if_pos q,if_pos q];exact r.repl k ry
 ·rw[if_neg q,if_neg q];exact Paired.snoc r ⟨rfl,hb,ry⟩
theorem KT.keeps{H H':Hp}{kvs:List (List Key×V)}{xs:List (List Key×Addr×Vl)}(r:KT H kvs xs)(ht: ∀b ys,H b=some (.tup ys)->H' b=some (.tup ys)):KT H' kvs xs:=
 Paired.mapP r fun _ _ z=>⟨z.1,ht _ _ z.2.1,z.2.2⟩
section
variable{P:Pg}{w:World}{H:Hp}{h:Heap}{a:Addr}
theorem d3c{u:HO}(ok:HOk P w H h)(e:Rd H a u):ObjOk P w H h a u:=e.ok ok
theorem c1u{kvs:List (Key×V)}(ok:HOk P w H h)(e:Rd H a (.dK kvs)):kvs.length<=sizeLine/\(a==sysModules)=false/\ ∃vs,KV kvs vs/\h.DictOf (a2d P w) a vs:=
 show ObjOk P w H h a (.dK kvs)from d3c ok e
theorem dk_of{kvs:List (Key×V)}(ok:HOk P w H h)(e:H a=some (.dK kvs)):kvs.length<=sizeLine/\(a==sysModules)=false/\ ∃vs,KV kvs vs/\h.DictOf (a2d P w) a vs:=c1u ok (.inl e)
theorem b0o{ks:List Key}(ok:HOk P w H h)(e:H a=some (.tup (ks.map kV))):(tupleKind (a2d P w)).is h ks a:=by
 obtain⟨_,its,r,o,h1,h2,n,h3,_⟩:=(show ObjOk P w H h a (.tup (ks.map kV))from ok a _ e)
 exact⟨o,its.toArray,n,h1,h2,h3,by simpa using b3u r⟩
theorem c1v{kvs:List (List Key×V)}(ok:HOk P w H h)(e:Rd H a (.dT kvs)):kvs.length<=sizeLine/\(a==sysModules)=false/\
  ∃xs,KT H kvs xs/\h.DictOfH (tupleKind (a2d P w)) a xs:=by
 obtain⟨z,y,xs,r,o,es,ep,h1,h2,h3,h4,h5⟩:=(show ObjOk P w H h a (.dT kvs)from d3c ok e)
 refine⟨z,y,xs,r,o,es,ep,h1,h2,h3,h4,fun x hx=>?_,h5⟩
 have all: ∀{l:List (List Key×V)} {m:List (List Key×Addr×Vl)},KT H l m-> ∀x∈m,(tupleKind (a2d P w)).is h x.1 x.2.1:=by
  intro l m q
  induction q with
  |nil=>intro x hx;exact nomatch hx
  | @cons p q ps qs hq t ih=>
   intro x hx
   rcases a1C.mp hx with e|hx
   ·subst e
    exact b0o ok (by rw[<-hq.1];exact hq.2.1)
   ·exact ih x hx
 exact all r x hx
theorem d0q{kvs:List (List Key×V)}(ok:HOk P w H h)(e:H a=some (.dT kvs)):kvs.length<=sizeLine/\(a==sysModules)=false/\
  ∃xs,KT H kvs xs/\h.DictOfH (tupleKind (a2d P w)) a xs:=c1v ok (.inl e)
end
def DGet(H:Hp)(a:Addr)(y:V)(r:Option V):Prop:=
 (∃kvs k,Rd H a (.dK kvs)/\y=kV k/\r=b1l kvs k)∨ ∃kvs k b,Rd H a (.dT kvs)/\y= .ref b/\H b=some (.tup (k.map kV))/\r=b1l kvs k
def DPut(H:Hp)(a:Addr)(y v:V)(H':Hp):Prop:=
 (∃kvs k,H a=some (.dK kvs)/\y=kV k/\kvs.length<sizeLine/\H'=upd H a (.dK (b3t kvs k v)))∨
 ∃kvs k b,H a=some (.dT kvs)/\y= .ref b/\H b=some (.tup (k.map kV))/\kvs.length<sizeLine/\H'=upd H a (.dT (b3t kvs k v))
theorem DGet.t{H:Hp}{a b:Addr}{kvs:List (List Key×V)}{k:List Key}(e:H a=some (.dT kvs))(eb:H b=some (.tup (k.map kV))):DGet H a (.ref b) (b1l kvs k):= .inr ⟨kvs,k,b,.inl e,rfl,eb,rfl⟩
theorem DPut.t{H:Hp}{a b:Addr}{kvs:List (List Key×V)}{k:List Key}{v:V}(e:H a=some (.dT kvs))(eb:H b=some (.tup (k.map kV)))(hl:kvs.length<sizeLine):
  DPut H a (.ref b) v (upd H a (.dT (b3t kvs k v))):= .inr ⟨kvs,k,b,e,rfl,eb,hl,rfl⟩
section
variable{X:Cx}{pins:AO}{σ:St}{H:Hp}{s:Sh}{a:Addr}{y v:V}{u r:Vl}{o:Option V}{A:Ar}{E:VP}
theorem Inv.big(I:Inv X pins σ H s):sysModules<s.heap.objs.size:=by
 have h:mainGlobals<s.heap.objs.size:=(I.mod.glob.keeps I.bk).lt
 exact a9G (by decide) h
theorem c1w{Q:VP}(hu:A.units+1<cLine)(I:Inv X pins σ H s)(g:DGet H a y (some v))(ry:RelV y u)(h: ∀w' s',Inv X pins σ H s'->RelV v w'->Q w' s'):
  wpAny (model X.prog X.w) A (getItem (.ref a) u) Q E s:=by
 rcases g with⟨kvs,k,e,ey,l⟩|⟨kvs,k,b,e,ey,eb,l⟩
 ·subst ey
  obtain⟨z,hd,vs,rel,dd⟩:=c1u I.hok e
  obtain⟨w',hw,rw'⟩:=RelO.some_of (v:=v) (o:=valueAt vs k) (by rw[l];exact rel.val k)
  exact wpAny_getItem_of (c1t ry) dd.mapOf hw (h w' _ (I.tok _) rw')
 ·subst ey
  cases(show u=Value.ref b from ry)
  obtain⟨z,hd,xs,rel,dd⟩:=c1v I.hok e
  obtain⟨w',hw,rw'⟩:=RelO.some_of (v:=v) (o:=(atKey xs k).map (·.2)) (by rw[l];exact rel.val k)
  obtain⟨p,hp,hp2⟩:=a0O.mp hw
  refine wpAny_getItem_heap (a6R hu) (b0o I.hok eb) dd hp ?_
  rw[hp2]
  exact h w' _ (I.tok _) rw'
theorem d_in{Q:VP}(hu:A.units+1<cLine)(I:Inv X pins σ H s)(g:DGet H a y o)(ry:RelV y u)(h: ∀s',Inv X pins σ H s'->Q (.bool o.isSome) s'):
  wpAny (model X.prog X.w) A (compareOp .In u (.ref a)) Q E s:=by
 rcases g with⟨kvs,k,e,ey,l⟩|⟨kvs,k,b,e,ey,eb,l⟩
 ·subst ey
  obtain⟨z,hd,vs,rel,dd⟩:=c1u I.hok e
  refine wpAny_in_of (c1t ry) hd dd.mapOf ?_
  rw[<-(rel.val k).isSome_eq,<-l]
  exact h _ (I.tok _)
 ·subst ey
  cases(show u=Value.ref b from ry)
  obtain⟨z,hd,xs,rel,dd⟩:=c1v I.hok e
  refine wpAny_in_heap (a6R hu) (b0o I.hok eb) hd dd ?_
  have q:=(rel.val k).isSome_eq
  rw[a8W]at q
  rw[<-q,<-l]
  exact h _ (I.tok _)
theorem d0r{Q:VP}(hu:A.units+1<cLine)(I:Inv X pins σ H s)(g:DGet H a y o)(ry:RelV y u)(h: ∀s',Inv X pins σ H s'->Q (.bool (!o.isSome)) s'):
  wpAny (model X.prog X.w) A (compareOp .NotIn u (.ref a)) Q E s:=by
 rcases g with⟨kvs,k,e,ey,l⟩|⟨kvs,k,b,e,ey,eb,l⟩
 ·subst ey
  obtain⟨z,hd,vs,rel,dd⟩:=c1u I.hok e
  refine wpAny_notIn_of (c1t ry) hd dd.mapOf ?_
  rw[<-(rel.val k).isSome_eq,<-l]
  exact h _ (I.tok _)
 ·subst ey
  cases(show u=Value.ref b from ry)
  obtain⟨z,hd,xs,rel,dd⟩:=c1v I.hok e
  refine wpAny_notIn_heap (a6R hu) (b0o I.hok eb) hd dd ?_
  have q:=(rel.val k).isSome_eq
  rw[a8W]at q
  rw[<-q,<-l]
  exact h _ (I.tok _)
theorem b5k{h':Heap}{t':Nat}{ob:HO}(I:Inv X pins σ H s)(mu:Mut (H a))(hs:Heap.SameBut a s.heap h')(he: ∃q,h'.get? a=some q)(new:ObjOk X.prog X.w (upd H a ob) h' a ob):
  Inv X pins σ (upd H a ob) {s with heap:=h',toks:=t'}:=
 I.write (x:=a) (e:=a) mu (.inl rfl) (fun b q hb z=>(hs.2 b hb).trans z) he new
theorem d3d{P:Pg}{w:World}{H':Hp}{h':Heap}{kvs:List (Key×V)}{vs:List (Key×Vl)}(z:kvs.length<=sizeLine)(hd:(a==sysModules)=false)(rel:KV kvs vs)(dd:h'.DictOf (a2d P w) a vs):
  ObjOk P w H' h' a (.dK kvs):=⟨z,hd,vs,rel,dd⟩
theorem c1x{H':Hp}{Q:Unit->Sh->Prop}(hu:A.units+1<cLine)(I:Inv X pins σ H s)(g:DPut H a y v H')(ry:RelV y u)(rv:RelV v r)(h: ∀s',Inv X pins σ H' s'->Q () s'):
  wpAny (model X.prog X.w) A (setItem (.ref a) u r) Q E s:=by
 rcases g with⟨kvs,k,e,ey,l,eH⟩|⟨kvs,k,b,e,ey,eb,l,eH⟩
 ·subst ey eH
  obtain⟨z,hd,vs,rel,dd⟩:=dk_of I.hok e
  have hz:vs.length<=sizeLine:=by rw[<-rel.length];exact z
  have hl:(b3t kvs k v).length<=sizeLine:=by have:=a9a kvs k v;lia
  refine wpAny_setItem_pairs (hsz:=hz) (c1t ry) dd fun h' dd' hs=>h _ ?_
  have he: ∃q,h'.get? a=some q:=let⟨q,_,_,hq,_⟩:=dd';⟨q,hq⟩
  exact b5k I (by rw[e];exact True.intro) hs he (d3d hl hd (rel.put k rv) dd')
 ·subst ey eH
  cases(show u=Value.ref b from ry)
  obtain⟨z,hd,xs,rel,dd⟩:=d0q I.hok e
  have hz:xs.length<=sizeLine:=by rw[<-a4Q rel];exact z
  have hl:(b3t kvs k v).length<=sizeLine:=by have:=a9a kvs k v;lia
  refine wpAny_setItem_heap (hsz:=hz) (a6R hu) (b0o I.hok eb) dd fun h' dd' hs=>h _ ?_
  obtain⟨q,es,ep,hq,h2,h3,h4,_,h5⟩:=dd'
  refine b5k I (by rw[e];exact True.intro) hs ⟨q,hq⟩ ⟨hl,hd,_,(rel.put k eb rv).keeps fun c ys ec=>?_,q,es,ep,hq,h2,h3,h4,h5⟩
  rw[a0c (nE ec e)]
  exact ec
end
def NoSl(i:Expr):Prop:= ∀ov iv,subscripted i false ov iv=operate [ov,iv] (getItem ov iv)
theorem d0s{prog:Pg}{w:World}{A:Ar}{E:VP}{s:Sh}{env:Env}{value slice:Expr}{pos:Pos}{T id:String}{Q:VP}
  (hl:typeLookup (.type T) "__getitem__"=pure (some (.builtin id))) (hs:NoSl slice)
  (h:wpAny (model prog w) A (eval value env) (fun o s₁=>wpAny (model prog w) A (eval slice env) (fun i s₂=>s₂.TypeIs o T/\wpAny (model prog w) A (getItem o i) Q E s₂) E s₁) E s):
  wpAny (model prog w) A (eval (.Subscript value slice pos) env) Q E s:=by
 refine Subscript_ (a3I h (fun o s₁ h₁=>a3I h₁ (fun i s₂ h₂=>?_) fun _ _ x=>x) fun _ _ x=>x)
 obtain⟨hT,h₂⟩:=h₂
 unfold subscriptTail
 refine a0C ?_
 rw[getitemInPython_of_ne hT.not_modules]
 refine a0C (wpAny_specialOf hT hl ?_)
 have fin:wpAny (model prog w) A (subscripted slice false o i) (fun r s₃=>wpAny (model prog w) A (letTemporaryGo value o r >>= fun _=>pure r) Q E s₃) E s₂:=by
  rw[hs o i]
  exact wpAny_operating (a3I h₂ (fun r s₃ h₃=>a0C (wpAny_letTemporaryGo (a0F h₃))) fun _ _ x=>x)
 first
  |exact a0F (a0C fin)
  |exact a0C (a0F (a0C fin))
  |exact a0C fin
theorem b5l{X:Cx}{pins:AO}{σ:St}{H:Hp}{s:Sh}{a:Addr}{y:V}{o:Option V}(I:Inv X pins σ H s)(g:DGet H a y o):s.TypeIs (.ref a) "dict":=by
 rcases g with⟨kvs,k,e,_,_⟩|⟨kvs,k,b,e,_,_,_⟩
 ·obtain⟨_,_,vs,_,dd⟩:=c1u I.hok e
  exact dd.typeIs
 ·obtain⟨_,_,xs,_,dd⟩:=c1v I.hok e
  exact dd.typeIs
def d3e(td ty:TE):TE:=fun σ H Q=>td σ H fun x H1=>ty σ H1 fun y H2=> ∃a v,x= .ref a/\DGet H2 a y (some v)/\Q v H2
def tDIn(ty td:TE):TE:=fun σ H Q=>ty σ H fun y H1=>td σ H1 fun x H2=> ∃a o,x= .ref a/\DGet H2 a y o/\Q (.bl o.isSome) H2
def c1y(ty td:TE):TE:=fun σ H Q=>ty σ H fun y H1=>td σ H1 fun x H2=> ∃a o,x= .ref a/\DGet H2 a y o/\Q (.bl (!o.isSome)) H2
def d3f(td ty tv:TE):TS:=fun D σ H=>tv σ H fun v H1=>td σ H1 fun x H2=>ty σ H2 fun y H3=> ∃a H4,x= .ref a/\DPut H3 a y v H4/\D.nx σ H4
section
variable{X:Cx}{o i e value:Expr}{pos pos' tpos:Pos}{td ty tv:TE}
theorem a6y(hu:X.A.units+1<cLine)(ho:PE X o td)(hi:PE X i ty)(hs:NoSl i):PE X (.Subscript o i pos) (d3e td ty):=by
 intro pins s σ H Q I h
 refine d0s PySem.F.slot_dict_getitem.lookup hs (thn (ho pins s σ H _ I h) fun u s1 ⟨x,H1,I1,rx,q1⟩=>thn (hi pins s1 σ H1 _ I1 q1) fun iv s2 ⟨y,H2,I2,ry,a,v,ex,g,q2⟩=>?_)
 subst ex
 obtain rfl:u=Value.ref a:=rx
 exact⟨b5l I2 g,c1w hu I2 g ry fun w' s3 I3 rw'=>⟨v,H2,I3,rw',q2⟩⟩
theorem c1z(hu:X.A.units+1<cLine)(hi:PE X i ty)(ho:PE X o td):PC X .In i o (tDIn ty td):=by
 intro pins s σ H Q I h
 refine thn (hi pins s σ H _ I h) fun iv s1 ⟨y,H1,I1,ry,q1⟩=>thn (ho pins s1 σ H1 _ I1 q1) fun u s2 ⟨x,H2,I2,rx,a,ov,ex,g,q2⟩=>?_
 subst ex
 obtain rfl:u=Value.ref a:=rx
 exact d_in hu I2 g ry fun s3 I3=>⟨.bl ov.isSome,H2,I3,rfl,q2⟩
theorem c2a(hu:X.A.units+1<cLine)(hi:PE X i ty)(ho:PE X o td):PC X .NotIn i o (c1y ty td):=by
 intro pins s σ H Q I h
 refine thn (hi pins s σ H _ I h) fun iv s1 ⟨y,H1,I1,ry,q1⟩=>thn (ho pins s1 σ H1 _ I1 q1) fun u s2 ⟨x,H2,I2,rx,a,ov,ex,g,q2⟩=>?_
 subst ex
 obtain rfl:u=Value.ref a:=rx
 exact d0r hu I2 g ry fun s3 I3=>⟨.bl (!ov.isSome),H2,I3,rfl,q2⟩
theorem a6z(hu:X.A.units+1<cLine)(ho:PE X o td)(hi:PE X i ty)(hv:PE X value tv)(hs:swapsWith value (some (.Subscript o i pos')) pos.line X.env=pure false):
  PS X (.Assign [.Subscript o i pos'] value pos) (d3f td ty tv):=by
 intro pins s σ H D I h
 refine wpAny_Assign_Subscript (thn (hv pins s σ H _ I h) fun r s1 ⟨v,H1,I1,rv,q1⟩=>thn (ho pins s1 σ H1 _ I1 q1) fun u s2 ⟨x,H2,I2,rx,q2⟩=>thn (hi pins s2 σ H2 _ I2 q2) fun iv s3 ⟨y,H3,I3,ry,a,H4,ex,g,q3⟩=>?_) hs
 subst ex
 obtain rfl:u=Value.ref a:=rx
 exact c1x hu I3 g ry rv fun s4 I4=>⟨σ,H4,I4,q3⟩
end
theorem b7m{P:Pg}{w:World}{H:Hp}(h:Heap)(hb:sysModules<h.objs.size):ObjOk P w H (h.push {cls:= .type "dict",data:= .dict #[]}) h.objs.size (.dT []):=
 ⟨a3E _,a3C.mpr (a3K (a1J hb)),[],.nil,_,#[],0,a0V _ rfl,⟨rfl,rfl,rfl⟩,rfl,rfl,List.nodup_nil⟩
def d3g:TE:=fun _ H Q=> ∀p,H p=none->Q (.ref p) (upd H p (.dT []))
section
variable{X:Cx}{pos:Pos}
theorem a6d:PE X (.Dict [] [] pos) d3g:=fun pins s σ H Q I h=>
 wpAny_Dict_empty ⟨.ref s.heap.objs.size,_,I.laid (a:=s.heap.objs.size) (o:= .dT []) (t':=s.toks) (fun _ _ q=>a0I _ q) (a0J _) (b7m s.heap I.big),rfl,h _ (I.hok.fresh (a0J _))⟩
end
def c8w:List (TE×TE)->St->Hp->(List (V×V)->Hp->Prop)->Prop
 | [],_,H,Q=>Q [] H
 |(tk,tv)::r,σ,H,Q=>tk σ H fun x H1=>tv σ H1 fun y H2=>c8w r σ H2 fun ps H3=>Q ((x,y)::ps) H3
abbrev VV:List (V×V)->List (Vl×Vl)->Prop:=Paired fun p q=>RelV p.1 q.1/\RelV p.2 q.2
def PPs(X:Cx)(pos:Pos)(keys:List (Option Expr))(values:List Expr)(trs:List (TE×TE)):Prop:=
 ∀(pins:AO) (s:Sh) (σ:St) (H:Hp) (Q:List (V×V)->Hp->Prop),Inv X pins σ H s->c8w trs σ H Q->
  wpAny (model X.prog X.w) X.A (evalPairs (pairTrees keys values X.env pos)) (fun vs s'=> ∃ps H',Inv X pins σ H' s'/\VV ps vs/\Q ps H') X.xe s
theorem d0t{X:Cx}{pos:Pos}:PPs X pos [] [] []:=fun pins s σ H Q I h=>pairTrees_nil_walk ⟨[],H,I,.nil,h⟩
theorem c6q{X:Cx}{pos:Pos}{k v:Expr}{ks:List (Option Expr)}{vs:List Expr}{tk tv:TE}{trs:List (TE×TE)}(hk:PE X k tk)(hv:PE X v tv)(hr:PPs X pos ks vs trs):
  PPs X pos (some k::ks) (v::vs) ((tk,tv)::trs):=fun pins s σ H Q I h=>
 pairTrees_cons_walk (thn (hk pins s σ H _ I h) fun u s1 ⟨x,H1,I1,rx,q1⟩=>thn (hv pins s1 σ H1 _ I1 q1) fun w2 s2 ⟨y,H2,I2,ry,q2⟩=>
  thn (hr pins s2 σ H2 _ I2 q2) fun ws s3 ⟨ps,H3,I3,rel,q3⟩=>⟨(x,y)::ps,H3,I3,.cons ⟨rx,ry⟩ rel,q3⟩)
structure M1(X:Cx)(o:Expr)(m:Str)(apos:Pos)(e:Expr)(cpos:Pos):Prop where
 base:attributeBase o m X.env (eval o X.env)=eval o X.env
 few:((backTo cpos (starEach [e] X.env)).all (fun x=> !x.1)&&(backToKw cpos (keywordEach [] X.env)).all (fun x=>x.1.isSome)
  &&decide (([e]:List Expr).length+([]:List Keyword).length+(if([]:List Keyword).isEmpty then 0 else 1)<30))=true
 line:(apos.endLine==cpos.line)=true
 trees:backTo cpos (starEach [e] X.env)=[(false,eval e X.env)]
theorem a9b{α β:Type}{f:α->β->Sem (ForInStep β)}{g:β->α->β}: ∀{l:List α} (c:β),(∀x∈l,∀c,f x c=pure (.yield (g c x)))->forIn l c f=pure (l.foldl g c)
 | [],_,_=>rfl
 |x::l,c,h=>by
  rw[List.forIn_cons,h x (a0S ..),pure_bind]
  exact a9b (g c x) fun y hy=>h y (a0X _ hy)
def a5l(env:Env)(acc:List (Str×Addr))(y:Str×NameKind):List (Str×Addr):=
 if y.2== .free then(match env.cells.lookup y.1 with|some c=>(y.1,c)::acc|none=>acc)else acc
def c8x(env:Env)(sc:Scope):List (Str×Addr):=sc.names.foldl (a5l env) []
theorem b9n{env:Env}{sc:Scope}(h: ∀y∈sc.names,y.2= .free-> ∃c,env.cells.lookup y.1=some c):closureFor sc env=pure (c8x env sc):=by
 simp only[closureFor]
 rw[a9b (g:=a5l env) [] fun x hx c=>?_]
 ·rfl
 ·obtain⟨n,k⟩:=x
  by_cases hk:k= .free
  ·subst hk
   obtain⟨d,hd⟩:=h _ hx rfl;have hd':env.cells.lookup n=some d:=hd;simp only[a5l,cellOf,hd',beq_self_eq_true,if_true,pure_bind]
  ·have hb:(k==NameKind.free)=false:=by simpa using hk
   simp only[a5l,hb,Bool.false_eq_true,if_false]
theorem a8f{env:Env}: ∀(names:List (Str×NameKind)) (acc:List (Str×Addr)),(∀y c,acc.lookup y=some c->env.cells.lookup y=some c)->
  ∀y c,(names.foldl (a5l env) acc).lookup y=some c->env.cells.lookup y=some c
 | [],_,h=>h
 | (n,k)::r,acc,h=>by
  refine a8f r _ fun y c e=>?_
  unfold a5l at e
  split at e
  ·split at e
   ·rename_i d hd
    rw[a3Q]at e;cases hy:y==n with
    |true=>
     rw[hy]at e;have hy':y=n:=eq_of_beq hy;cases e;rw[hy'];exact hd
    |false=>rw[hy]at e;exact h y c e
   ·exact h y c e
  ·exact h y c e
theorem c2b{env:Env}: ∀(names:List (Str×NameKind)) (acc:List (Str×Addr)) (y:Str),(∃c,acc.lookup y=some c)-> ∃c,(names.foldl (a5l env) acc).lookup y=some c
 | [],_,_,h=>h
 | (n,k)::r,acc,y,h=>by
  refine c2b r _ y ?_
  unfold a5l
  split
  ·split
   ·rename_i d hd
    rw[a3Q];cases hy:y==n with
    |true=>exact⟨_,rfl⟩
    |false=>exact h
   ·exact h
  ·exact h
theorem c8y{env:Env}: ∀(names:List (Str×NameKind)) (acc:List (Str×Addr)) (y:Str),names.lookup y=some .free->(∃c,env.cells.lookup y=some c)-> ∃c,(names.foldl (a5l env) acc).lookup y=some c
 | [],_,_,h,_=>by simp at h
 | (n,k)::r,acc,y,h,hc=>by
  rw[a3Q]at h
  cases hy:y==n with
  |true=>
   rw[hy]at h;cases h;have hy':y=n:=eq_of_beq hy;subst hy';obtain⟨c,hc⟩:=hc;refine c2b r _ y ?_;refine⟨c,?_⟩;unfold a5l;rw[if_pos (by rfl)];show List.lookup y (match env.cells.lookup y with|some c=>(y,c)::acc|none=>acc)=_
   rw[hc]
   simp
  |false=>
   rw[hy]at h;exact c8y r _ y h hc
theorem a3k{env:Env}: ∀{names:List (Str×NameKind)} {y:Str} {k:NameKind},
  (names.map fun(n,k)=>if(k==NameKind.free&&env.scope.kind== .function&&env.kindOf n==some .cell)then(n,NameKind.cell)else(n,k)).lookup y=some k->
   names.lookup y=some k∨(names.lookup y=some .free/\k= .cell)
 | [],_,_,h=>by simp at h
 | (n,k0)::r,y,k,h=>by
  have ih:=@a3k env r y k
  rw[a2I]at h
  by_cases hc:(k0==NameKind.free&&env.scope.kind== .function&&env.kindOf n==some .cell)=true
  ·have h':List.lookup y ((n,NameKind.cell)::(r.map fun(n,k)=>if(k==NameKind.free&&env.scope.kind== .function&&env.kindOf n==some .cell)then(n,NameKind.cell)else(n,k)))=some k:=by
    have e:(if(k0==NameKind.free&&env.scope.kind== .function&&env.kindOf n==some .cell)=true then(n,NameKind.cell)else(n,k0))=(n,NameKind.cell):=if_pos hc;rw[<-e];exact h
   rw[a3Q]at h'⊢;cases hy:y==n with
   | true=>
    rw[hy]at h';cases h';have hk:k0= .free:=by
     rw[a2Y,a2Y]at hc;exact eq_of_beq hc.1.1
    exact .inr ⟨by rw[hk],rfl⟩
   |false=>rw[hy]at h';exact ih h'
  ·have h':List.lookup y ((n,k0)::(r.map fun(n,k)=>if(k==NameKind.free&&env.scope.kind== .function&&env.kindOf n==some .cell)then(n,NameKind.cell)else(n,k)))=some k:=by
    have e:(if(k0==NameKind.free&&env.scope.kind== .function&&env.kindOf n==some .cell)=true then(n,NameKind.cell)else(n,k0))=(n,k0):=if_neg hc;rw[<-e];exact h
   rw[a3Q]at h'⊢;cases hy:y==n with
   |true=>rw[hy]at h';exact .inl h'
   |false=>rw[hy]at h';exact ih h'
def b5m(y:Str):Str:=⟨#[46]++y.cps⟩
def c5x(vs:Ss)(y:Str):Str:=if vs.contains y=true then b5m y else y
structure CompScope(X:Cx)(vs:Ss)(sc:Scope):Prop where
 kind:sc.kind= .function
 cell: ∀y∈sc.names,y.2≠ .cell
 locs: ∀y∈sc.names,y.2= .local->sc.names.lookup y.1=some .local
 own: ∀y∈X.N.map (c5x vs),sc.names.lookup y≠some .local
 hid: ∀y∈vs,sc.names.lookup (b5m y)=none
 nd:(vs++X.N.map (c5x vs)).Nodup
 free: ∀y∈sc.names,y.2= .free->X.env.kindOf y.1=some .cell∨X.env.kindOf y.1=some .free
def cxC(X:Cx)(vs:Ss)(sc:Scope)(C:Addr)(s:Sh)(H:Hp)(fp:As):Cx where
 prog:=X.prog
 w:=X.w
 K:=X.K
 mg:=X.mg
 base:=X.base
 A:=X.A
 N:=vs++X.N.map (c5x vs)
 s₀:=s
 H₀:=H
 env:=compEnvC sc (c8x X.env sc) C X.env
 outer:=X.stack
 stack:=X.stack
 ex:=fp
 fn:=fun _=>false
 calm:=X.calm
 pn:=X.pn
 xe:=fun _ _=>False
def a3c(vs:Ss)(σ:St):St:=List.replicate vs.length none++σ
section
variable{X:Cx}{pins:AO}{σ:St}{H:Hp}{s:Sh}{vs:Ss}{sc:Scope}
theorem c6r{C:Addr}{fp:As}{h':Heap}{tk:Nat}{m0:SV}(S:CompScope X vs sc)(I:Inv X pins σ H s)(hf: ∀b∈fp,FpOk X pins H b)(ho: ∀b∈fp,∃o,s.heap.get? b=some o)
  (k: ∀b o,s.heap.get? b=some o->h'.get? b=some o) (hns:h'.Ns C m0) (hC:s.heap.objs.size<=C):Inv (cxC X vs sc C s H fp) pins (a3c vs σ) H {s with heap:=h',toks:=tk}:=by
 have sound: ∀y c,(c8x X.env sc).lookup y=some c->X.env.cells.lookup y=some c:=a8f sc.names [] fun y c e=>by simp at e
 have fr: ∀y,sc.names.lookup y=some .free->X.env.kindOf y=some .cell∨X.env.kindOf y=some .free:=fun y e=>S.free (y,.free) (a3F e) rfl
 have frc: ∀y,(X.env.kindOf y=some .cell∨X.env.kindOf y=some .free)-> ∃c,X.env.cells.lookup y=some c:=fun y e=>I.ok.has y e
 have kinds: ∀{y:Str} {kd:NameKind},(relabel sc X.env).names.lookup y=some kd->kd= .cell∨kd= .free->sc.names.lookup y=some .free:=fun {y kd} e hk=>by
  rcases a3k (names:=sc.names) e with z|⟨z,_⟩
  ·rcases hk with q|q
   ·subst q;exact absurd rfl (S.cell _ (a3F z))
   ·subst q;exact z
  ·exact z
 have has: ∀y,sc.names.lookup y=some .free-> ∃c,(c8x X.env sc).lookup y=some c:=fun y e=>c8y sc.names [] y e (frc y (fr y e))
 have hlt: ∀y c,X.env.cells.lookup y=some c->c<s.heap.objs.size:=fun y c e=>let⟨_,z⟩:=I.cell y c e;z.lt
 have kc: ∀{c v},s.heap.IsCell c v->h'.IsCell c v:=fun {c v} ⟨o,e,d⟩=>⟨o,k _ _ e,d⟩
 refine⟨⟨I.ok.mod,S.kind,I.ok.glob,I.ok.blt,hC,fun y z c h1 h2=>I.ok.inj y z c (sound y c h1) (sound z c h2),fun y hy=>?_,fun y c z _=>(nomatch z),I.ok.hd,I.ok.frames,.inl rfl,fun b hb=>⟨?_,fun y c e=>?_⟩,I.bs,a0Y I.ok.bsz I.sz,fun b o e hb=>?_,fun b hb hs=>?_,I.stack,I.stkFree⟩,
  rfl,I.bare,Un.kept k,⟨m0,hns,fun i y v e1 e2 e3=>?_⟩,fun y c e=>?_,I.hok.fresh hC,fun y c e=>I.freeC y c (sound y c e),fun p hp=>?_,I.hok.kept k,?_⟩
 ·have hy':(relabel sc X.env).names.lookup y=some .cell∨(relabel sc X.env).names.lookup y=some .free:=hy
  rcases hy' with z|z
  ·exact has y (kinds z (.inl rfl))
  ·exact has y (kinds z (.inr rfl))
 ·obtain⟨o,e⟩:=ho b hb
  exact a1J (a1I (a0T e) hC)
 ·exact(hf b hb).2.2.2.2.1 y c (sound y c e)
 ·obtain⟨_,_,_,z,_⟩:=hf b hb
  rcases z with z|z
  ·exact I.ok.noex b o e z
  ·exact absurd (a1I (a0T (I.ok.bs b o e).1) z) (a3Y _)
 ·obtain⟨_,h1,h2,_⟩:=hf b hb
  rcases a1C.mp (I.stkSub b hs)with z|z
  ·exact h1 z
  ·exact h2 z
 ·have e1':(vs++X.N.map (c5x vs))[i]? =some y:=e1
  have e2':(List.replicate vs.length none++σ)[i]? =some (some v):=e2
  have hi:vs.length<=i:=by
   by_cases z:i<vs.length
   ·rw[a0R (by simpa using z),List.getElem?_replicate]at e2'
    split at e2'<;>cases e2'
   ·lia
  rw[a0P hi]at e1'
  rw[a0P (by simpa using hi),List.length_replicate]at e2'
  have yN:y∈X.N.map (c5x vs):=a0E e1'
  have e3':(relabel sc X.env).names.lookup y=some .local∨(relabel sc X.env).names.lookup y=some .cell∨(relabel sc X.env).names.lookup y=some .free:=e3
  have isf:sc.names.lookup y=some .free:=by
   rcases e3' with z|z|z
   ·rcases a3k (names:=sc.names) z with q|⟨_,q⟩
    ·exact absurd q (S.own y yN)
    ·cases q
   ·exact kinds z (.inl rfl)
   ·exact kinds z (.inr rfl)
  have e1':X.N[i-vs.length]? =some y:=by
   rw[a0G]at e1';cases e:X.N[i-vs.length]? with
   |none=>rw[e]at e1';cases e1'
   | some y0=>
    rw[e]at e1';have e2:c5x vs y0=y:=a1U e1';unfold c5x at e2
    split at e2
    ·rename_i hc
     rw[<-e2,S.hid y0 (by simpa using hc)]at isf;cases isf
    ·rw[e2]
  have ok:=fr y isf
  obtain⟨m,_,hl⟩:=I.loc
  obtain⟨u,r,lk⟩:=hl (i-vs.length) y v e1' e2' (.inr ok)
  refine⟨u,r,?_⟩
  rcases lk with⟨q,_⟩|⟨_,c,ec,hc⟩
  ·rcases ok with z|z<;>rw[z]at q<;>cases q
  ·obtain⟨c',e'⟩:=has y isf
   have:c'=c:=a1U ((sound y c' e').symm.trans ec)
   subst this;refine .inr ⟨?_,c',e',kc hc⟩
   rcases e3' with z|z|z
   ·rcases a3k (names:=sc.names) z with q|⟨_,q⟩
    ·exact absurd q (S.own y yN)
    ·cases q
   ·exact .inl z
   ·exact .inr z
 ·obtain⟨v,z⟩:=I.cell y c (sound y c e)
  exact⟨v,kc z⟩
 ·obtain⟨e,n,ne,nf,d⟩:=I.pin p hp
  refine⟨k _ _ e,n,a1J (a1I (a0T e) hC),fun z=>?_,d⟩
  rcases a1C.mp (I.stkSub p.1 z)with q|q
  ·exact ne q
  ·exact nf q
 ·show(List.replicate vs.length none++σ).length=(vs++X.N.map (c5x vs)).length
  rw[a0M,a0M,List.length_replicate,a0D,I.len]
theorem Inv.adopt{D:Addr}{ys:List V}{its:Vs}{n:Nat}(I:Inv X pins σ H s)(hz:ys.length<=sizeLine)(hv:Vals ys its)(hD:H D=none)(e:s.heap.get? D=some {cls:= .type "list",data:= .seq its.toArray n})
  (h0:X.s₀.heap.objs.size<=D) (h1:D≠X.env.locals) (h2: ∀x c,X.env.cells.lookup x=some c->c≠D) (h3: ∀p∈X.pn++pins,p.1≠D):Inv X pins σ (upd H D (.lst ys)) s:=by
 have nd: ∀b u,H b=some u->b≠D:=fun b u q z=>by rw[z,hD]at q;cases q
 have q:=I.step (h':=s.heap) (H':=upd H D (.lst ys)) (g':=s.gens) (t':=s.toks) (d':=s.drawn) (ch:=[D]) (fun b hb=>by
   have z:b=D:=by simpa using hb
   subst z;exact⟨.inr h0,h1,h2,h3⟩)
  (fun b o _ _ _ e _=>e) (fun b o _ _ _ e _=>⟨o.slots,e⟩) (fun b o hb _ n=>by rw[a0c (fun z=>hb (by simp[z]))];exact n) (fun b o _ e=>⟨o,e⟩)
  (fun b xs q=>by rw[a0c (nd b _ q)];exact q) (fun b o u q=>by rw[a0c (nd b _ q)];exact q) (fun b ps q=>⟨#[],by rw[a0c (nd b _ q),q];simp⟩) (fun m hm=>hm) (fun b u q=>?_) I.bare
 ·exact q
 ·by_cases hb:b=D
  ·subst hb
   rw[a0a]at q;cases q;exact⟨hz,its,n,hv,e⟩
  ·rw[a0c hb]at q
   exact(I.hok b u q).stay (fun _ _ _ z=>z) (fun c z=>by rw[a0c (nd c _ z)];exact z) fun c xs z=>by rw[a0c (nd c _ z)];exact z
end
def PTs(X:Cx)(ifs:List Expr)(t:TT):Prop:=
 ∀(pins:AO) (s:Sh) (σ:St) (H:Hp) (Q:Bool->Hp->Prop),Inv X pins σ H s->t σ H Q->
  wpAny (model X.prog X.w) X.A (forIn ifs true fun c r=>if r=true then do let ok <-isTrue c X.env (eval c X.env);pure (ForInStep.yield ok)else pure (ForInStep.yield r)) (TP X pins σ Q) X.xe s
def tYes:TT:=fun _ H Q=>Q true H
theorem a4k{σ:St}{H:Hp}{F G:Hp->Prop}(h:F H):tYes σ H (fun b H3=>if b=true then F H3 else G H3):=by
 show(if true=true then F H else G H)
 exact b0n h
theorem a2h{X:Cx}:PTs X [] tYes:=fun _ _ _ H _ I h=>a0F ⟨H,I,h⟩
theorem a7a{X:Cx}{c:Expr}{t:TT}(h:PT X c t):PTs X [c] t:=fun pins s σ H Q I q=>wpAny_tests_one (h pins s σ H Q I q)
theorem c2c{prog:Pg}{w:World}{A:Ar}{R:Result->Sh->Prop}{s:Sh}{elt tg iter:Expr}{ifs:List Expr}{sc:Scope}{pos:Pos}{it acc:Vl}{env:Env}(Iv:Nat->Sh->Prop)
  (turn: ∀n s,Iv n s->wpAny (model prog w) A (pyNext it) (fun r s1=>match r with
   |none=>R (.ok .next) s1
   | some v=>wpAny (model prog w) A (letOwnedTupleGo tg it v) (fun _ s1=>wpAny (model prog w) A (assign tg env v) (fun _ s2=>
     wpAny (model prog w) A (forIn ifs true fun c r=>if r=true then do let ok <-isTrue c env (eval c env);pure (ForInStep.yield ok)else pure (ForInStep.yield r)) (fun ok s3=>
      if ok=true then wpAny (model prog w) A (eval elt env) (fun y s4=>wpAny (model prog w) A (call (.builtin "list.append") [acc,y]) (fun _ s5=> ∃m,m<n/\Iv m s5) (fun _ _=>False) s4) (fun _ _=>False) s3
      else ∃m,m<n/\Iv m s3) (fun _ _=>False) s2) (fun _ _=>False) s1) (fun _ _=>False) s1) (fun _ _=>False) s)
  (n:Nat) (h:Iv n s):codeAny (model prog w) A (.compLoop (.ListComp elt [⟨tg,iter,ifs,0⟩] sc pos) 0 it acc env) R s:=by
 refine codeAny_loop rfl Iv (fun n s hI=>?_) n h
 show wpAny _ A ((compTurn (.ListComp elt [⟨tg,iter,ifs,0⟩] sc pos) 0 it acc env).onRaise (fun x=>do noteFrame x env;theTreesLotGoes x)) _ _ s
 refine wpAny_noted (a3I (E:=fun _ _=>False) ?_ (fun _ _ q=>q) fun _ _ z=>z.elim)
 rw[compTurn_list]
 refine a0C (a9A (a0C (thn (turn n s hI) fun r s1 h1=>?_)))
 cases r with
 |none=>exact a0F h1
 |some v=>
  refine a0C (thn h1 fun _ s2 h2=>a0C (thn h2 fun _ s3 h3=>a0C (thn h3 fun ok s4 h4=>?_)))
  cases ok with
  |false=>exact a0F ⟨rfl,h4⟩
  |true=>exact a0C (a0C (thn h4 fun y s5 h5=>a0C (thn h5 fun _ s6 h6=>a0F (a0F ⟨rfl,h6⟩))))
def b5n(σ σ':St):Prop:= ∀(i:Nat) v,σ[i]? =some (some v)->σ'[i]? =some (some v)
theorem a1c{σ:St}{x:Option V}:b5n (none::σ) (x::σ):=fun i v e=>by
 cases i with
 |zero=>cases e
 |succ i=>exact e
theorem c6s{σ:St}{x y:Option V}:b5n (none::none::σ) (x::y::σ):=fun i v e=>by
 match i,e with
 |0,e=>cases e
 |1,e=>cases e
 |_+2,e=>exact e
section
variable{X:Cx}{pins:AO}{σ:St}{H:Hp}{s:Sh}{vs:Ss}{sc:Scope}{tg elt iter:Expr}{ifs:List Expr}{pos:Pos}{g:TG}{tt:TT}{te:TE}
def b3v(vs:Ss)(g:TG)(tt:TT)(te:TE)(σ:St)(J:It)(H:Hp)(Fin:List V->Hp->Prop):Prop:=
 ∃W:Nat->Nat->List V->Hp->Prop,(∃m,W 0 m [] H)/\ ∀i m ys H,W i m ys H->
  (J.stop i H/\ys.length<=sizeLine/\Fin ys H)∨(J.go i H/\ys.length<sizeLine/\ ∃N:List V->Hp->Prop,(∀zs H',N zs H'-> ∃m',m'<m/\W (i+1) m' zs H')/\
   ∀v H',J.yld i H v H'->g v (a3c vs σ) H' fun σ2 H2=>b5n (a3c vs σ) σ2/\tt σ2 H2 fun b H3=>if b=true then te σ2 H3 fun y H4=>N (ys++[y]) H4 else N ys H3)
theorem b0p{J:It}{fp:As}{it:Addr}{tn:Nat->Heap->Prop}{E:VP}{RR:Vl->Addr->Result->Sh->Prop}{Fin:List V->Hp->Prop}
  (S:CompScope X vs sc) (hc:X.calm=true) (hg: ∀C s H fp,PG (cxC X vs sc C s H fp) tg g) (ht: ∀C s H fp,PTs (cxC X vs sc C s H fp) ifs tt) (he: ∀C s H fp,PE (cxC X vs sc C s H fp) elt te)
  (I:Inv X pins σ H s) (T:Turn X.prog X.w X.K tg J fp it tn) (st:tn 0 s.heap) (hf: ∀b∈fp,FpOk X pins H b) (hW:b3v vs g tt te σ J H Fin)
  (hRR: ∀D C s' H' ys m',Inv X pins σ (upd H' D (.lst ys)) s'->H' D=none->FpOk X pins (upd H' D (.lst ys)) C->s'.heap.Ns C m'->Fin ys H'->RR (.ref D) C (.ok .next) s'):
  wpAny (model X.prog X.w) X.A (newList []) (fun acc s3=>wpAny (model X.prog X.w) X.A (newFunctionEnv sc X.env.globals (c8x X.env sc) [] X.env.qual none .none (some X.env)) (fun cenv s4=>
   codeAny (model X.prog X.w) X.A (.compStart (.ListComp elt [⟨tg,iter,ifs,0⟩] sc pos) 0 (.ref it) acc {cenv with scope:=relabel sc X.env}) (RR acc cenv.locals) s4) E s3) E s:=by
 obtain⟨W,⟨m0,w0⟩,turn⟩:=hW
 refine a2N (wpAny_newFunctionEnv S.cell (by intro y hy;simp at hy) (fun h1 hns hsb=>?_) S.kind)
 dsimp only at hns hsb⊢
 generalize hH2:s.heap.push {cls:= .type "list",dict:=none,data:= .seq ([]:Vs).toArray}=H2 at hns hsb⊢
 have hC:H2.objs.size=s.heap.objs.size+1:=by rw[<-hH2,a7L]
 generalize hCe:H2.objs.size=C at hns hsb hC⊢
 generalize hDe:s.heap.objs.size=D at hC⊢
 have hDC:D≠C:=by lia
 have below: ∀b o,s.heap.get? b=some o->b≠D/\b≠C:=fun b o e=>by
  have z:b<s.heap.objs.size:=a0T e
  rw[hDe]at z
  exact⟨a1J z,a1J (by rw[hC];exact a8X z)⟩
 have old: ∀b o,s.heap.get? b=some o->h1.get? b=some o:=fun b o e=>hsb.extBut b o (below b o e).2 (a0I _ (hH2▸a0I _ e))
 have hD1:h1.get? D=some {cls:= .type "list",data:= .seq ([]:Vs).toArray}:=
  hsb.extBut _ _ hDC (a0I _ (by rw[<-hH2,<-hDe];exact a0V _ rfl))
 have hobj: ∀b∈fp,∃o,s.heap.get? b=some o:=fun b hb=>let⟨o,e,_⟩:=T.obj 0 _ st b hb;⟨o,e⟩
 have fne: ∀b∈fp,b≠D/\b≠C:=fun b hb=>let⟨o,e⟩:=hobj b hb;below b o e
 have fD: ∀H',H' D=none->FpOk X pins H' D:=fun H' n=>I.fpOk (by lia) n
 have fC: ∀H',H' C=none->FpOk X pins H' C:=fun H' n=>I.fpOk (by lia) n
 have Dpn: ∀p∈X.pn++pins,p.1≠D:=fun p hp=>(below _ _ (I.pin p hp).1).1
 have cells: ∀y c,(c8x X.env sc).lookup y=some c->c≠D:=fun y c e=>by
  have e':=a8f sc.names [] (fun y c e=>by simp at e) y c e
  obtain⟨v,z⟩:=I.cell y c e'
  have z':c<s.heap.objs.size:=z.lt
  rw[hDe]at z'
  exact a1J z'
 have nfs: ∀b,b∈frs X.stack-> ∃o,s.heap.get? b=some o:=fun b hb=>let⟨_,o,ho,_⟩:=I.stack.mem hb;⟨o,ho⟩
 have Dfs:D∉frs X.stack:=fun z=>let⟨o,e⟩:=nfs D z;(below _ _ e).1 rfl
 have fpC: ∀{pl:AO} {H':Hp},(∀p∈pl,p.1=D)->(∀b∈fp,H' b=none)-> ∀b∈fp,FpOk (cxC X vs sc C s H fp) (pins++pl) H' b:=fun {pl H'} hpl hn b hb=>by
  obtain⟨_,q1,q2,q3,q4,q5⟩:=hf b hb
  refine⟨hn b hb,(fne b hb).2,fun z=>?_,.inl hb,fun y c e=>q4 y c (a8f sc.names [] (fun y c e=>by simp at e) y c e),fun p hp=>?_⟩
  ·rcases a1C.mp (I.stkSub b z)with y|y
   ·exact q1 y
   ·exact q2 y
  ·rcases a0L.mp hp with z|z
   ·exact q5 p (a2Z _ z)
   ·rcases a0L.mp z with y|y
    ·exact q5 p (a0Z _ y)
    ·rw[hpl p y];exact a3K (fne b hb).1
 have loop: ∀s3:Sh,s3={s with heap:=h1,toks:=s.toks+([]:List (Str×Vl)).length}->
   codeAny (model X.prog X.w) X.A (.compLoop (.ListComp elt [⟨tg,iter,ifs,0⟩] sc pos) 0 (.ref it) (.ref D) (compEnvC sc (c8x X.env sc) C X.env)) (RR (.ref D) C) s3:=by
  rintro s3 rfl
  have I0:Inv (cxC X vs sc C s H fp) pins (a3c vs σ) H {s with heap:=h1,toks:=s.toks+([]:List (Str×Vl)).length}:=c6r S I hf hobj old hns (by lia)
  refine c2c (fun n s'=> ∃i ys its no H',Inv (cxC X vs sc C s H fp) pins (a3c vs σ) H' s'/\tn i s'.heap/\(∀b∈fp,H' b=none)/\H' D=none/\
   s'.heap.get? D=some {cls:= .type "list",data:= .seq its.toArray no}/\Vals ys its/\W i n ys H') ?_ m0
   ⟨0,[],[],0,H,I0,T.keep 0 _ _ st fun b hb o e=>old b o e,fun b hb=>(hf b hb).1,I.hok.fresh (by lia),hD1,.nil,w0⟩
  rintro n s' ⟨i,ys,its,no,H',I1,st1,fr1,dn1,dl1,va1,w1⟩
  have pinD:Inv (cxC X vs sc C s H fp) (pins++[(D,{cls:= .type "list",data:= .seq its.toArray no})]) (a3c vs σ) H' s':=I1.pins_of fun p hp=>by
   rcases a0L.mp hp with z|z
   ·exact I1.pin p (a0Z _ z)
   ·have e:p=(D,{cls:= .type "list",data:= .seq its.toArray no}):=by simpa using z
    subst e;exact⟨dl1,dn1,hDC,Dfs,fun v z=>by have z':Data.seq _ _=Data.cell v:=z;cases z'⟩
  have onlyD: ∀p∈[((D,{cls:= .type "list",data:= .seq its.toArray no}):Addr×Obj)],p.1=D:=fun p hp=>by
   have e:p=(D,{cls:= .type "list",data:= .seq its.toArray no}):=by simpa using hp
   rw[e]
  rcases turn i n ys H' w1 with⟨stop,hz,fin⟩|⟨go,hz,N,hN,step⟩
  ·refine thn (T.done (cxC X vs sc C s H fp) rfl rfl rfl hc i _ s' _ H' (fun _ _=>False) pinD (fpC onlyD fr1) st1 stop) fun r s4 ⟨hr,I4⟩=>?_
   subst hr;have d4:s4.heap.get? D=some {cls:= .type "list",data:= .seq its.toArray no}:=(I4.pin (D,_) (a0Z _ (a0Z _ (a0S ..)))).1;have Io:Inv X pins σ H' s4:=I.call' (H':=H') (ch:=fp) I4.os I4.base I4.hok I4.bare fun b hb=>by
    obtain⟨_,q1,_,q3,q4,q5⟩:=hf b hb;exact⟨q3,q1,q4,q5⟩
   obtain⟨_,a1,_,a3,a4,a5⟩:=fD H' dn1;have Ia:=Io.adopt hz va1 dn1 d4 (a0Y I.sz (by lia)) a1 a4 a5;obtain⟨m4,ns4,_⟩:=I4.loc;refine hRR D C s4 H' ys m4 Ia dn1 (fC _ ?_) ns4 fin;rw[a0c (a3K hDC)];exact I4.free
  ·refine thn (T.item (cxC X vs sc C s H fp) rfl rfl rfl hc i _ s' _ H' (fun _ _=>False) pinD (fpC onlyD fr1) st1 go) fun r s4 ⟨u,hr,h4⟩=>?_
   subst hr;refine thn h4 fun _ s5 ⟨x,H5,I5,r5,y5,st5,fr5⟩=>?_
   have I5':=I5.pinned (fpC onlyD fr5) (T.obj _ _ st5);refine thn (hg C s H fp _ s5 _ H5 x u _ I5' r5 (step x H5 y5)) fun _ s6 ⟨σ6,H6,I6,k6,q6⟩=>?_
   refine thn (ht C s H fp _ s6 σ6 H6 _ I6 q6) fun ok s7 ⟨H7,I7,q7⟩=>?_
   have len6:(a3c vs σ).length=σ6.length:=by rw[I1.len,I6.len]
   have pinned: ∀{H8:Hp} {s8:Sh},Inv (cxC X vs sc C s H fp) (pins++[(D,{cls:= .type "list",data:= .seq its.toArray no})]++b3k fp s5.heap) σ6 H8 s8->
     tn (i+1) s8.heap/\(∀b∈fp,H8 b=none)/\H8 D=none/\s8.heap.get? D=some {cls:= .type "list",data:= .seq its.toArray no}:=fun {H8 s8} I8=>by
    refine⟨T.keep _ _ _ st5 fun b hb o e=>(I8.pin (b,o) (a0Z _ (a0Z _ (a5e hb e)))).1,fun b hb=>?_,?_,?_⟩
    ·obtain⟨o,e,d⟩:=T.obj _ _ st5 b hb
     exact(I8.pin (b,o) (a0Z _ (a0Z _ (a5e hb e)))).2.1
    ·exact(I8.pin (D,_) (a0Z _ (a2Z _ (a0Z _ (a0S ..))))).2.1
    ·exact(I8.pin (D,_) (a0Z _ (a2Z _ (a0Z _ (a0S ..))))).1
   cases ok with
   |false=>
    rw[if_neg (by decide)]at q7⊢;obtain⟨m',hm,w7⟩:=hN _ _ q7;obtain⟨a1,a2,a3,a4⟩:=pinned I7;exact⟨m',hm,i+1,ys,its,no,H7,(I7.unpinned.unpinned).weak len6 k6,a1,a2,a3,a4,va1,w7⟩
   | true=>
    rw[if_pos rfl]at q7⊢;refine thn (he C s H fp _ s7 σ6 H7 _ I7 q7) fun yv s8 ⟨y,H8,I8,r8,n8⟩=>?_
    obtain⟨m',hm,w8⟩:=hN _ _ n8;obtain⟨a1,a2,a3,a4⟩:=pinned I8;have szI:its.toArray.size<=sizeLine:=by
     have:=va1.length
     rw[a0U];lia
    refine wpAny_list_append_plain ⟨no,a4⟩ (fun h' pl sb=>?_) szI;obtain⟨no',pl'⟩:=pl;have I9:Inv (cxC X vs sc C s H fp) pins σ6 H8 {s8 with heap:=h'}:=(I8.unpinned.unpinned).turned (t':=s8.toks) (it:=D) (fun b o hb e=>(sb.2 b hb).trans e) a3 hDC (.inr (a6P hDe)) cells Dpn;refine⟨m',hm,i+1,ys++[y],its++[yv],no',H8,I9.weak len6 k6,T.keep _ _ _ a1 fun b hb o e=>(sb.2 b (fne b hb).1).trans e,a2,a3,?_,va1.append (.cons r8 .nil),w8⟩;rw[pl']
    simp
 exact codeAny_compStart_list (loop _ rfl) (T.self _ 0 _ _ _ (T.keep 0 _ _ st fun b hb o e=>old b o e) (loop _ rfl))
def c6t(vs:Ss)(wi:TI)(g:TG)(tt:TT)(te:TE):TE:=fun σ H Q=>wi σ H fun J H1=>b3v vs g tt te σ J H1 fun ys H'=> ∀p,H' p=none->Q (.ref p) (upd H' p (.lst ys))
theorem CompScope.clos{pins:AO}{σ:St}{H:Hp}{s:Sh}(S:CompScope X vs sc)(I:Inv X pins σ H s):closureFor sc X.env=pure (c8x X.env sc):=
 b9n fun y hy hk=>I.ok.has y.1 (S.free y hy hk)
theorem c2d{wi:TI}(S:CompScope X vs sc)(hc:X.calm=true)(hi:PI X tg iter wi)(hg: ∀C s H fp,PG (cxC X vs sc C s H fp) tg g)(ht: ∀C s H fp,PTs (cxC X vs sc C s H fp) ifs tt)
  (he: ∀C s H fp,PE (cxC X vs sc C s H fp) elt te) (hs: ∀x,foldedSetIterable iter X.env x=pure x:=by intro _;rfl):PE X (.ListComp elt [⟨tg,iter,ifs,0⟩] sc pos) (c6t vs wi g tt te):=by
 intro pins s σ H Q I h
 rw[eval_ListComp]
 refine wpAny_comprehension_free (use:=none) rfl hs (S.clos I) S.kind S.locs ?_
 refine thn (hi pins s σ H _ I h) fun v s1 h1=>thn h1 fun itv s2 h2=>?_
 obtain⟨it,fp,tn,J,H2,e,I2,T,st2,f2,hW⟩:=h2
 subst e
 refine b0p (RR:=fun acc C=>compPost (model X.prog X.w) X.A X.xe none (EP X pins σ Q) acc C) S hc hg ht he I2 T st2 f2 hW fun D C s' H' ys m' I' hD fC ns fin=>?_
 obtain⟨c0,c1,c2,c3,c4,c5⟩:=fC
 refine⟨m',ns,fun h' sb=>⟨.ref D,_,?_,rfl,fin D hD⟩⟩
 exact I'.turned (t':=s'.toks) (it:=C) (fun b o hb e=>(sb.2 b hb).trans e) c0 c1 c3 c4 c5
theorem c8z{x:Str}{p:Pos}(S:CompScope X [x] sc)(hx:sc.names.lookup x=some .local): ∀C s H fp,PG (cxC X [x] sc C s H fp) (.Name x p) (a4m 0):=fun C s H fp=>
 a1a S.nd rfl (.inl (a4I hx)) (.inr (a4I hx))
theorem a1d{wi:TI}{x:Str}{p:Pos}(S:CompScope X [x] sc)(hc:X.calm=true)(hx:sc.names.lookup x=some .local)(hi:PI X (.Name x p) iter wi)(ht: ∀C s H fp,PTs (cxC X [x] sc C s H fp) ifs tt)
  (he: ∀C s H fp,PE (cxC X [x] sc C s H fp) elt te) (hs: ∀x,foldedSetIterable iter X.env x=pure x:=by intro _;rfl):PE X (.ListComp elt [⟨.Name x p,iter,ifs,0⟩] sc pos) (c6t [x] wi (a4m 0) tt te):=
 c2d S hc hi (c8z S hx) ht he hs
theorem d0u{wi:TI}{j:Nat}{y:Str}{py spos:Pos}(S:CompScope X vs sc)(hc:X.calm=true)(hN:X.N.Nodup)(hj:X.N[j]? =some y)(hy:X.env.scope.names.lookup y=some .local)(hi:PI X tg iter wi)(hg: ∀C s H fp,PG (cxC X vs sc C s H fp) tg g)(ht: ∀C s H fp,PTs (cxC X vs sc C s H fp) ifs tt)
  (he: ∀C s H fp,PE (cxC X vs sc C s H fp) elt te) (hsw:swapsWith (.ListComp elt [⟨tg,iter,ifs,0⟩] sc pos) (some (.Name y py)) spos.line X.env=pure true:=by rfl) (hs: ∀x,foldedSetIterable iter X.env x=pure x:=by intro _;rfl):
  PS X (.Assign [.Name y py] (.ListComp elt [⟨tg,iter,ifs,0⟩] sc pos) spos) (c6b (c6t vs wi g tt te) (a4m j)):=by
 intro pins s σ H D I h
 rw[exec_Assign_Name_used _ _ _ _ hsw]
 refine a0C (a9A (a0C ?_))
 show wpAny _ X.A (do let _ <-comprehension (.ListComp elt [⟨tg,iter,ifs,0⟩] sc pos) sc X.env _ (newList []) false (eval iter X.env) (some (assign (.Name y py) X.env))) _ _ s
 refine a0C (a3I (wpAny_comprehension_free (use:=some (assign (.Name y py) X.env)) (Q:=fun _ s'=>SP X pins D .next s') rfl hs (S.clos I) S.kind S.locs ?_) (fun _ s' hq=>a0F (a0F hq)) fun _ _ e=>e)
 refine thn (hi pins s σ H _ I h) fun v s1 h1=>thn h1 fun itv s2 h2=>?_
 obtain⟨it,fp,tn,J,H2,e,I2,T,st2,f2,hW⟩:=h2
 subst e
 refine b0p (RR:=fun acc C=>compPost (model X.prog X.w) X.A X.xe (some (assign (.Name y py) X.env)) (fun _ s'=>SP X pins D .next s') acc C) S hc hg ht he I2 T st2 f2 hW fun D' C s' H' ys m' I' hD fC ns fin=>?_
 obtain⟨c0,c1,c2,c3,c4,c5⟩:=fC
 show wpAny _ X.A (assign (.Name y py) X.env (.ref D')) _ _ _
 refine wpAny_assign_Name (b3g (v:= .ref D') I' hN hj (.inl hy) (show RelV (.ref D') (.ref D')from rfl) (fun s3 I3 ⟨a,sb,ha⟩=>?_) (.inr hy))
 have hac:a≠C:=by
  rcases ha with z|z
  ·rw[z];exact a3K c1
  ·exact c4 y a z
 refine⟨m',ns.sameBut sb (a3K hac),fun h' sb'=>⟨_,_,I3.turned (t':=s3.toks) (it:=C) (fun b o hb e=>(sb'.2 b hb).trans e) c0 c1 c3 c4 c5,fin D' hD⟩⟩
theorem b7n{wi:TI}{j:Nat}{x y:Str}{p py spos:Pos}(S:CompScope X [x] sc)(hc:X.calm=true)(hx:sc.names.lookup x=some .local)(hN:X.N.Nodup)(hj:X.N[j]? =some y)(hy:X.env.scope.names.lookup y=some .local)(hi:PI X (.Name x p) iter wi)
  (ht: ∀C s H fp,PTs (cxC X [x] sc C s H fp) ifs tt) (he: ∀C s H fp,PE (cxC X [x] sc C s H fp) elt te)
  (hsw:swapsWith (.ListComp elt [⟨.Name x p,iter,ifs,0⟩] sc pos) (some (.Name y py)) spos.line X.env=pure true:=by rfl) (hs: ∀x,foldedSetIterable iter X.env x=pure x:=by intro _;rfl):
  PS X (.Assign [.Name y py] (.ListComp elt [⟨.Name x p,iter,ifs,0⟩] sc pos) spos) (c6b (c6t [x] wi (a4m 0) tt te) (a4m j)):=d0u S hc hN hj hy hi (c8z S hx) ht he hsw hs
end
section
variable{K:W.Frag}{a:Addr}{xs:List V}{vs:Ss}{g:TG}{tt:TT}{te:TE}{σ:St}{H:Hp}{Fin:List V->Hp->Prop}
theorem b7o(Pv:Nat->List V->Hp->Prop)(hz:xs.length<=sizeLine)(h0:Pv 0 [] H)(hl: ∀i ys H,i<=xs.length->Pv i ys H->SqT K H a xs/\ys.length<=i)
  (hs: ∀i v ys H,xs[i]? =some v->Pv i ys H->g v (a3c vs σ) H fun σ2 H2=>b5n (a3c vs σ) σ2/\tt σ2 H2 fun b H3=>if b=true then te σ2 H3 fun y H4=>Pv (i+1) (ys++[y]) H4 else Pv (i+1) ys H3)
  (hd: ∀ys H,Pv xs.length ys H->Fin ys H):b3v vs g tt te σ (Itt K a) H Fin:=by
 refine⟨fun i m ys H=>m=xs.length-i/\i<=xs.length/\Pv i ys H,⟨xs.length,by simp,Nat.zero_le _,h0⟩,?_⟩
 rintro i m ys H ⟨rfl,hi,p⟩
 obtain⟨q,hy⟩:=hl i ys H hi p
 by_cases hlt:i<xs.length
 ·refine .inr ⟨⟨xs,xs[i],q,by simp[hlt]⟩,by lia,Pv (i+1),fun zs H' p'=>⟨xs.length-(i+1),Nat.sub_succ_lt_self _ _ hlt,rfl,hlt,p'⟩,fun v H' y=>?_⟩
  obtain⟨e,y⟩:=y
  subst e
  exact hs i v ys _ (y xs q) p
 ·have e:i=xs.length:=by lia
  subst e
  exact .inl ⟨⟨xs,q,a0J _⟩,by lia,hd ys H p⟩
theorem a1v(Pv:Nat->List V->Hp->Prop)(hz:xs.length<=sizeLine)(h0:Pv 0 [] H)(hl: ∀i ys H,i<=xs.length->Pv i ys H->SqL K H a xs/\ys.length<=i)
  (hs: ∀i v ys H,xs[i]? =some v->Pv i ys H->g v (a3c vs σ) H fun σ2 H2=>b5n (a3c vs σ) σ2/\tt σ2 H2 fun b H3=>if b=true then te σ2 H3 fun y H4=>Pv (i+1) (ys++[y]) H4 else Pv (i+1) ys H3)
  (hd: ∀ys H,Pv xs.length ys H->Fin ys H):b3v vs g tt te σ (Itl K a) H Fin:=by
 refine⟨fun i m ys H=>m=xs.length-i/\i<=xs.length/\Pv i ys H,⟨xs.length,by simp,Nat.zero_le _,h0⟩,?_⟩
 rintro i m ys H ⟨rfl,hi,p⟩
 obtain⟨q,hy⟩:=hl i ys H hi p
 by_cases hlt:i<xs.length
 ·refine .inr ⟨⟨xs,xs[i],q,by simp[hlt]⟩,by lia,Pv (i+1),fun zs H' p'=>⟨xs.length-(i+1),Nat.sub_succ_lt_self _ _ hlt,rfl,hlt,p'⟩,fun v H' y=>?_⟩
  obtain⟨e,y⟩:=y
  subst e
  exact hs i v ys _ (y xs q) p
 ·have e:i=xs.length:=by lia
  subst e
  exact .inl ⟨⟨xs,q,a0J _⟩,by lia,hd ys H p⟩
theorem a3s{lo:Int}{n:Nat}(Pv:Nat->List V->Hp->Prop)(hz:n<=sizeLine)(h0:Pv 0 [] H)(hl: ∀i ys H,i<=n->Pv i ys H->ys.length<=i)
  (hs: ∀i ys H,i<n->Pv i ys H->g (.int (lo+i)) (a3c vs σ) H fun σ2 H2=>b5n (a3c vs σ) σ2/\tt σ2 H2 fun b H3=>if b=true then te σ2 H3 fun y H4=>Pv (i+1) (ys++[y]) H4 else Pv (i+1) ys H3)
  (hd: ∀ys H,Pv n ys H->Fin ys H):b3v vs g tt te σ (Itr lo n) H Fin:=by
 refine⟨fun i m ys H=>m=n-i/\i<=n/\Pv i ys H,⟨n,by simp,Nat.zero_le _,h0⟩,?_⟩
 rintro i m ys H ⟨rfl,hi,p⟩
 have hy:=hl i ys H hi p
 by_cases hlt:i<n
 ·refine .inr ⟨hlt,by lia,Pv (i+1),fun zs H' p'=>⟨n-(i+1),Nat.sub_succ_lt_self _ _ hlt,rfl,hlt,p'⟩,fun v H' y=>?_⟩
  obtain⟨e,y⟩:=y
  subst e y
  exact hs i ys _ hlt p
 ·have e:i=n:=by lia
  subst e
  exact .inl ⟨a0J _,by lia,hd ys H p⟩
theorem b5o{x:Str}{xs:List V}{f:V->V}(hz:xs.length<=sizeLine)(hq:SqT K H a xs)(hs: ∀v (Q:VK),v∈xs->Q (f v) H->te (some v::σ) H Q)(hd:Fin (xs.map f) H):
  b3v [x] (a4m 0) tYes te σ (Itt K a) H Fin:=by
 refine b7o (fun i ys H'=>H'=H/\ys=(xs.take i).map f) hz ⟨rfl,rfl⟩ (fun i ys H' hi ⟨e,ey⟩=>?_) (fun i v ys H' hv ⟨e,ey⟩=>⟨a1c,?_⟩) (fun ys H' ⟨e,ey⟩=>?_)
 ·subst e ey
  exact⟨hq,by simp;lia⟩
 ·subst e ey
  refine a4k (hs v _ (a0E hv) ⟨rfl,?_⟩)
  rw[a1V,hv,a1G]
  rfl
 ·subst e ey
  rw[a1Q]
  exact hd
theorem b9o{x:Str}{xs:List V}{f:V->Bool}(hz:xs.length<=sizeLine)(hq:SqT K H a xs)(hs: ∀v (Q:Bool->Hp->Prop),v∈xs->Q (f v) H->tt (some v::σ) H Q)(he: ∀v (Q:VK),v∈xs->Q v H->te (some v::σ) H Q)
  (hd:Fin (xs.filter f) H):b3v [x] (a4m 0) tt te σ (Itt K a) H Fin:=by
 refine b7o (fun i ys H'=>H'=H/\ys=(xs.take i).filter f) hz ⟨rfl,rfl⟩ (fun i ys H' hi ⟨e,ey⟩=>?_) (fun i v ys H' hv ⟨e,ey⟩=>⟨a1c,?_⟩) (fun ys H' ⟨e,ey⟩=>?_)
 ·subst e ey
  exact⟨hq,a0Y (a1K _ _) (by simp;lia)⟩
 ·subst e ey
  refine hs v _ (a0E hv) ?_
  have hstep:(xs.take (i+1)).filter f=(xs.take i).filter f++(if f v then[v]else[]):=by
   rw[a1V,hv,a4T];cases hp:f v<;>simp[hp]
  cases hp:f v with
  |true=>
   refine b0n (he v _ (a0E hv) ⟨rfl,?_⟩);rw[hstep,hp];rfl
  |false=>
   refine b0d ⟨rfl,?_⟩;rw[hstep,hp]
   simp
 ·subst e ey
  rw[a1Q]
  exact hd
end
inductive Dt where
 |non|int (i:Int)|str (x:Str)|lst (ds:List Dt)|tup (ds:List Dt)
inductive Rep (K:W.Frag) (H:Hp):Nat->Dt->V->Prop where
 |non (n:Nat):Rep K H n .non .non
 |int (n:Nat) (i:Int):Rep K H n (.int i) (.int i)
 |str (n:Nat) (x:Str):Rep K H n (.str x) (.str x)
 |lst {n:Nat} {ds:List Dt} {a:Addr} {xs:List V} (h:SqL K H a xs) (hl:xs.length=ds.length) (hi: ∀(i:Nat) d v,ds[i]? =some d->xs[i]? =some v->Rep K H n d v):Rep K H (n+1) (.lst ds) (.ref a)
 |tup {n:Nat} {ds:List Dt} {a:Addr} {xs:List V} (h:SqT K H a xs) (hl:xs.length=ds.length) (hi: ∀(i:Nat) d v,ds[i]? =some d->xs[i]? =some v->Rep K H n d v):Rep K H (n+1) (.tup ds) (.ref a)
theorem a4q{α:Type}{xs ys:List α}(hl:xs.length=ys.length)(h: ∀(i:Nat) a b,xs[i]? =some a->ys[i]? =some b->a=b):xs=ys:=by
 refine a7V hl fun i h1 h2=>?_
 exact h i _ _ (by simp[h1]) (by simp[h2])
section
variable{X:Cx}{pins:AO}{σ:St}{H:Hp}{s:Sh}
theorem c9a{a:Addr}{xs ys:List V}(I:Inv X pins σ H s)(h:SqL X.K H a xs)(h':SqT X.K H a ys):False:=by
 obtain⟨_,_,p,_⟩:=I.list h
 obtain⟨_,_,q,_⟩:=I.tuple h'
 exact SeqAt.ne_of_list_tuple p.isList (show s.heap.IsTuple a _ from q) rfl
theorem b5p(I:Inv X pins σ H s): ∀(n:Nat) {d d':Dt} {v:V},Rep X.K H n d v->Rep X.K H n d' v->d=d':=by
 intro n
 induction n with
 |zero=>
  intro d d' v r r'
  cases r<;>cases r'<;>rfl
 | succ n ih=>
  intro d d' v r r'
  cases r with
  |non=>cases r';rfl
  |int=>cases r';rfl
  |str=>cases r';rfl
  | @lst _ ds a xs h hl hi=>
   cases r' with
   | @lst _ ds' _ xs' h' hl' hi'=>
    have e:=I.list_inj h h';subst e;refine a1Z Dt.lst (a4q (hl.symm.trans hl') fun i d d' e1 e2=>?_);have hlt:i<xs.length:=by rw[hl];exact(a0B.mp e1).1
    exact ih (hi i d xs[i] e1 (a0A hlt)) (hi' i d' xs[i] e2 (a0A hlt))
   |tup h' _ _=>exact(c9a I h h').elim
  | @tup _ ds a xs h hl hi=>
   cases r' with
   |lst h' _ _=>exact(c9a I h' h).elim
   | @tup _ ds' _ xs' h' hl' hi'=>
    have e:=I.tuple_inj h h';subst e;refine a1Z Dt.tup (a4q (hl.symm.trans hl') fun i d d' e1 e2=>?_);have hlt:i<xs.length:=by rw[hl];exact(a0B.mp e1).1
    exact ih (hi i d xs[i] e1 (a0A hlt)) (hi' i d' xs[i] e2 (a0A hlt))
theorem b3w{ds ds':List Dt}(hl:ds.length=ds'.length){e:Nat->Bool}{N:Nat}(hN:N=ds.length)(he: ∀(j:Nat) d d',ds[j]? =some d->ds'[j]? =some d'->(e j=true↔d=d')):((List.range N).all e=true↔ds=ds'):=by
 subst hN
 rw[a5O]
 constructor
 ·intro h
  refine a4q hl fun i a b e1 e2=>?_
  exact(he i a b e1 e2).mp (h i (a2J.mpr (a0B.mp e1).1))
 ·intro h i hi
  have hi':=a2J.mp hi
  subst h
  exact(he i ds[i] ds[i] (by simp[hi']) (by simp[hi'])).mpr rfl
theorem b9p{P:Nat->Bool->Prop}(h: ∀j,∃b,P j b): ∃e:Nat->Bool,∀j,P j (e j):=⟨fun j=>Classical.choose (h j),fun j=>a3N (h j)⟩
theorem b0q{A:Ar}{its its':Vs}{ds ds':List Dt}(h1:its.length=ds.length)(h2:its'.length=ds'.length)
  (h: ∀(j:Nat) u u' d d',its[j]? =some u->its'[j]? =some u'->ds[j]? =some d->ds'[j]? =some d'-> ∃b,SeqAt.EqAt A s u u' b/\(b=true↔d=d')):
  ∃e:Nat->Bool,(∀j (g1:j<its.toArray.size) (g2:j<its'.toArray.size),SeqAt.EqAt A s its.toArray[j] its'.toArray[j] (e j))/\ ∀(j:Nat) d d',ds[j]? =some d->ds'[j]? =some d'->(e j=true↔d=d'):=by
 obtain⟨e,he⟩:=b9p (P:=fun j b=>(∀u u',its[j]? =some u->its'[j]? =some u'->SeqAt.EqAt A s u u' b)/\ ∀d d',ds[j]? =some d->ds'[j]? =some d'->(b=true↔d=d')) fun j=>by
  by_cases g:j<its.length/\j<its'.length
  ·obtain⟨b,h3,h4⟩:=h j its[j] its'[j] (ds[j]'(by lia)) (ds'[j]'(by lia)) (by simp[g.1]) (by simp[g.2]) (List.getElem?_eq_getElem _) (List.getElem?_eq_getElem _)
   refine⟨b,fun u u' q q'=>?_,fun d d' q q'=>?_⟩
   ·rw[a0A g.1]at q
    rw[a0A g.2]at q';cases q;cases q';exact h3
   ·rw[a0A (by lia)]at q
    rw[a0A (by lia)]at q';cases q;cases q';exact h4
  ·refine⟨true,fun u u' q q'=>absurd ⟨(a0B.mp q).1,(a0B.mp q').1⟩ g,fun d d' q q'=>?_⟩
   have q1:=(a0B.mp q).1;have q2:=(a0B.mp q').1;exact absurd ⟨by lia,by lia⟩ g
 refine⟨e,fun j g1 g2=>?_,fun j=>(he j).2⟩
 simp only[List.size_toArray]at g1 g2
 exact(he j).1 _ _ (by simp[g1]) (by simp[g2])
theorem c2e(I:Inv X pins σ H s){n:Nat}{A:Ar}(hu:A.units<cLine){d d':Dt}{a a':Addr}(r:Rep X.K H (n+1) d (.ref a))(r':Rep X.K H (n+1) d' (.ref a'))
  (ih: ∀{d d':Dt} {v v':V} {u u':Vl},Rep X.K H n d v->Rep X.K H n d' v'->RelV v u->RelV v' u'-> ∃b,SeqAt.EqAt A.in1 s u u' b/\(b=true↔d=d')):
  ∃b,SeqAt.RcAt A s (.ref a) (.ref a') b/\SeqAt.RcNeAt A s (.ref a) (.ref a') (!b)/\(b=true↔d=d'):=by
 cases r with
 | @lst _ ds _ xs h hl hi=>
  obtain⟨its,rv,p,_⟩:=I.list h
  have l1:=rv.length
  cases r' with
  | @lst _ ds' _ xs' h' hl' hi'=>
   obtain⟨its',rv',p',_⟩:=I.list h';have l2:=rv'.length;by_cases hs:ds.length=ds'.length
   ·obtain⟨e,e1,e2⟩:=b0q (A:=A.in1) (s:=s) (its:=its) (its':=its') (ds:=ds) (ds':=ds') (by lia) (by lia) fun j u u' d d' q1 q2 q3 q4=>by
     have g1:=(a0B.mp q3).1;have g2:=(a0B.mp q4).1;have k1:xs[j]? =some (xs[j]'(by lia)):=a0A _;have k2:xs'[j]? =some (xs'[j]'(by lia)):=a0A _;obtain⟨w1,z1,y1⟩:=rv.get k1;obtain⟨w2,z2,y2⟩:=rv'.get k2;rw[q1]at z1;rw[q2]at z2;cases z1;cases z2;exact ih (hi j d _ q3 k1) (hi' j d' _ q4 k2) y1 y2
    have hz:its.toArray.size=its'.toArray.size:=by simp only[List.size_toArray];lia
    refine⟨_,SeqAt.RcAt.lists p.isList p'.isList hz hu e1,SeqAt.RcNeAt.lists p.isList p'.isList hz hu e1,?_⟩;rw[b3w hs (by simp only[List.size_toArray];lia) e2];exact⟨fun z=>by rw[z],fun z=>by cases z;rfl⟩
   ·have hz:(its.toArray.size != its'.toArray.size)=true:=by
     rw[bne_iff_ne];simp only[List.size_toArray];lia
    refine⟨false,SeqAt.RcAt.lists_lengths p.isList p'.isList hz hu,SeqAt.RcNeAt.lists_lengths p.isList p'.isList hz hu,⟨fun z=>(by cases z),fun z=>?_⟩⟩;cases z;exact absurd rfl hs
  | @tup _ ds' _ xs' h' hl' hi'=>
   obtain⟨its',rv',p',_⟩:=I.tuple h';exact⟨false,SeqAt.RcAt.list_tuple p.isList (show s.heap.IsTuple a' _ from p') hu,SeqAt.RcNeAt.list_tuple p.isList (show s.heap.IsTuple a' _ from p') hu,⟨fun z=>(by cases z),fun z=>(by cases z)⟩⟩
 | @tup _ ds _ xs h hl hi=>
  obtain⟨its,rv,p,_⟩:=I.tuple h
  have l1:=rv.length
  cases r' with
  | @lst _ ds' _ xs' h' hl' hi'=>
   obtain⟨its',rv',p',_⟩:=I.list h';exact⟨false,SeqAt.RcAt.tuple_list (show s.heap.IsTuple a _ from p) p'.isList hu,SeqAt.RcNeAt.tuple_list (show s.heap.IsTuple a _ from p) p'.isList hu,⟨fun z=>(by cases z),fun z=>(by cases z)⟩⟩
  | @tup _ ds' _ xs' h' hl' hi'=>
   obtain⟨its',rv',p',_⟩:=I.tuple h';have l2:=rv'.length;obtain⟨e,e1,e2⟩:=b0q (A:=A.in1) (s:=s) (its:=its) (its':=its') (ds:=ds) (ds':=ds') (by lia) (by lia) fun j u u' d d' q1 q2 q3 q4=>by
     have g1:=(a0B.mp q3).1;have g2:=(a0B.mp q4).1;have k1:xs[j]? =some (xs[j]'(by lia)):=a0A _;have k2:xs'[j]? =some (xs'[j]'(by lia)):=a0A _;obtain⟨w1,z1,y1⟩:=rv.get k1;obtain⟨w2,z2,y2⟩:=rv'.get k2;rw[q1]at z1;rw[q2]at z2;cases z1;cases z2;exact ih (hi j d _ q3 k1) (hi' j d' _ q4 k2) y1 y2
   refine⟨_,SeqAt.RcAt.tuples (show s.heap.IsTuple a _ from p) (show s.heap.IsTuple a' _ from p') hu e1,SeqAt.RcNeAt.tuples (show s.heap.IsTuple a _ from p) (show s.heap.IsTuple a' _ from p') hu e1,?_⟩;by_cases hs:ds.length=ds'.length
   ·have hz:(its.toArray.size==its'.toArray.size)=true:=by
     rw[a7E];simp only[List.size_toArray];lia
    rw[hz,Bool.and_true,b3w hs (by simp only[List.size_toArray];lia) e2];exact⟨fun z=>by rw[z],fun z=>by cases z;rfl⟩
   ·have hz:(its.toArray.size==its'.toArray.size)=false:=by
     rw[a3C];simp only[List.size_toArray];lia
    rw[hz,Bool.and_false];refine⟨fun z=>(by cases z),fun z=>?_⟩;cases z;exact absurd rfl hs
theorem c2f{n m:Nat}{d d':Dt}{v v':V}(r:Rep X.K H n d v)(r':Rep X.K H m d' v')(f:a4p v=true)(f':a4p v'=true):(eqV v v'=true↔d=d'):=by
 cases r<;>first|(cases f;done)|skip
 all_goals (cases r'<;>first|(cases f';done)|skip)
 all_goals first|exact⟨fun _=>rfl,fun _=>rfl⟩|exact⟨fun z=>Bool.noConfusion z,fun z=>by cases z⟩|exact⟨fun z=>a1Z Dt.int (eq_of_beq z),fun z=>by injection z with z;exact a7E.mpr z⟩|exact⟨fun z=>a1Z Dt.str (eq_of_beq z),fun z=>by injection z with z;exact a7E.mpr z⟩
theorem b3x(I:Inv X pins σ H s): ∀(n:Nat) {A:Ar},A.units+n<cLine-> ∀{d d':Dt} {v v':V} {u u':Vl},Rep X.K H n d v->Rep X.K H n d' v'->RelV v u->RelV v' u'-> ∃b,SeqAt.EqAt A s u u' b/\(b=true↔d=d'):=by
 intro n
 induction n with
 |zero=>
  intro A hu d d' v v' u u' r r' q q'
  have f:a4p v=true:=by cases r<;>rfl
  have f':a4p v'=true:=by cases r'<;>rfl
  exact⟨_,b7l q q' f f',c2f r r' f f'⟩
 | succ n ih=>
  intro A hu d d' v v' u u' r r' q q'
  by_cases f:a4p v=true
  ·by_cases f':a4p v'=true
   ·exact⟨_,b7l q q' f f',c2f r r' f f'⟩
   ·refine⟨false,?_,⟨fun z=>(by cases z),fun z=>?_⟩⟩
    ·cases r' with
     |non=>exact absurd rfl f'
     |int=>exact absurd rfl f'
     |str=>exact absurd rfl f'
     | @lst _ ds a xs h hl hi=>
      cases q';obtain⟨its,_,p,_⟩:=I.list h;cases r with
      |non=>cases q;exact SeqAt.EqAt.none_list p.isList (by lia)
      |int _ i=>obtain⟨t,rfl⟩:=q;exact SeqAt.EqAt.int_list i t p.isList (by lia)
      |str _ x=>obtain⟨t,rfl⟩:=q;exact SeqAt.EqAt.str_list x t p.isList (by lia)
      |lst _ _ _=>cases f
      |tup _ _ _=>cases f
     | @tup _ ds a xs h hl hi=>
      cases q';obtain⟨its,_,p,_⟩:=I.tuple h;have p':s.heap.IsTuple a its.toArray:=p;cases r with
      |non=>cases q;exact SeqAt.EqAt.none_tuple p' (by lia)
      |int _ i=>obtain⟨t,rfl⟩:=q;exact SeqAt.EqAt.int_tuple i t p' (by lia)
      |str _ x=>obtain⟨t,rfl⟩:=q;exact SeqAt.EqAt.str_tuple x t p' (by lia)
      |lst _ _ _=>cases f
      |tup _ _ _=>cases f
    ·subst z
     cases r<;>first|(cases f;done)|skip
     all_goals (cases r';exact absurd rfl f')
  ·by_cases f':a4p v'=true
   ·refine⟨false,?_,⟨fun z=>(by cases z),fun z=>?_⟩⟩
    ·cases r with
     |non=>exact absurd rfl f
     |int=>exact absurd rfl f
     |str=>exact absurd rfl f
     | @lst _ ds a xs h hl hi=>
      cases q;obtain⟨its,_,p,_⟩:=I.list h;cases r' with
      |non=>cases q';exact SeqAt.EqAt.list_none p.isList (by lia)
      |int _ i=>obtain⟨t,rfl⟩:=q';exact SeqAt.EqAt.list_int i t p.isList (by lia)
      |str _ x=>obtain⟨t,rfl⟩:=q';exact SeqAt.EqAt.list_str x t p.isList (by lia)
      |lst _ _ _=>cases f'
      |tup _ _ _=>cases f'
     | @tup _ ds a xs h hl hi=>
      cases q;obtain⟨its,_,p,_⟩:=I.tuple h;have p':s.heap.IsTuple a its.toArray:=p;cases r' with
      |non=>cases q';exact SeqAt.EqAt.tuple_none p' (by lia)
      |int _ i=>obtain⟨t,rfl⟩:=q';exact SeqAt.EqAt.tuple_int i t p' (by lia)
      |str _ x=>obtain⟨t,rfl⟩:=q';exact SeqAt.EqAt.tuple_str x t p' (by lia)
      |lst _ _ _=>cases f'
      |tup _ _ _=>cases f'
    ·subst z
     cases r'<;>first|(cases f';done)|skip
     all_goals (cases r;exact absurd rfl f)
   ·have ex: ∀{m:Nat} {d:Dt} {v:V},Rep X.K H m d v-> ¬a4p v=true-> ∃a,v= .ref a:=fun {m d v} r f=>by
     cases r<;>first|exact⟨_,rfl⟩|exact absurd rfl f
    obtain⟨a,rfl⟩:=ex r f;obtain⟨a',rfl⟩:=ex r' f';cases q;cases q';by_cases ha:a=a'
    ·subst ha
     exact⟨true,SeqAt.EqAt.same _,⟨fun _=>b5p I (n+1) r r',fun _=>rfl⟩⟩
    ·obtain⟨b,h1,_,h3⟩:=c2e I (A:=A) (by lia) r r' fun r r' q q'=>ih (A:=A.in1) (by show A.units+1+n<cLine;lia) r r' q q'
     exact⟨b,.of_refs ha h1,h3⟩
def d2d(K:W.Frag)(neg:Bool):R2:=fun x y H Q=> ∃a a' n d d',x= .ref a/\y= .ref a'/\Rep K H (n+1) d (.ref a)/\Rep K H (n+1) d' (.ref a')/\n<=30/\ ∀b,(b=true↔d=d')->Q (.bl (if neg then !b else b)) H
theorem b7p(hu:X.A.units+64<cLine):OpR X (compareOp .Eq) (d2d X.K false):=by
 intro pins s σ H x y v u Q I rx ry h
 obtain⟨a,a',n,d,d',rfl,rfl,r,r',hn,q⟩:=h
 cases rx
 cases ry
 obtain⟨b,h1,_,h3⟩:=c2e I (A:=X.A) (by lia) r r' fun r r' q q'=>b3x I n (A:=X.A.in1) (by show X.A.units+1+n<cLine;lia) r r' q q'
 exact h1 _ _ _ _ ⟨.bl b,H,I,rfl,q b h3⟩
theorem b3y(hu:X.A.units+64<cLine):OpR X (compareOp .NotEq) (d2d X.K true):=by
 intro pins s σ H x y v u Q I rx ry h
 obtain⟨a,a',n,d,d',rfl,rfl,r,r',hn,q⟩:=h
 cases rx
 cases ry
 obtain⟨b,_,h2,h3⟩:=c2e I (A:=X.A) (by lia) r r' fun r r' q q'=>b3x I n (A:=X.A.in1) (by show X.A.units+1+n<cLine;lia) r r' q q'
 exact h2 _ _ _ _ ⟨.bl (!b),H,I,rfl,q b h3⟩
end
theorem b7q{K:W.Frag}{H:Hp}{n:Nat}{is:Zs}(i:Nat)(d:Dt)(v:V)(h1:(is.map Dt.int)[i]? =some d)(h2:(is.map V.int)[i]? =some v):Rep K H n d v:=by
 rw[a0G]at h1 h2
 cases e:is[i]? with
 |none=>rw[e]at h1;cases h1
 |some k=>
  rw[e]at h1 h2
  cases h1
  cases h2
  exact .int n k
theorem repL{K:W.Frag}{H:Hp}{n:Nat}{is:Zs}{a:Addr}(h:SqL K H a (is.map V.int)):Rep K H (n+1) (.lst (is.map Dt.int)) (.ref a):= .lst h (by simp) b7q
theorem repT{K:W.Frag}{H:Hp}{n:Nat}{is:Zs}{a:Addr}(h:SqT K H a (is.map V.int)):Rep K H (n+1) (.tup (is.map Dt.int)) (.ref a):= .tup h (by simp) b7q
theorem a7b{α β:Type}{f:α->β}(hf: ∀a b,f a=f b->a=b): ∀{xs ys:List α},xs.map f=ys.map f->xs=ys
 | [],[],_=>rfl
 | [],_::_,h=>by simp at h
 |_::_,[],h=>by simp at h
 |a::xs,b::ys,h=>by
  simp only[List.map_cons,List.cons.injEq]at h
  rw[hf a b h.1,a7b hf h.2]
theorem dt_intsT{xs ys:Zs}:Dt.tup (xs.map Dt.int)=Dt.tup (ys.map Dt.int)↔xs=ys:=
 ⟨fun h=>by injection h with h;exact a7b (fun a b e=>by injection e) h,fun h=>by rw[h]⟩
def a3t(n:Nat):List V:=(List.range n).map fun(i:Nat)=>V.int (i:Int)
section
variable{X:Cx}
def d3h:List V->Hp->VK->Prop:=fun xs H Q=> ∃j:Int,xs=[.int j]/\ ∀p,H p=none->Q (.ref p) (upd H p (.rng 0 j))
theorem a9c:a5o X (.type "range") d3h:=by
 intro pins s σ H xs us Q I r h
 obtain⟨j,rfl,q⟩:=h
 obtain⟨u,rfl,t,rfl⟩:=a5q r
 refine call_range_1 ⟨.ref s.heap.objs.size,_,I.laid (t':=s.toks+1+1) (fun b o e=>a0I _ e) (a0J _) (show ObjOk X.prog X.w _ _ _ (.rng 0 j)from⟨_,_,_,a0V _ rfl⟩),rfl,q _ (I.hok.fresh (a0J _))⟩
theorem a9d{n:Nat}{acc:AV}(h:ItemsOf (fun i v=> ∃t,v=Value.int ((0:Int)+(i:Nat) * 1) t) acc n):Vals (a3t n) acc.toList:=by
 obtain⟨hs,hi⟩:=h
 have go: ∀(xs:List V) (us:Vs),xs.length=us.length->(∀(j:Nat) x u,xs[j]? =some x->us[j]? =some u->RelV x u)->Vals xs us:=by
  intro xs
  induction xs with
  |nil=>intro us hl _;cases us with
   |nil=>exact .nil
   |cons=>simp at hl
  |cons x xs ih=>
   intro us hl h;cases us with
   |nil=>simp at hl
   |cons u us=>exact .cons (h 0 x u rfl rfl) (ih us (by simpa using hl) fun j a b e1 e2=>h (j+1) a b (by simpa using e1) (by simpa using e2))
 refine go _ _ (by simp[a3t,hs]) fun j x u e1 e2=>?_
 obtain⟨t,rfl⟩:=hi j u (by simpa using e2)
 unfold a3t at e1
 rw[a0G]at e1
 have hj:j<n:=by
  have:=(a0B.mp e2).1
  simpa[hs]using this
 rw[a3V hj]at e1
 cases e1
 refine⟨t,?_⟩
 congr 1
 lia
theorem a9e{j:Int}(h0:0<=j)(h1:j<=1000000):Builtin.Range.small 0 j 1=true:=small_one (by decide) (by decide) (by lia) (by lia)
theorem a9f{j:Int}(h0:0<=j):Builtin.Range.rangeSize 0 j 1=(j.toNat:Nat):=by
 rw[rangeSize_one]
 split<;>lia
def c6u:List V->Hp->VK->Prop:=fun xs H Q=> ∃p j,xs=[.ref p]/\H p=some (.rng 0 j)/\0<=j/\j<=1000000/\ ∀l,H l=none->Q (.ref l) (upd H l (.lst (a3t j.toNat)))
theorem b1o(hc:X.calm=true):a5o X (.type "list") c6u:=by
 intro pins s σ H xs us Q I r h
 obtain⟨p,j,rfl,hp,h0,h1,q⟩:=h
 obtain⟨u,rfl,rx⟩:=a5q r
 cases rx
 obtain⟨t1,t2,t3,e⟩:=I.hok p _ hp
 refine call_list_range (I.ok.hd hc) e (a9e h0 h1) (a9f h0) (by lia) fun h' tk acc c' kp e' hit=>?_
 have hv:=a9d hit
 have e2:h'.get? s.heap.objs.size=some {cls:= .type "list",data:= .seq acc.toList.toArray c'}:=by simpa using e'
 exact⟨.ref s.heap.objs.size,_,I.laid (t':=tk) kp (a0J _) (show ObjOk X.prog X.w _ h' _ (.lst (a3t j.toNat))from⟨by rw[a1B];simp[a3t];lia,acc.toList,c',hv,e2⟩),rfl,q _ (I.hok.fresh (Nat.le_refl _))⟩
end
section
open AutoSeq1 (wpAny_loadPart')
abbrev a8g(j:Int)(acc:AV):Prop:=ItemsOf (fun i v=> ∃t,v=Value.int ((0:Int)+(i:Nat) * 1) t) acc j.toNat
theorem b5q{prog:Pg}{w:World}{A:Ar}{E:VP}{s:Sh}{Q:Vs->Sh->Prop}{r:Addr}{j:Int}{t u v:Tok}(hh:A.handled=none)(hr:IsRange s.heap r 0 j 1 t u v)(h0:0<=j)(h1:j<=1000000)
  (hQ: ∀h' tk acc,(∀b o,s.heap.get? b=some o->h'.get? b=some o)->a8g j acc->Q acc.toList {s with heap:=h',toks:=tk}):wpAny (model prog w) A (collect (.ref r)) Q E s:=by
 have hS:(s.heap.push {cls:= .type "list",data:= .seq ([]:Vs).toArray}).get? s.heap.objs.size=some {cls:= .type "list",data:= .seq #[] 0}:=by exact a0V _ rfl
 unfold collect;refine wpAny_bind (wpAny_runValue (codeAny_builtin F.entry_proto_collect ?_));rw[Around.under_plainId F.plain_proto_collect _]
 show wpAny _ A.in1 (newList [] >>= fun l=>again (.builtin "list.__iadd__" ⟨[l,.ref r],[]⟩)) _ _ s
 refine a0C (a2N (a0F ⟨a6S F.plain_list_iadd _,a5C F.entry_list_iadd ?_⟩));rw[a4J F.plain_list_iadd _]
 show wpAny _ A.in1 (Builtin.List.listExtendWith (.ref s.heap.objs.size) (.ref r) (.ref s.heap.objs.size)) _ _ _
 have fin': ∀s',(∃h' tk acc c',s'={s with heap:=h',toks:=tk}/\(∀b o,s.heap.get? b=some o->h'.get? b=some o)/\h'.get? s.heap.objs.size=some {cls:= .type "list",dict:=none,data:= .seq acc c',slots:= #[]}/\a8g j acc)->
   wpAny (model prog w) A (match Value.ref s.heap.objs.size with
    | Value.ref a=>do
     let o <-load a
     match o.data with
      |Data.seq xs _=>pure xs.toList
      |_=>unsupported "internal:collect"
    |_=>unsupported "internal:collect") Q E s':=by
  rintro s' ⟨h',tk,acc,c',rfl,kp,hS',hit⟩
  show wpAny _ A (load s.heap.objs.size >>= _) _ _ _
  exact a0C (wpAny_load hS' (a0F (hQ h' tk acc kp hit)))
 refine a3I (wpAny_extend_range (A:=A) (R:=fun r s'=>r= .ok (.ret (.ref s.heap.objs.size))/\ ∃h' tk acc c',s'={s with heap:=h',toks:=tk}/\(∀b o,s.heap.get? b=some o->h'.get? b=some o)/\h'.get? s.heap.objs.size=some {cls:= .type "list",dict:=none,data:= .seq acc c',slots:= #[]}/\a8g j acc)
  (s:={s with heap:=s.heap.push {cls:= .type "list",data:= .seq ([]:Vs).toArray}}) hh (a0I _ hr) (a9e h0 h1) (a9f h0) (by lia) _ (.ref s.heap.objs.size) 0 hS fun h' tk acc c' kp hS' hit=>
   ⟨rfl,h',tk,acc,c',rfl,fun b o e=>kp b o (a1J (a0T e)) (a0I _ e),hS',hit⟩) (fun fin s' h=>?_) (fun e s' h=>absurd h.1 (by simp))
 cases fin with
 |done f=>obtain⟨e,g⟩:=h;cases e;exact fin' _ g
 |again c'=>exact⟨h.1,a5G h.2 fun r s'' hr=>by obtain⟨rfl,g⟩:=hr;exact fin' _ g⟩
theorem a9g(r:Addr)(j:Int)(t u v:Tok)(h0:0<=j)(h1:j<=1000000):Meets (Builtin.«tuple.__new__» ⟨[.type "tuple",.ref r],[]⟩)
  (fun A R s=>A.handled=none/\IsRange s.heap r 0 j 1 t u v/\ ∀(h':Heap) tk acc,(∀b o,s.heap.get? b=some o->h'.get? b=some o)->a8g j acc->
   R (.ok (.ret (.ref h'.objs.size))) {s with heap:=h'.push {cls:= .type "tuple",data:= .seq acc},toks:=tk}):=
 .of_wp fun prog w A R s h=>by
  obtain⟨hp,g,d,tk,os⟩:=s;obtain⟨hh,hr,h⟩:=h
  have hsub:=sub_tuple_self;have hinit:=init_tuple_lookup;have hmh:=madeHere_tuple
  have hT:Shared.TypeIs ⟨hp,g,d,tk,os⟩ (.ref r) "range":=⟨_,hr,rfl⟩
  wp_walk using a9H hr,a7M hT,b5q (A:=A.in1) hh hr h0 h1
  intro h' tk' acc hk hit
  show wpAny _ _ (Builtin.Tuple.tupleExact acc.toList.toArray >>= fun v=>ret v) _ _ _
  have hz:acc.toList.toArray.size<=sizeLine:=by
   have:=hit.1
   rw[a1B];simp only[List.size_toArray,Array.length_toList];lia
  unfold Builtin.Tuple.tupleExact;refine wpAny_bind (wpAny_newObj_type (wpAny_pure ⟨_,rfl,?_⟩) hz)
  have e:acc.toList.toArray=acc:=by simp
  rw[e];exact h h' tk' acc hk hit
end
section
variable{X:Cx}
def d0v:List V->Hp->VK->Prop:=fun xs H Q=> ∃p j,xs=[.ref p]/\H p=some (.rng 0 j)/\0<=j/\j<=1000000/\ ∀l,H l=none->Q (.ref l) (upd H l (.tup (a3t j.toNat)))
theorem b3z(hc:X.calm=true):a5o X (.type "tuple") d0v:=by
 intro pins s σ H xs us Q I r h
 obtain⟨p,j,rfl,hp,h0,h1,q⟩:=h
 obtain⟨u,rfl,rx⟩:=a5q r
 cases rx
 obtain⟨t1,t2,t3,e⟩:=I.hok p _ hp
 refine callType_new F.called_tuple (by decide) (F.typeCall_tuple_1 _) (F.newCall_tuple_1 _) (fun obj=>F.args_object_init_2 obj _) F.entry_tuple_new (a9g p j t1 t2 t3 h0 h1) ⟨I.ok.hd hc,e,fun h' tk acc kp hit=>⟨⟨_,a0V _ rfl,rfl⟩,?_⟩⟩
 have hv:=a9d hit
 have I1:Inv X pins σ H {s with heap:=h',toks:=tk}:=I.kept kp
 have hz:(a3t j.toNat).length<=sizeLine:=by rw[a1B];simp[a3t];lia
 have I2:Inv X pins σ (upd H h'.objs.size (.tup (a3t j.toNat))) {s with heap:=h'.push {cls:= .type "tuple",data:= .seq acc},toks:=tk}:=
  I1.laid (t':=tk) (fun b o e=>a0I _ e) (a0J _) (show ObjOk X.prog X.w _ _ _ (.tup (a3t j.toNat))from⟨hz,acc.toList,hv,by simpa using TupD.new h' acc⟩)
 exact⟨.ref h'.objs.size,_,I2,rfl,q _ (I1.hok.fresh (a0J _))⟩
def rIsi(K:W.Frag):List V->Hp->VK->Prop:=fun xs H Q=> ∃x n t b,xs=[x,.ty n]/\TyOf K H x t/\PySem.W.kitOne K t (.type n)=some b/\Q (.bl b) H
theorem a5f:a5o X (.builtin "isinstance") (rIsi X.K):=by
 intro pins s σ H xs us Q I r h
 obtain⟨x,n,t,b,rfl,ty,e,q⟩:=h
 obtain⟨u,w',rfl,r1,r2⟩:=vals2 r
 cases r2
 exact c1i I r1 ty e fun tk=>⟨.bl b,H,I.tok tk,rfl,q⟩
end
structure CompSc(N:Ss)(osc:Scope)(vs:Ss)(sc:Scope):Prop where
 kind:sc.kind= .function:=by rfl
 cell: ∀y∈sc.names,y.2≠ .cell:=by decide+kernel
 locs: ∀y∈sc.names,y.2= .local->sc.names.lookup y.1=some .local:=by decide+kernel
 own: ∀y∈N.map (c5x vs),sc.names.lookup y≠some .local:=by decide+kernel
 hid: ∀y∈vs,sc.names.lookup (b5m y)=none:=by decide+kernel
 nd:(vs++N.map (c5x vs)).Nodup:=by decide+kernel
 free: ∀y∈sc.names,y.2= .free->osc.names.lookup y.1=some .cell∨osc.names.lookup y.1=some .free:=by decide+kernel
theorem CompSc.to{X:Cx}{N:Ss}{osc:Scope}{vs:Ss}{sc:Scope}(h:CompSc N osc vs sc)(hN:X.N=N:=by rfl)(hs:X.env.scope=osc:=by rfl):CompScope X vs sc:=by
 subst hN hs
 exact⟨h.kind,h.cell,h.locs,h.own,h.hid,h.nd,h.free⟩
def a0q(P:Pg)(w:World)(K:W.Frag)(mg:SV)(base:Heap)(x:Str)(k:Nat)(ps:Ss)(sp:Sp):Prop:=
 ∃f fd,FnOk P w K mg base CX0 k f fd ps sp/\mg x=some (.ref f)/\PySem.W.keepIn K (.ref f)=true/\Binds K fd ps []
theorem a0k{X:Cx}{x:Str}{k:Nat}{ps:Ss}{sp:Sp}{e:Expr}{es:List Expr}{t:TA}{p pos:Pos}(c:a0q X.prog X.w X.K X.mg X.base x k ps sp)(hr:Room k X.A)(hg:Gl X x)(ha:PA X (e::es) t)
  (hd:(x==("__debug__":Str))=false:=by decide) (hs:starEach (e::es) X.env=(false,eval e X.env)::starEach es X.env:=by rfl) (hp:(backTo pos (starEach es X.env)).any (·.1)=false:=by rfl):
  PE X (.Call (.Name x p) (e::es) [] pos) (c6i sp [] E0 t):=by
 obtain⟨f,fd,F,m,kp,b⟩:=c
 exact d0h F hr hg m kp b .nil c6o ha hd hs hp
theorem b9q{X:Cx}{x:Str}{n:String}{pos:Pos}(hg:Gl X x)(hm:X.mg x=none)(hv:bootBuiltins x=some (.type n))(hn:x≠"__name__":=by decide)(hd:(x==("__debug__":Str))=false:=by decide):PE X (.Name x pos) (tC (.ty n)):=
 c9y (v:= .ty n) hg hm hv (show RelV (.ty n) (.type n)from rfl) hn hd
theorem IxR.k{X:Cx}{K:W.Frag}(r:W.Frag->R2)(h:IxR X (r X.K))(hK:X.K=K):IxR X (r K):=hK▸h
theorem OpR.k{X:Cx}{K:W.Frag}{f:Vl->Vl->Sem Vl}(r:W.Frag->R2)(h:OpR X f (r X.K))(hK:X.K=K):OpR X f (r K):=hK▸h
theorem a0d{H:Hp}{p:Addr}(h:H p=none)(o:HO):Same H (upd H p o):=fun b u q=>by rw[a0c (a0h q h)];exact q
theorem small{n:Nat}(h:n<=1000):n<=sizeLine:=a3D (c1s h)
abbrev nv(n:Nat):V:= .int (n:Int)
theorem c2g(xs:Nsq):xs.map nv=(xs.map fun(n:Nat)=>(n:Int)).map V.int:=by rw[a3O];rfl
theorem c6v{xs ys:Nsq}:(xs.map fun(n:Nat)=>(n:Int))=(ys.map fun(n:Nat)=>(n:Int))↔xs=ys:=
 ⟨fun h=>a7b (fun a b e=>a9B e) h,fun h=>by rw[h]⟩
theorem d3i{K:W.Frag}{H:Hp}{n:Nat}{is:Nsq}{a:Addr}(h:SqL K H a (is.map nv)):Rep K H (n+1) (.lst ((is.map fun(n:Nat)=>(n:Int)).map Dt.int)) (.ref a):=repL (by rw[<-c2g];exact h)
theorem a7c{K:W.Frag}{H:Hp}{n:Nat}{is:Nsq}{a:Addr}(h:SqT K H a (is.map nv)):Rep K H (n+1) (.tup ((is.map fun(n:Nat)=>(n:Int)).map Dt.int)) (.ref a):=repT (by rw[<-c2g];exact h)
theorem dt_natsT{xs ys:Nsq}:Dt.tup ((xs.map fun(n:Nat)=>(n:Int)).map Dt.int)=Dt.tup ((ys.map fun(n:Nat)=>(n:Int)).map Dt.int)↔xs=ys:=dt_intsT.trans c6v
theorem c6w{xs:Nsq}{k:Nat}(h:k<xs.length):atI (xs.map nv) (k:Int)=some (nv (xs.getD k 0)):=a3r (by rw[a0G,a0A h,a0N,a0A h];rfl)
def d3j(H:Hp)(xs:List V)(Q:VK):Prop:= ∀r H',Same H H'->H' r=some (.tup xs)->Q (.ref r) H'
def tCut(t:TS):TS:=fun D σ H=> ∃S:St->Hp->Prop,t {D with nx:=S} σ H/\ ∀σ' H',S σ' H'->D.nx σ' H'
theorem c2h{X:Cx}{st:Stmt}{t:TS}(h:PS X st t):PS X st (tCut t):=by
 intro pins s σ H D I q
 obtain⟨S,q1,q2⟩:=q
 refine thn (h pins s σ H _ I q1) fun f s' z=>?_
 cases f with
 |next=>obtain⟨σ',H',I',z⟩:=z;exact⟨σ',H',I',q2 σ' H' z⟩
 |brk=>exact z
 |cont=>exact z
 |ret u=>exact z
theorem a1b{H H':Hp}{l:Addr}{o:HO}(g:Same H H')(hl:H l=none):Same H (upd H' l o):=fun b u e=>by rw[a0c (a0h e hl)];exact g b u e
theorem d3k{cs:Zs}{k:Nat}(h:k<cs.length):atI (cs.map V.int) (k:Int)=some (.int (cs.getD k 0)):=a3r (by rw[a0G,a0A h,a0N,a0A h];rfl)
theorem b1p{n k:Nat}(h:k<n):ixN n (k:Int)=some k:=by
 unfold ixN
 rw[if_pos (by lia),if_pos (by lia),a1W]
theorem c2i(c:Int){n:Nat}(h:1<=n):V.int (c%(n:Int))=nv (c%(n:Int)).toNat/\(c%(n:Int)).toNat<n:=by
 have h1:=Int.emod_nonneg c (by lia:(n:Int)≠0)
 have h2:=Int.emod_lt_of_pos c (by lia:(0:Int)<(n:Int))
 refine⟨?_,by lia⟩
 show V.int _=V.int (((c%(n:Int)).toNat:Nat):Int)
 rw[Int.toNat_of_nonneg h1]
theorem b7r(ys:Nsq)(j v:Nat):(ys.map nv).set j (nv v)=(ys.set j v).map nv:=(List.map_set).symm
theorem b7s{ys:Nsq}{j v n:Nat}(h: ∀y∈ys,y<n)(hv:v<n): ∀y∈ys.set j v,y<n:=by
 intro y hy
 rcases List.mem_or_eq_of_mem_set hy with z|z
 ·exact h y z
 ·rw[z];exact hv
theorem a9h{ys:Nsq}{j n:Nat}(h: ∀y∈ys,y<n)(hj:j<ys.length):ys.getD j 0<n:=by
 rw[a0N,a0A hj]
 exact h _ (a2O hj)
theorem b5r{K:W.Frag}:PySem.W.kitOne K (.type "int") (.type "int")=some true:=by rfl
theorem b4a{K:W.Frag}:PySem.W.kitOne K (.type "int") (.type "bool")=some false:=by rfl
theorem isi_tup_tup{K:W.Frag}:PySem.W.kitOne K (.type "tuple") (.type "tuple")=some true:=by rfl
theorem b5s{P:Pg}{w:World}{a:Addr}{κ:Type}[DecidableEq κ]{kd:HeapKind P w κ}(na:(a==sysModules)=false):
  MeetsIn P w (Builtin.«dict.__len__» ⟨[.ref a],[]⟩) fun _ R s=> ∃xs,s.heap.DictOfH kd a xs/\R (.ok (.ret (.int xs.length s.toks))) {s with toks:=s.toks+1}:=
 .of_wp fun A R s ⟨xs,dd,q⟩=>by
  obtain⟨ob,en,ep,g1,g2,g3,g4,_⟩:=dd
  have ez:en.size=xs.length:=a8J g4
  show wpAny _ _ (dictSize a >>= _) _ _ s
  unfold dictSize
  refine a0C (a0C (a4M g1 g3 (a0F (a0C (wpAny_pendingCount_other na (wpAny_ret_mkInt ?_))))))
  rw[a8R,ez]
  exact q
theorem b9r{P:Pg}{w:World}{A:Ar}{E:VP}{s:Sh}{a:Addr}{κ:Type}[DecidableEq κ]{kd:HeapKind P w κ}{xs:List (κ×Addr×Vl)}{Q:VP}(na:(a==sysModules)=false)
  (dd:s.heap.DictOfH kd a xs) (few:(xs.length:Int)<2 ^ 63) (q:Q (.int xs.length (s.toks+1)) {s with toks:=s.toks+1+1}):wpAny (model P w) A (Builtin.«len» ⟨[.ref a],[]⟩) (fun fin s'=> ∃r,fin= .done (.ret r)/\Q r s') E s:=by
 have n0: ¬((xs.length:Nat):Int)<0:=by lia
 have n1: ¬((xs.length:Nat):Int)≥2 ^ 63:=by lia
 unfold Builtin.«len»
 refine a0C (m:=oneArg "len" _) (a0F (a0C (m:=callSpecial? (.ref a) (Str.ofString "__len__")) ?_))
 refine a2Q (name:=Str.ofString "__len__") dd.typeIs F.slot_dict_len (call_meetsIn F.slot_dict_len dd.typeIs F.entry_dict_len (F.args_dict_len_1 _) (b5s (kd:=kd) na) ⟨xs,dd,?_⟩)
 show wpAny _ _ _ _ _ {s with toks:=s.toks+1}
 refine a0C (a2P (a0F (a0C (wpAny_letGo ?_))))
 show wpAny _ _ (if((xs.length:Nat):Int)<0 then _ else(if((xs.length:Nat):Int)≥2 ^ 63 then _ else _)) _ _ _
 rw[if_neg n0,if_neg n1]
 exact a0C (wpAny_mkInt (a0F ⟨_,rfl,q⟩))
section
variable{X:Cx}
theorem c2j:a5o X (.builtin "len") (fun xs H Q=> ∃a kvs,xs=[V.ref a]/\H a=some (.dT kvs)/\Q (.int kvs.length) H):=by
 intro pins s σ H xs us Q I r h
 obtain⟨a,kvs,rfl,ha,q⟩:=h
 obtain⟨u,rfl,ru⟩:=a5q r
 cases ru
 obtain⟨z,na,ys,rel,dd⟩:=d0q I.hok ha
 have el:kvs.length=ys.length:=a4Q rel
 refine a6J kind_len plain_len entry_len (args_len1 _) (b9r na dd (by rw[<-el];rw[a1B]at z;lia) ?_)
 exact⟨.int kvs.length,H,I.tok _,⟨_,by rw[el]⟩,q⟩
end
def nk(xs:Nsq):List Key:=xs.map fun(n:Nat)=>(Sum.inl (n:Int):Key)
theorem a5r(xs:Nsq):(nk xs).map kV=xs.map nv:=by
 unfold nk
 rw[a3O]
 rfl
theorem b7t{xs ys:Nsq}(h:nk xs=nk ys):xs=ys:=by
 unfold nk at h
 exact a7b (fun a b e=>by injection e with e;exact a9B e) h
section
variable{X:Cx}
def d3l(K:W.Frag):R2:=fun x y H Q=> ∃l b xs zs,x= .ref l/\y= .ref b/\SqL K H l xs/\SqL K H b zs/\xs.length+zs.length<=sizeLine/\ ∀p,H p=none->Q (.ref p) (upd H p (.lst (xs++zs)))
theorem c2k:OpR X (binaryOp .Add) (d3l X.K):=by
 intro pins s σ H x y v u Q I rx ry h
 obtain⟨l,b,xs,zs,rfl,rfl,hl,hb,hz,q⟩:=h
 cases rx
 cases ry
 obtain⟨its,r,⟨⟨c1,d1,k1,s1⟩,n,e,ec,ed,ek⟩,_⟩:=I.list hl
 obtain⟨its2,r2,⟨⟨c2,d2,k2,s2⟩,n2,e2,ec2,ed2,ek2⟩,_⟩:=I.list hb
 simp only at ec ed ek ec2 ed2 ek2
 subst ec ed ek ec2 ed2 ek2
 have l1:=r.length
 have l2:=r2.length
 have ea:its.toArray++its2.toArray=(its++its2).toArray:=by simp
 refine concat_meets ⟨_,e,rfl⟩ ⟨_,e2,rfl⟩ noFill_list_add seq_list_add F.slot_list_add F.entry_list_add (F.args_list_add_2 _ _) (list_addW l b its.toArray its2.toArray n n2 none none s1 s2 (by simp only[List.size_toArray];lia)) ⟨e,e2,?_⟩
 rw[ea]
 exact⟨.ref _,_,I.lnew (t':=s.toks) (r.append r2) (by rw[a0M];lia),rfl,q _ I.fresh⟩
end
section
variable{X:Cx}
theorem c2l{xs:List V}{lo hi:Option Int}(h:HT.sIx xs.length 0 lo=0/\HT.sIx xs.length xs.length hi=xs.length):d0n xs lo hi=xs:=by
 unfold d0n
 rw[h.1,h.2,List.drop_zero,Nat.sub_zero,a1Q]
theorem a6e{P:Pg}{w:World}{A:Ar}{E:VP}{s:Sh}{t sl:Addr}{its:AV}{vl vu:Vl}{lo hi:Option Int}{Q:VP}(ht:IsTup s.heap t its)(hs:s.heap.IsSliceOf sl vl vu .none)
  (pl:IsPart vl lo) (pu:IsPart vu hi) (hw:HT.sIx its.size 0 lo=0/\HT.sIx its.size its.size hi=its.size) (h:Q (.ref t) s):wpAny (model P w) A (getItem (.ref t) (.ref sl)) Q E s:=by
 obtain⟨os,hos,hcs,hds⟩:=id hs
 have hT:s.TypeIs (.ref sl) "slice":=⟨os,hos,hcs⟩
 unfold getItem
 try with_reducible refine a2P ?_
 first|refine a0C (a0F ?_)|skip
 refine a0C (wpAny_sequenceKey ht.typeIs (by decide) ?_)
 refine a0C (a2Q (name:=Str.ofString "__getitem__") ht.typeIs a2U (a2H a2U ht.typeIs entry_tuple_getitem ?_ (args_tuple_getitem _ _)))
 show wpAny _ _ (Builtin.Tuple.tupleItemsOf (.ref t) >>= _) _ _ s
 refine a0C (tupleItemsOf_ ht (a0C (a7M hT ?_)))
 rw[if_pos (by decide)]
 refine a0C (HT.sliceApplied_gen hs pl pu ?_)
 have yes:(((HT.sIx its.size 0 lo:Nat):Int)==0&&(1:Int)==1&&(HT.sIx its.size its.size hi-HT.sIx its.size 0 lo)==its.size)=true:=by
  rw[hw.1,hw.2]
  simp
 show wpAny _ _ (if(((HT.sIx its.size 0 lo:Nat):Int)==0&&(1:Int)==1&&(HT.sIx its.size its.size hi-HT.sIx its.size 0 lo)==its.size)=true then _ else _) _ _ s
 rw[if_pos yes]
 unfold Builtin.Tuple.tupleIsExact
 refine a0C (a0C (a7M ht.typeIs (a0F ?_)))
 rw[if_pos (by decide)]
 first
  |exact a0C (a5R (a0C (a0F (a0F ⟨_,rfl,a0F h⟩))))
  |exact a0C (a5R (a0F ⟨_,rfl,a0F h⟩))
def rSlA:V->Option Int->Option Int->Hp->VK->Prop:=fun x lo hi H Q=> ∃a xs,x= .ref a/\H a=some (.tup xs)/\ ∀p H',Same H H'->H' p=some (.tup (d0n xs lo hi))->Q (.ref p) H'
theorem d0w:SlR X rSlA:=by
 intro pins s σ H x v vl vu lo hi sl Q I rx hs pl pu h
 obtain⟨a,xs,rfl,hx,q⟩:=h
 by_cases hw:HT.sIx xs.length 0 lo=0/\HT.sIx xs.length xs.length hi=xs.length
 ·cases rx
  obtain⟨its,r,ht,hz⟩:=I.tuple (SqT.of hx)
  have el:its.toArray.size=xs.length:=by rw[a0U];exact r.length.symm
  refine⟨"tuple",_,a2U.lookup,ht.typeIs,a6e ht hs pl pu (by rw[el];exact hw) ⟨.ref a,H,I,rfl,q a H (Same.refl H) ?_⟩⟩
  rw[c2l hw]
  exact hx
 ·exact d2z pins s σ H (.ref a) v vl vu lo hi sl Q I rx hs pl pu ⟨a,xs,rfl,SqT.of hx,hw,fun p hp=>q p _ (a0d hp _) a0a⟩
end
section
variable{X:Cx}
def rAll(K:W.Frag):List V->Hp->VK->Prop:=fun xs H Q=> ∃(p:Addr) (bs:List Bool),xs=[.ref p]/\SqL K H p (bs.map V.bl)/\Q (.bl (bs.all id)) H
theorem c2m(hc:X.calm=true):a5o X (.builtin "all") (rAll X.K):=by
 intro pins s σ H xs us Q I r h
 obtain⟨p,bs,rfl,hp,q⟩:=h
 obtain⟨u,rfl,ru⟩:=a5q r
 cases ru
 obtain⟨its,rv,pl,_⟩:=I.list hp
 have hl:=pl.isList
 have hlt:p<s.heap.objs.size:=pl.lt
 have hlen:its.length=bs.length:=by rw[<-rv.length,a0D]
 refine call_all_walk (a7D hl ⟨_,_,_,_,_,_,fun i=>bs.getD i false,rfl,Walks.list (A:=X.A.in1) (I.ok.hd hc) _ p (a1J hlt) its.toArray,⟨⟨_,a0V _ rfl,rfl,rfl⟩,hl.push _⟩,?_,fun h' tk hk=>?_⟩)
 ·intro i v s2 Q2 E2 hv hq
  have hv':its[i]? =some v:=by simpa using hv
  have hi:i<bs.length:=by rw[<-hlen];exact(a0B.mp hv').1
  obtain⟨u2,e1,e2⟩:=rv.get (i:=i) (x:= .bl (bs.getD i false)) (by rw[a0G,a0A hi,a0N,a0A hi];rfl)
  rw[hv']at e1
  cases e1
  cases(show v=Value.bool _ from e2)
  exact a3U hq
 ·have e:(List.range its.toArray.size).all (fun i=>bs.getD i false)=bs.all id:=by
   rw[a0U,hlen];have:bs=(List.range bs.length).map fun i=>bs.getD i false:=by
    refine a7V (by simp) fun i h1 h2=>?_
    simp[List.getD_eq_getElem?_getD,h1]
   conv=>rhs;rw[this,List.all_map]
   rfl
  rw[e]
  exact⟨.bl (bs.all id),H,I.kept fun b o z=>hk b o (by simp only[List.mem_singleton];exact Nat.ne_of_lt (Heap.lt_size z)) (Heap.get?_push_of_some _ z),rfl,q⟩
end
structure PL(X:Cx)(es:List Expr)(t:TA):Prop where
 pa:PA X es t
section
variable{X:Cx}{e a b:Expr}{es:List Expr}{te ta tb:TE}{t:TA}{pos:Pos}
theorem a0r:PL X [] b7j:=⟨a0i⟩
theorem a0b(ha:PE X e te)(hr:PL X es t)(hs:starEach (e::es) X.env=(false,eval e X.env)::starEach es X.env):PL X (e::es) (a6w te t):=⟨a0f ha hr.pa hs⟩
theorem a0y(h:PL X es t):PA X es t:=h.pa
end
def d3m(op:CmpOp)(A:Ar)(s:Sh)(x y:Vl)(r:Bool):Prop:=
 ∀(P:Pg) (w:World) (E:VP) (Q:VP),Q (.bool r) s->wpAny (model P w) A (richCompare op x y) Q E s
inductive Cmp (op:CmpOp) (A:Ar) (s:Sh):List (Vl×Vl)->Option Bool->Prop where
 |nil:Cmp op A s [] none
 |eq {x y zs o}:SeqAt.EqAt A s x y true->Cmp op A s zs o->Cmp op A s ((x,y)::zs) o
 |ne {x y zs r}:SeqAt.EqAt A s x y false->d3m op A s x y r->Cmp op A s ((x,y)::zs) (some r)
def SeqObj(c:String)(h:Heap)(a:Addr)(its:Vs):Prop:= ∃n dx sl,h.get? a=some ⟨.type c,dx,.seq its.toArray n,sl⟩
section
variable{P:Pg}{w:World}{A:Ar}{E:VP}{s:Sh}{op:CmpOp}
theorem c6x{β:Type}{f:Vl×Vl->β->Sem (ForInStep β)}{b0:β}{Q:β->Sh->Prop}{zs:List (Vl×Vl)}{o:Option Bool}(h:Cmp op A s zs o)
  (yes: ∀x y Q,SeqAt.EqAt A s x y true->Q (.yield b0) s->wpAny (model P w) A (f (x,y) b0) Q E s)
  (no: ∀x y r,SeqAt.EqAt A s x y false->d3m op A s x y r->o=some r->wpAny (model P w) A (f (x,y) b0) (fun t s'=>match t with| .yield _=>False| .done b=>Q b s') E s)
  (fin:o=none->Q b0 s):wpAny (model P w) A (forIn zs b0 f) Q E s:=by
 refine wpAny_forIn_list f (fun rest b s'=>b=b0/\s'=s/\Cmp op A s rest o) Q (fun z rest b s' q=>?_) (fun b s' q=>?_) zs b0 ⟨rfl,rfl,h⟩
 ·obtain⟨rfl,rfl,c⟩:=q
  cases c with
  |eq e c=>exact yes _ _ _ e ⟨rfl,rfl,c⟩
  |ne e c=>
   refine a3I (no _ _ _ e c rfl) (fun t s2 z=>?_) fun _ _ z=>z
   cases t with
   |yield _=>exact z.elim
   |done _=>exact z
 ·obtain⟨rfl,rfl,c⟩:=q
  cases c
  exact fin rfl
end
section
open AutoSeq1
open MeetsSeq MeetsSeq2 MeetsSeq3 SeqRoads2 SeqAt
variable{l b:Addr}{xs ys:Vs}
theorem d3n:Meets (Builtin.«tuple.__lt__» ⟨[.ref l,.ref b],[]⟩) (fun A R s=>SeqObj "tuple" s.heap l xs/\SeqObj "tuple" s.heap b ys/\ ∃o,Cmp .Lt A.in1 s (xs.zip ys) o/\R (.ok (.ret (.bool (o.getD (decide (xs.length<ys.length)))))) s):=by
 refine .of_wp fun P w A R ⟨h,gn,dr,k,os⟩ ⟨⟨n,dx,sl,e1⟩,⟨m,dy,tl,e2⟩,o,c,q⟩=>?_
 have sub:=AutoSeq1.sub_tuple_tuple
 wp_walk using a9H e1,a9H e2
 refine c6x c (fun x y Q e z=>?_) (fun x y r e rc z=>?_) (fun z=>?_)
 ·refine a0C (e P w _ _ ?_)
  wp_walk
  exact z
 ·refine a0C (e P w _ _ ?_)
  generalize g:richCompare .Lt x y=ask
  wp_walk
  subst g
  refine rc P w _ _ ?_
  wp_walk
  subst z
  exact⟨_,rfl,q⟩
 ·subst z
  wp_walk
  exact⟨_,rfl,by simpa[Builtin.Tuple.tupleCompareSizes]using q⟩
end
def b0e:Nsq->List Nat->Option Bool
 |a::xs,b::ys=>if a=b then b0e xs ys else some (decide (a<b))
 |_,_=>none
def ltl(xs ys:Nsq):Bool:=(b0e xs ys).getD (decide (xs.length<ys.length))
theorem a5s(xs:Nsq):ltl xs xs=false:=by
 have no:b0e xs xs=none:=by
  induction xs with
  |nil=>rfl
  |cons a xs ih=>rw[b0e,if_pos rfl,ih]
 unfold ltl
 rw[no]
 simp
section
variable{A:Ar}{s:Sh}{l b:Addr}{xs ys:Vs}{o:Option Bool}
theorem c6y{i j:Int}{t u:Tok}:d3m .Lt A s (.int i t) (.int j u) (decide (i<j)):=fun P w E Q q=>show wpAny _ _ (compareOp .Lt _ _) _ _ _ from PyProof.Rows.lt_int q
theorem eqAt_int{i j:Int}{t u:Tok}:SeqAt.EqAt A s (.int i t) (.int j u) (decide (i=j)):=by
 have z:=b7l (A:=A) (s:=s) (y:= .int i) (x:= .int j) (u:= .int i t) (v:= .int j u) ⟨t,rfl⟩ ⟨u,rfl⟩ rfl rfl
 have e:eqV (.int i) (.int j)=decide (i=j):=by
  show(i==j)=_
  by_cases h:i=j<;>simp[h]
 rwa[e]at z
theorem b7u{op:CmpOp}{F:Bool->Bool}(rc: ∀(i j:Nat) (t u:Tok),i≠j->d3m op A s (.int (i:Int) t) (.int (j:Int) u) (F (decide (i<j)))):
  ∀{ns ms:Nsq} {xs ys:Vs},Vals (ns.map nv) xs->Vals (ms.map nv) ys->Cmp op A s (xs.zip ys) ((b0e ns ms).map F)
 | [],ms,_,_,.nil,_=>by rw[List.zip_nil_left,show b0e [] ms=none by cases ms<;>rfl];exact .nil
 |n::ns,[],_,_,.cons _ _,.nil=>by rw[List.zip_nil_right];exact .nil
 | n::ns,m::ms,_,_,.cons ⟨t,e1⟩ r1,.cons ⟨u,e2⟩ r2=>by
  subst e1 e2
  have z:=eqAt_int (A:=A) (s:=s) (i:=(n:Int)) (j:=(m:Int)) (t:=t) (u:=u)
  by_cases e:n=m
  ·rw[a1E (by lia)]at z
   rw[b0e,if_pos e];exact .eq z (b7u rc r1 r2)
  ·rw[a1L (by lia)]at z
   rw[b0e,if_neg e];exact .ne z (rc n m t u e)
theorem d3o{ns ms:Nsq}(h1:Vals (ns.map nv) xs)(h2:Vals (ms.map nv) ys):Cmp .Lt A s (xs.zip ys) (b0e ns ms):=by
 have z:=b7u (A:=A) (s:=s) (op:= .Lt) (F:=fun b=>b) (fun i j t u _=>by
  have e:decide ((i:Int)<(j:Int))=decide (i<j):=by simp
  exact e▸c6y) h1 h2
 rwa[Option.map_id']at z
theorem b9s(h:s.heap.IsTuple l xs.toArray):SeqObj "tuple" s.heap l xs:=by
 obtain⟨⟨c,dx,da,sl⟩,e,hc,n,hd⟩:=h
 cases hc
 cases hd
 exact⟨n,dx,sl,e⟩
theorem SeqObj.ty{c:String}(h:SeqObj c s.heap l xs):s.TypeIs (.ref l) c:=let⟨_,_,_,e⟩:=h;⟨_,e,rfl⟩
theorem c6z(h1:SeqObj "tuple" s.heap l xs)(h2:SeqObj "tuple" s.heap b ys)(hu:A.units<cLine)(c:Cmp .Lt A.in1 s (xs.zip ys) o):d3m .Lt A s (.ref l) (.ref b) (o.getD (decide (xs.length<ys.length))):=fun P w E Q q=>
 richCompare_meets_room (op:= .Lt) h1.ty h2.ty F.slot_tuple_lt F.entry_tuple_lt (F.args_tuple_lt_2 _ _) d3n ⟨h1,h2,o,c,(fun z=>nomatch z),q⟩ hu
end
section
variable{X:Cx}
def plt(i:Int)(ps:Nsq)(j:Int)(qs:Nsq):Bool:=if i=j then ltl ps qs else decide (i<j)
end
def a0x(m:Nat):Nsq:=(List.range 5).filter fun i=>m.testBit i
def a7x(led:Bool)(xs:Nsq):SetTable:={mask:=if xs.length=5 then 31 else 7,place:=xs.toArray,dummies:= #[],finger:=0,led,moves:=if xs.length=5 then 1 else 0,plain:=true}
def a9i(xs:Nsq)(k:Nat):Nat:=(xs.filter (· <k)).length
def b9t(led:Bool)(m k:Nat):SetTable:={a7x led (a0x m)with place:=(a0x (m |||2 ^ k)).toArray}
theorem a4r: ∀(led:Bool) (m:Fin 32),(a7x led (a0x m)).fits (a0x m).length=true:=by decide+kernel
theorem c2n: ∀(led:Bool) (m:Fin 32) (k:Fin 5),(m:Nat).testBit k=false->(a7x led (a0x m)).freeSlot ((k:Nat):Int)=some ((k:Nat),false):=by decide+kernel
theorem c7a: ∀(led:Bool) (m:Fin 32) (k:Fin 5),(m:Nat).testBit k=false->(a7x led (a0x m)).put k=(b9t led m k,a9i (a0x m) k)/\(b9t led m k).fits ((a0x m).length+1)=true:=by decide+kernel
theorem c7b: ∀(m:Fin 32) (k:Fin 5),(m:Nat).testBit k=false->a0x (m |||2 ^ (k:Nat))=(a0x m).take (a9i (a0x m) k)++(k:Nat)::(a0x m).drop (a9i (a0x m) k):=by decide+kernel
theorem c7c: ∀(m:Fin 32) (k:Fin 5),(k:Nat)∈a0x m->(m |||2 ^ (k:Nat):Nat)=m:=by decide+kernel
theorem c7d: ∀(m:Fin 32) (k:Fin 5),(k:Nat)∉a0x m->(m:Nat).testBit k=false:=by decide+kernel
theorem c2o: ∀(m:Fin 32) (k:Fin 5),(m |||2 ^ (k:Nat):Nat)<32:=by decide+kernel
theorem a6f: ∀m:Fin 32,(a0x m).length<=5:=by decide+kernel
theorem b9u: ∀(led:Bool) (m:Fin 32) (k:Fin 5),(m:Nat).testBit k=false->(a0x m).length≠4->b9t led m k=a7x led (a0x (m |||2 ^ (k:Nat)))/\(b9t led m k).tooFull=false:=by decide+kernel
theorem c7e: ∀(led:Bool) (m:Fin 32) (k:Fin 5),(m:Nat).testBit k=false->(a0x m).length=4->(b9t led m k).tooFull=true/\
  (b9t led m k).relaid #[0,1,2,3,4] (SetTable.grown 5)=some (a7x led (a0x (m |||2 ^ (k:Nat))),#[0,1,2,3,4])/\a0x (m |||2 ^ (k:Nat))=[0,1,2,3,4]/\(a7x led (a0x (m |||2 ^ (k:Nat)))).fits 5=true:=by decide+kernel
theorem d0x: ∀k:Fin 5,hashInt ((k:Nat):Int)=((k:Nat):Int):=by decide+kernel
def Ents:Nsq->List (Int×Vl)->Prop:=Paired fun n e=>e.1=(n:Int)/\ ∃t,e.2= .int (n:Int) t
def a4s(es:List (Int×Vl))(ep:Nat)(t:SetTable):Obj:={cls:= .type "set",data:= .set es.toArray ep t}
def IsSet5(h:Heap)(a:Addr)(led:Bool)(m:Nat):Prop:=m<32/\ ∃es ep,h.get? a=some (a4s es ep (a7x led (a0x m)))/\Ents (a0x m) es
theorem Ents.take: ∀{ns:Nsq} {es:List (Int×Vl)} (p:Nat),Ents ns es->Ents (ns.take p) (es.take p)
 |_,_,0,_=> .nil
 |_,_,_+1,.nil=> .nil
 |_,_,p+1,.cons r t=> .cons r (Ents.take p t)
theorem Ents.drop: ∀{ns:Nsq} {es:List (Int×Vl)} (p:Nat),Ents ns es->Ents (ns.drop p) (es.drop p)
 |_,_,0,r=>r
 |_,_,_+1,.nil=> .nil
 |_,_,p+1,.cons _ t=>Ents.drop p t
theorem Ents.app: ∀{ns ms:Nsq} {es fs:List (Int×Vl)},Ents ns es->Ents ms fs->Ents (ns++ms) (es++fs)
 |_,_,_,_,.nil,r=>r
 |_,_,_,_,.cons q t,r=> .cons q (Ents.app t r)
theorem Ents.len{ns:Nsq}{es:List (Int×Vl)}(h:Ents ns es):es.length=ns.length:=(a4Q h).symm
theorem Ents.keys: ∀{ns:Nsq} {es:List (Int×Vl)},Ents ns es->es.map (·.1)=ns.map fun(n:Nat)=>(n:Int)
 |_,_,.nil=>rfl
 |_,_,.cons q t=>by rw[a2I,a2I,q.1,Ents.keys t]
theorem Ents.mem: ∀{ns:Nsq} {es:List (Int×Vl)} {e:Int×Vl},Ents ns es->e∈es-> ∃n∈ns,e.1=(n:Int)/\ ∃t,e.2= .int (n:Int) t
 | _,_,_,.cons q t,h=>by
  rcases a1C.mp h with z|z
  ·subst z
   exact⟨_,a0S,q⟩
  ·obtain⟨n,h1,h2⟩:=Ents.mem t z
   exact⟨n,a0X _ h1,h2⟩
theorem Ents.has: ∀{ns:Nsq} {es:List (Int×Vl)} {n:Nat},Ents ns es->n∈ns-> ∃e∈es,∃t,e.2= .int (n:Int) t
 | _,_,_,.cons q t,h=>by
  rcases a1C.mp h with z|z
  ·subst z
   exact⟨_,a0S,q.2⟩
  ·obtain⟨e,h1,h2⟩:=Ents.has t z
   exact⟨e,a0X _ h1,h2⟩
theorem Ents.elems{P:Pg}{w:World}{m:Fin 32}{es:List (Int×Vl)}(h:Ents (a0x m) es):ElemsOf (intKind P w) es:=fun e he=>by
 obtain⟨n,hn,e1,t,e2⟩:=h.mem he
 have hn5:n<5:=a2J.mp (a1O.mp hn).1
 exact⟨⟨(n:Int),by rw[e2];exact a9O _ _ _ _,by rw[e1];exact(d0x ⟨n,hn5⟩).symm⟩,by rw[e2];rfl⟩
theorem c7f{α:Type}(xs:List α)(p:Nat)(x:α):(SetTable.insertAt xs.toArray p x)=(xs.take p++x::xs.drop p).toArray:=by
 unfold SetTable.insertAt
 apply Array.ext'
 simp
 exact a5S (by simp)
section
variable{P:Pg}{w:World}{A:Ar}{E:VP}{s:Sh}{a:Addr}{led:Bool}{m k:Nat}{t:Tok}
theorem c2p{h:Heap}{es fs:List (Int×Vl)}{ep:Nat}{t u:SetTable}(e:h.get? a=some (a4s es ep t)):(h.update a (Obj.putSet fs.toArray u)).get? a=some (a4s fs (ep+1) u):=a4A _ e rfl
theorem c2q{α:Type}{fs:List α}{n:Nat}(h:fs.length=n+1): ∃a r,fs=a::r/\r.length=n:=by
 cases fs with
 |nil=>cases h
 |cons a r=>exact⟨a,r,rfl,Nat.succ.inj h⟩
theorem pick5{α:Type}{fs:List α}(h:fs.length=5):(#[0,1,2,3,4]:Array Nat).filterMap (fs.toArray[·]?)=fs.toArray:=by
 obtain⟨_,_,rfl,h1⟩:=c2q h
 obtain⟨_,_,rfl,h2⟩:=c2q h1
 obtain⟨_,_,rfl,h3⟩:=c2q h2
 obtain⟨_,_,rfl,h4⟩:=c2q h3
 obtain⟨_,_,rfl,h5⟩:=c2q h4
 cases a2V.mp h5
 rfl
theorem c7g{Q:Sh->Prop}(hk:k<5)(hS:IsSet5 s.heap a led m)(q: ∀h',IsSet5 h' a led (m |||2 ^ k)->Heap.SameBut a s.heap h'->Q {s with heap:=h'}):
  wpAny (model P w) A (setAddHashed a (.int (k:Int) t) (k:Int)) (fun _ s'=>Q s') E s:=by
 obtain⟨hm,es,ep,e,en⟩:=hS
 have ln:=en.len
 have fit:=a4r led ⟨m,hm⟩
 have el:ElemsOf (intKind P w) es.toArray.toList:=Ents.elems (m:=⟨m,hm⟩) en
 have m5:(a0x m).length<=5:=a6f ⟨m,hm⟩
 have fit':(a7x led (a0x m)).fits es.toArray.size=true:=by rw[a0U,ln];exact fit
 have sc:byScan (.int (k:Int) t) es.toArray=true:=by
  unfold byScan
  have e3:es.toArray.all (·.2.scannable)=true:=by
   rw[Array.all_eq_true_iff_forall_mem];exact fun x hx=>(el x (by simpa using hx)).2
  rw[e3]
  have e4:decide (es.toArray.size<scanBound)=true:=a1E (by rw[a0U,ln];unfold scanBound;lia)
  rw[e4]
  rfl
 have hh:(intKind P w).hash (k:Int)=(k:Int):=d0x ⟨k,hk⟩
 unfold setAddHashed setAddHashedIn
 refine a2P (a0C (a4N e rfl fit' ?_))
 dsimp only
 rw[sc,if_pos rfl]
 unfold setAddByScan
 refine a0C (a0C (a5R (a0C ?_)))
 have scan: ∀{R:ScanMet->Sh->Prop},R (match es.toArray.toList.findIdx? (fun e=>(intKind P w).is (k:Int) e.2)with|some j=> .found (0+j)|none=> .absent) s->wpAny (model P w) A (setScan a (.int (k:Int) t) (k:Int) true es.toArray) R E s:=fun z=>by
  have y:=wpAny_setScan_of (prog:=P) (w:=w) (A:=A) (E:=E) (knd:=intKind P w) (k:=(k:Int)) (x:= .int (k:Int) t) (adding:=true) (a9O _ _ _ _) e rfl fit' el z
  rw[hh]at y
  exact y
 refine scan ?_
 rw[a6N]
 by_cases hin:k∈a0x m
 ·obtain⟨x,hx,tx,ex⟩:=en.has hin
  cases hf:es.findIdx? fun e=>(intKind P w).is (k:Int) e.2 with
  |none=>
   have z:=List.findIdx?_eq_none_iff.mp hf x hx;rw[ex,a9O]at z;cases z
  |some j=>
   refine a0F (a0F ?_);have z:=q s.heap (by rw[c7c ⟨m,hm⟩ ⟨k,hk⟩ hin];exact⟨hm,es,ep,e,en⟩) (Heap.SameBut.refl a s.heap);cases s;exact z
 ·have nb:=c7d ⟨m,hm⟩ ⟨k,hk⟩ hin
  cases hf:es.findIdx? fun e=>(intKind P w).is (k:Int) e.2 with
  |some j=>
   obtain⟨hj,hpj,_⟩:=List.findIdx?_eq_some_iff_getElem.mp hf;obtain⟨n,hn,_,tn,e2⟩:=en.mem (a2O hj);rw[e2]at hpj;have z:(k:Int)=(n:Int):=(intKind P w).inj _ _ _ hpj (a9O _ _ _ tn);have z':k=n:=by lia
   exact absurd (z'▸hn) hin
  | none=>
   obtain⟨pu,pf⟩:=c7a led ⟨m,hm⟩ ⟨k,hk⟩ nb;have sa:=c7b ⟨m,hm⟩ ⟨k,hk⟩ nb;have lt32:=c2o ⟨m,hm⟩ ⟨k,hk⟩;dsimp only at pu pf sa lt32;have en':Ents (a0x (m |||2 ^ k)) (es.take (a9i (a0x m) k)++((k:Int),Value.int (k:Int) t)::es.drop (a9i (a0x m) k)):=by
    rw[sa];exact(en.take _).app (.cons ⟨rfl,t,rfl⟩ (en.drop _))
   have lay:layNew (a7x led (a0x m)) es.toArray (k:Int) (.int (k:Int) t)=((es.take (a9i (a0x m) k)++((k:Int),Value.int (k:Int) t)::es.drop (a9i (a0x m) k)).toArray,b9t led m k,false,false):=by
    unfold layNew;rw[c2n led ⟨m,hm⟩ ⟨k,hk⟩ nb];dsimp only;rw[pu];dsimp only;rw[c7f];have sz:(es.take (a9i (a0x m) k)++((k:Int),Value.int (k:Int) t)::es.drop (a9i (a0x m) k)).toArray.size=(a0x m).length+1:=by
     rw[a0U,a0M,a2W,a1N,a4P,ln];lia
    rw[sz];unfold SetTable.orStandIn;rw[pf];rfl
   generalize es.take (a9i (a0x m) k)++((k:Int),Value.int (k:Int) t)::es.drop (a9i (a0x m) k)=fs at en' lay;have lf:=en'.len;have f5:fs.length<=5:=by rw[lf];exact a6f ⟨_,lt32⟩
   dsimp only;rw[lay];dsimp only;refine a0C (show wpAny _ _ (pure ()) _ _ _ from a0F ?_);refine a0C (show wpAny _ _ (pure true) _ _ _ from a0F ?_);refine a0C (wpAny_storeSet_of e rfl ?_ (by rw[a0U,a1B];lia));have e1:=c2p (h:=s.heap) (fs:=fs) (u:=b9t led m k) e;have same1:Heap.SameBut a s.heap (s.heap.update a (Obj.putSet fs.toArray (b9t led m k))):=Heap.SameBut.update ..;by_cases h4:(a0x m).length=4
   ·obtain⟨tf,rl,s5,ff⟩:=c7e led ⟨m,hm⟩ ⟨k,hk⟩ nb h4
    dsimp only at tf rl s5 ff;have l5:fs.length=5:=by rw[lf,s5];rfl
    have ks:fs.toArray.map (·.1)= #[0,1,2,3,4]:=by
     rw[List.map_toArray,en'.keys,s5];rfl
    have pick:(#[0,1,2,3,4]:Array Nat).filterMap (fs.toArray[·]?)=fs.toArray:=pick5 l5;have rel:relayAll (b9t led m k) fs.toArray (SetTable.grown fs.toArray.size)=(fs.toArray,a7x led (a0x (m |||2 ^ k)),false):=by
     unfold relayAll;rw[ks,a0U,l5,rl];dsimp only;rw[pick,a0U,l5,ff,Bool.and_true,if_pos (by decide+kernel)]
    show wpAny _ _ (if(!false&&(b9t led m k).tooFull)=true then _ else _) _ _ _
    rw[tf,if_pos (by decide)];simp only[if_true];rw[rel];dsimp only;refine a0C (show wpAny _ _ (pure ()) _ _ _ from a0F ?_);refine a0C (wpAny_storeSet_of e1 rfl ?_ (by rw[a0U,a1B];lia));have e2:=c2p (fs:=fs) (u:=a7x led (a0x (m |||2 ^ k))) e1;have same2:=Heap.SameBut.trans same1 (Heap.SameBut.update (s.heap.update a (Obj.putSet fs.toArray (b9t led m k))) a (Obj.putSet fs.toArray (a7x led (a0x (m |||2 ^ k)))));exact a0F (a0F (q _ ⟨lt32,fs,ep+1+1,e2,en'⟩ same2))
   ·obtain⟨te,tf⟩:=b9u led ⟨m,hm⟩ ⟨k,hk⟩ nb h4
    dsimp only at te tf;show wpAny _ _ (if(!false&&(b9t led m k).tooFull)=true then _ else _) _ _ _
    rw[tf,if_neg (by decide)];refine a0F (a0F (q _ ⟨lt32,fs,ep+1,?_,en'⟩ same1));rw[<-te];exact e1
end
def a9j(m:Nat)(ns:Nsq):Nat:=ns.foldl (fun m n=>m |||2 ^ n) m
section
variable{P:Pg}{w:World}{A:Ar}{E:VP}{S it l:Addr}{led:Bool}{ns:Nsq}{vs:Vs}
theorem b4b{R:Result->Sh->Prop}(hh:A.handled=none)(d1:S≠it)(d2:S≠l)(d3:it≠l)(hv:Vals (ns.map nv) vs)(h5: ∀n∈ns,n<5):
  ∀(rest:Nsq) (i m:Nat) (s:Sh),ns.drop i=rest->s.heap.IsListIter it l i->s.heap.IsList l vs.toArray->IsSet5 s.heap S led m->
   (∀h' tk,IsSet5 h' S led (a9j m rest)->(∀b o,b≠S->b≠it->s.heap.get? b=some o->h'.get? b=some o)->R (.ok (.ret .none)) {s with heap:=h',toks:=tk})->
   codeAny (model P w) A (.builtin "set.update.loop" ⟨[.ref S,.ref it],[]⟩) R s
 | [],i,m,s,hd,hi,hl,hS,q=>by
  have hlen:vs.length<=i:=by
   have h1:vs.length=ns.length:=by simpa using hv.length.symm
   have h2:=List.drop_eq_nil_iff.mp hd;lia
  refine a5C F.entry_set_update_loop ?_
  rw[a4J a6T _]
  show wpAny _ A.in1 (pyNext (.ref it) >>= _) _ _ s
  refine a0C (wpAny_pyNext_list_end (by simpa using hh) hi hl (by simp;lia) fun h' keep=>?_)
  refine a0F (q h' s.toks ?_ fun b o _ h2 e=>keep b o h2 e)
  obtain⟨hm,es,ep,e,en⟩:=hS
  exact⟨hm,es,ep,keep _ _ d1 e,en⟩
 | n::rest,i,m,s,hd,hi,hl,hS,q=>by
  have at1:ns[i]? =some n:=by rw[<-List.head?_drop,hd];rfl
  have next:ns.drop (i+1)=rest:=by rw[<-List.tail_drop,hd];rfl
  have n5:=h5 n (a0E at1)
  obtain⟨u,hu,t,rfl⟩:=hv.get (i:=i) (x:=nv n) (by rw[a0G,at1];rfl)
  refine a5C F.entry_set_update_loop ?_
  rw[a4J a6T _]
  show wpAny _ A.in1 (pyNext (.ref it) >>= _) _ _ s
  refine a0C (wpAny_pyNext_list_item hi hl (x:= .int (n:Int) t) (by simpa using hu) fun h1 hi1 sb1=>?_)
  show wpAny _ A.in1 (holding [Value.int (n:Int) t] (setAdd S (.int (n:Int) t)) >>= _) _ _ _
  refine a0C (a2P ?_)
  unfold setAdd
  refine a2P (a0C ((intKind P w).pyHash (k:=(n:Int)) (a9O _ _ _ _) ?_))
  rw[show(intKind P w).hash (n:Int)=(n:Int)from d0x ⟨n,n5⟩]
  have hS1:IsSet5 h1 S led m:=by
   obtain⟨hm,es,ep,e,en⟩:=hS;exact⟨hm,es,ep,sb1.extBut _ _ d1 e,en⟩
  refine c7g n5 hS1 fun h2 hS2 sb2=>?_
  refine a0F ⟨a6S a6T _,b4b hh d1 d2 d3 hv h5 rest (i+1) (m |||2 ^ n) _ next (hi1.extBut sb2.extBut d1.symm) ((hl.extBut sb1.extBut d3.symm).extBut sb2.extBut d2.symm) hS2 fun h' tk hS' keep=>?_⟩
  exact q h' tk hS' fun b o b1 b2 e=>keep b o b1 b2 (sb2.extBut _ _ b1 (sb1.extBut _ _ b2 e))
theorem c7h{s:Sh}{x:Vl}{Q:VP}(q:Q (.ref s.heap.objs.size) {s with heap:=s.heap.push (a4s [] 0 (a7x (!w.params.followText "set-order") []))}):
  codeAny (model P w) A (.call (.builtin "set.__new__") ⟨[.type "set",x],[]⟩) (wants Q E) s:=by
 refine codeAny_of_tree ?_
 show wpAny _ A.in1 (checkBuiltinCall "set.__new__" ⟨[.type "set",x],[]⟩ >>= fun _=>again (.builtin "set.__new__" ⟨[.type "set",x],[]⟩)) _ _ s
 refine a0C (a9Q (F.newCall_set_1 x) (a0F ⟨a6S F.plain_set_new _,a5C F.entry_set_new ?_⟩))
 rw[a4J F.plain_set_new _]
 have sub:=sub_set_self
 unfold Builtin.«set.__new__» Builtin.Frozenset.newClass
 wp_walk
 refine a6L (a0F ?_)
 dsimp only
 simp only[newObj]
 refine a0C (wpAny_alloc (a0F (a0F ?_)))
 exact q
abbrev d3p(led:Bool):Obj:={cls:= .type "set",dict:=none,data:= .set #[] 0 (.fresh 0 0 led)}
set_option maxHeartbeats 4000000 in
theorem c2r{h:Heap}{gn:Array GenState}{dr:Drawn}{k:Nat}{os:OsState}{R:PySem.Fin->Sh->Prop}(hh:A.handled=none)(hl:h.IsList l vs.toArray)(hv:Vals (ns.map nv) vs)(h5: ∀n∈ns,n<5)
  (q: ∀h' tk,IsSet5 h' h.objs.size led (a9j 0 ns)->(∀b o,h.get? b=some o->h'.get? b=some o)->R (.done (.ret .none)) ⟨h',gn,dr,tk,os⟩):
  wpAny (model P w) A (Builtin.«set.__init__» ⟨[.ref h.objs.size,.ref l],[]⟩) R E ⟨h.push (d3p led),gn,dr,k,os⟩:=by
 obtain⟨⟨cl,dl,dat,sl⟩,e2,c2,n2,d2⟩:=id hl
 simp only at c2 d2
 subst c2 d2
 have e3:(h.push (d3p led)).get? l=some ⟨.type "list",dl,.seq vs.toArray n2,sl⟩:=a0I _ e2
 have e0:(h.push (d3p led)).get? h.objs.size=some {cls:= .type "set",dict:=none,data:= .set #[] 0 (.fresh 0 0 led)}:=a0V _ rfl
 have s1:=F.sub_list_set
 have s2:=F.sub_list_frozenset
 have ne:(Value.type "list"==Value.type "dict")=false:=by decide
 unfold Builtin.«set.__init__» noKeywords Builtin.Frozenset.updateFrom
 generalize g:pyIter=iter
 wp_walk
 subst g
 have hl1:(h.push (d3p led)).IsList l vs.toArray:=hl.push _
 refine a7D hl1 (a0C (wpAny_runValue ?_))
 have lt:l<h.objs.size:=a0T e2
 have sz:(h.push (d3p led)).objs.size=h.objs.size+1:=a7L ..
 refine b4b (vs:=vs) (led:=led) (by simpa using hh) (by rw[sz];exact Nat.ne_of_lt (Nat.lt_succ_self _)) (Nat.ne_of_gt lt) (by rw[sz];exact Nat.ne_of_gt (Nat.lt_succ_of_lt lt)) hv h5 ns 0 0 _ rfl ⟨_,Heap.get?_push_size _ rfl,rfl,rfl⟩ (hl1.push _) ⟨by decide,[],0,Heap.get?_push_of_some _ e0,.nil⟩ fun h' tk z1 z2=>?_
 refine a0F (a0F (q h' tk z1 fun b o e=>?_))
 have bl:=a0T e
 exact z2 b o (a1J bl) (by rw[sz];exact a1J (a8X bl)) (a0I _ (a0I _ e))
theorem c2s{s:Sh}{Q:VP}(hh:A.handled=none)(hl:s.heap.IsList l vs.toArray)(hv:Vals (ns.map nv) vs)(h5: ∀n∈ns,n<5)
  (q: ∀h' tk,IsSet5 h' s.heap.objs.size (!w.params.followText "set-order") (a9j 0 ns)->(∀b o,s.heap.get? b=some o->h'.get? b=some o)->Q (.ref s.heap.objs.size) {s with heap:=h',toks:=tk}):
  wpAny (model P w) A (call (.type "set") [.ref l]) Q E s:=by
 have lt:l<s.heap.objs.size:=let⟨_,e,_⟩:=hl;a0T e
 obtain⟨c,tl,mro⟩:=a5Z.mro
 have made:=a5Z.made
 have sub:=a5Z.sub
 have noType:=a5Z.notType
 have may:=a5Z.canCreate
 have args:=F.typeCall_set_1 (.ref l)
 have look:=a5Z.init.lookup
 have bnd:=a5Z.init.bind (.ref s.heap.objs.size)
 generalize eo:a4s [] 0 (a7x (!w.params.followText "set-order") [])=o0
 have e0:(s.heap.push o0).get? s.heap.objs.size=some o0:=a0V _ (by rw[<-eo];rfl)
 have ty:Shared.TypeIs {s with heap:=s.heap.push o0} (.ref s.heap.objs.size) "set":=⟨_,e0,by rw[<-eo];rfl⟩
 refine a9N (codeAny_of_tree (show wpAny _ _ (callAny (.type "set") _) _ _ _ from a0F ⟨Code.quiet_builtin _ (by decide+kernel),a5C F.entry_type_call ?_⟩))
 rw[Around.under_plain (weight_type_call_type "set" [.ref l] []) rfl]
 repeat (any_goals (first|assumption|wp_step))
 refine a5G (c7h (w:=w) (E:=E) (Q:=fun v s1=>v= .ref s.heap.objs.size/\s1={s with heap:=s.heap.push o0}) (by rw[eo];exact⟨rfl,rfl⟩)) fun r s1 z=>?_
 cases r with
 |error _=>exact z
 | ok f=>
  cases f<;>first|exact z.elim|skip
  obtain⟨e1,e2⟩:=z
  subst e1 e2
  repeat (any_goals (first|assumption|wp_step))
  refine a5G (codeAny_call_builtin (R:=wants (fun v s2=>v= .none/\ ∃h' tk,s2={s with heap:=h',toks:=tk}/\IsSet5 h' s.heap.objs.size (!w.params.followText "set-order") (a9j 0 ns)/\ ∀b o,s.heap.get? b=some o->h'.get? b=some o) E)
   a5Z.init.plain F.entry_set_init (check_set_init_1 ty ?_)) fun r s2 z=>?_
  ·subst eo
   exact c2r (A:=A.in1.in1) (by simpa using hh) hl hv h5 fun h' tk z1 z2=>⟨rfl,h',tk,rfl,z1,z2⟩
  ·cases r with
   |error _=>exact z
   |ok f=>
    cases f<;>first|exact z.elim|skip
    obtain⟨e1,h',tk,e2,z1,z2⟩:=z;subst e1 e2
    repeat (any_goals (first|assumption|wp_step))
    exact q h' tk z1 z2
end
theorem si_next:Slot "set_iterator" "__next__" "set_iterator.__next__":=Slot.of (owner:="set_iterator") (n:="__next__") (by rw[typeLookup_type,builtinLookup_eq_fast];kernel_rfl) (by decide+kernel) (by decide+kernel) (by decide+kernel) (by first|exact .inl (by decide+kernel)|exact .inr (by decide+kernel)) (by rw[isSubtype_type];kernel_rfl)
theorem c2t:Slot "set_iterator" "__iter__" "set_iterator.__iter__":=Slot.of (owner:="set_iterator") (n:="__iter__") (by rw[typeLookup_type,builtinLookup_eq_fast];kernel_rfl) (by decide+kernel) (by decide+kernel) (by decide+kernel) (by first|exact .inl (by decide+kernel)|exact .inr (by decide+kernel)) (by rw[isSubtype_type];kernel_rfl)
theorem b0r:entryFor table "set_iterator.__next__"=some Builtin.«set_iterator.__next__»:=entryFor_of_tree (by kernel_rfl)
theorem b9v:entryFor table "set_iterator.__iter__"=some Builtin.«dict_keyiterator.__iter__»:=entryFor_alias (id':="dict_keyiterator.__iter__") (by kernel_rfl) (by first|rfl|decide+kernel|(unfold String.splitOn;simp+decide [String.splitOnAux])) (by decide+kernel) (by kernel_rfl)
theorem c2u:entryFor table "set.__iter__"=some Builtin.«frozenset.__iter__»:=entryFor_alias (id':="frozenset.__iter__") (by kernel_rfl) (by first|rfl|decide+kernel|(unfold String.splitOn;simp+decide [String.splitOnAux])) (by decide+kernel) (by kernel_rfl)
theorem a7n(a:Vl):argsOk "set_iterator.__next__" ⟨[a],[]⟩:=by unfold argsOk;kernel_rfl
theorem b4c(a:Vl):argsOk "set_iterator.__iter__" ⟨[a],[]⟩:=by unfold argsOk;kernel_rfl
theorem c2v{α:Type}(f:Nat->Nat): ∀(fuel k:Nat) (left:List α) (out:Array α),left.length=fuel->(pickOrder.go f fuel k left out).toList.Perm (out.toList++left)
 |0,k,left,out,h=>by
  rw[List.eq_nil_of_length_eq_zero h]
  simp[pickOrder.go]
 | fuel+1,k,left,out,h=>by
  have lt:f k%left.length<left.length:=Nat.mod_lt _ (by lia)
  unfold pickOrder.go
  rw[a0A lt]
  dsimp only
  refine(c2v f fuel (k+1) (left.eraseIdx (f k%left.length)) (out.push left[f k%left.length]) (by rw[List.length_eraseIdx_of_lt lt];lia)).trans ?_
  rw[a5D,a1H]
  refine a4U _ ?_
  rw[List.eraseIdx_eq_take_drop_succ]
  have e:left=left.take (f k%left.length)++left[f k%left.length]::left.drop (f k%left.length+1):=by
   rw[<-a4V lt,a2R]
  have z:=(List.perm_middle (a:=left[f k%left.length]) (l₁:=left.take (f k%left.length)) (l₂:=left.drop (f k%left.length+1))).symm
  rw[<-e]at z
  exact z
def a7y(w:World)(a:Addr)(ep:Nat)(es:List (Int×Vl)):List (Int×Vl):=if w.params.followText "set-order" then(pickOrder (w.params.setOrder a ep) es.toArray).toList else es
theorem a7d(w:World)(a:Addr)(ep:Nat)(es:List (Int×Vl)):(a7y w a ep es).Perm es:=by
 unfold a7y
 cases w.params.followText "set-order" with
 |true=>
  have z:=c2v (w.params.setOrder a ep) es.toArray.size 0 es.toArray.toList #[] (by simp)
  simpa[pickOrder]using z
 |false=>exact List.Perm.refl _
def a7z(byText:Bool)(xs:Nsq):Nat->Nat
 |0=>0
 |i+1=>if byText then 0 else xs.getD i 0+1
theorem d3q: ∀(m:Fin 32) (i:Fin 6),(i:Nat)<=(a0x m).length->SetTable.below (a0x m).toArray (a7z false (a0x m) i)=i:=by decide+kernel
def a5t(slot i n ep:Nat)(a:Addr):Obj:={cls:= .type "set_iterator",data:= .fields #[rawInt slot,rawInt i,.ref a,rawInt n,rawInt ep]}
section
variable{P:Pg}{w:World}{A:Ar}{E:VP}{s:Sh}{a it:Addr}{m ep i:Nat}{es:List (Int×Vl)}
theorem d3r{Q:Option (Vl×Nat)->Sh->Prop}(hm:m<32)(hS:s.heap.get? a=some (a4s es ep (a7x (!w.params.followText "set-order") (a0x m))))(en:Ents (a0x m) es)(hi:i<=(a0x m).length)
  (q:Q (((a7y w a ep es)[i]?).map fun e=>(e.2,a7z (w.params.followText "set-order") (a0x m) (i+1))) s):wpAny (model P w) A (setNext a (a7z (w.params.followText "set-order") (a0x m) i) i ep) Q E s:=by
 have ln:=en.len
 have fit:(a7x (!w.params.followText "set-order") (a0x m)).fits es.toArray.size=true:=by rw[a0U,ln];exact a4r _ ⟨m,hm⟩
 have m5:(a0x m).length<=5:=a6f ⟨m,hm⟩
 unfold setNext setsByText
 refine a0C (a4N hS rfl fit ?_)
 refine a0C (a0C (a6L (a0F ?_)))
 show wpAny _ _ (if w.params.followText "set-order"=true then _ else _) _ _ _
 unfold a7y at q
 generalize hb:w.params.followText "set-order"=bt at q hS fit⊢
 cases bt with
 |true=>
  rw[if_pos rfl]
  rw[if_pos rfl]at q
  rw[if_neg (by simp)]
  unfold setWalk setsByText
  refine a0C (a0C (a4N hS rfl fit (a0C (a0C (a6L (a0F ?_))))))
  show wpAny _ _ (if w.params.followText "set-order"=true then _ else _) _ _ _
  rw[hb,if_pos rfl]
  refine a0C (a6L (a0F (a0F ?_)))
  rw[a1X]at q
  cases i<;>exact q
 | false=>
  rw[if_neg (by decide)]
  rw[if_neg (by decide)]at q
  rw[if_neg (by show ¬((!true&&_)=true);simp)]
  refine a0C ?_
  show wpAny _ _ (if(!true&& !es.toArray.isEmpty)=true then _ else _) _ _ _
  rw[if_neg (by simp)]
  refine a0F (a0F ?_)
  show Q (match es.toArray[SetTable.below (a0x m).toArray (a7z false (a0x m) i)]?,(a0x m).toArray[SetTable.below (a0x m).toArray (a7z false (a0x m) i)]? with|some (_,x),some j=>some (x,j+1)|_,_=>none) s
  rw[d3q ⟨m,hm⟩ ⟨i,by lia⟩ hi]
  rcases Nat.lt_or_ge i (a0x m).length with z|z
  ·have z':i<es.length:=by lia
   rw[a0A z']at q;simp only[List.getElem?_toArray,List.getElem?_eq_getElem z',List.getElem?_eq_getElem z];have e:a7z false (a0x m) (i+1)=(a0x m)[i]+1:=by
    show(if false=true then 0 else(a0x m).getD i 0+1)=_
    rw[if_neg (by decide),a0N,a0A z];rfl
   rw[e]at q;exact q
  ·have z':es.length<=i:=by lia
   rw[a1Y z']at q;simp only[List.getElem?_toArray,List.getElem?_eq_none z'];exact q
end
section
variable{P:Pg}{w:World}{A:Ar}{E:VP}{a it:Addr}{m ep:Nat}{es:List (Int×Vl)}
theorem b9w{s:Sh}{i:Nat}{e:Int×Vl}{Q:Option Vl->Sh->Prop}(hne:a≠it)(hm:m<32)(en:Ents (a0x m) es)(hI:s.heap.get? it=some (a5t (a7z (w.params.followText "set-order") (a0x m) i) i (a0x m).length ep a))(hS:s.heap.get? a=some (a4s es ep (a7x (!w.params.followText "set-order") (a0x m))))
  (hi:i<(a0x m).length) (he:(a7y w a ep es)[i]? =some e)
  (q: ∀h',h'.get? it=some (a5t (a7z (w.params.followText "set-order") (a0x m) (i+1)) (i+1) (a0x m).length ep a)->Heap.SameBut it s.heap h'->Q (some e.2) {s with heap:=h'}):wpAny (model P w) A (pyNext (.ref it)) Q E s:=by
 have ty:s.TypeIs (.ref it) "set_iterator":=⟨_,hI,rfl⟩
 have ln:=en.len
 have fit:(a7x (!w.params.followText "set-order") (a0x m)).fits es.toArray.size=true:=by rw[a0U,ln];exact a4r _ ⟨m,hm⟩
 unfold pyNext
 refine a0C (a5K (a2Q (name:=Str.ofString "__next__") ty si_next (a2H si_next ty b0r ?_ (a7n _))))
 unfold a5t at hI
 unfold Builtin.«set_iterator.__next__»
 refine a0C (m:=slotArgs _ _ _) (a0F ?_)
 refine a0C (a6K hI rfl ?_)
 show wpAny _ _ (setEntries a >>= _) _ _ _
 unfold setEntries
 refine a0C (a0C (a4N hS rfl fit (a0F ?_)))
 have zs:((((es.toArray.size:Nat):Int) != (((a0x m).length:Nat):Int)))=false:=by rw[a0U,ln];simp
 show wpAny _ _ (if((((es.toArray.size:Nat):Int) != (((a0x m).length:Nat):Int)))=true then _ else _) _ _ _
 rw[zs,if_neg (by decide)]
 show wpAny _ _ (setNext a ((a7z (w.params.followText "set-order") (a0x m) i:Nat):Int).toNat ((i:Nat):Int).toNat ((ep:Nat):Int).toNat >>= _) _ _ _
 simp only[Int.toNat_natCast]
 refine a0C (d3r hm hS en (a3D hi) ?_)
 rw[he]
 show wpAny _ _ (setField (.ref it) 0 (rawInt _) >>= _) _ _ _
 refine a0C (a3B hI (by simp) fun h1 e1 sb1=>?_)
 refine a0C (a3B e1 (by simp) fun h2 e2 sb2=>?_)
 exact a0F ⟨_,rfl,a0F (q h2 e2 (sb1.trans sb2))⟩
theorem c2w{s:Sh}{Q:Option Vl->Sh->Prop}(hh:A.handled=none)(hne:a≠it)(hm:m<32)(en:Ents (a0x m) es)(hI:s.heap.get? it=some (a5t (a7z (w.params.followText "set-order") (a0x m) (a0x m).length) (a0x m).length (a0x m).length ep a))(hS:s.heap.get? a=some (a4s es ep (a7x (!w.params.followText "set-order") (a0x m))))
  (q: ∀h',Heap.ExtBut it s.heap h'->Q none {s with heap:=h'}):wpAny (model P w) A (pyNext (.ref it)) Q E s:=by
 have ty:s.TypeIs (.ref it) "set_iterator":=⟨_,hI,rfl⟩
 have ln:=en.len
 have fit:(a7x (!w.params.followText "set-order") (a0x m)).fits es.toArray.size=true:=by rw[a0U,ln];exact a4r _ ⟨m,hm⟩
 have he:(a7y w a ep es)[(a0x m).length]? =none:=a1Y (by rw[(a7d w a ep es).length_eq];lia)
 unfold pyNext
 refine a0C (a5K (a2Q (name:=Str.ofString "__next__") ty si_next (a2H si_next ty b0r ?_ (a7n _))))
 unfold a5t at hI
 unfold Builtin.«set_iterator.__next__»
 refine a0C (m:=slotArgs _ _ _) (a0F ?_)
 refine a0C (a6K hI rfl ?_)
 show wpAny _ _ (setEntries a >>= _) _ _ _
 unfold setEntries
 refine a0C (a0C (a4N hS rfl fit (a0F ?_)))
 have zs:((((es.toArray.size:Nat):Int) != (((a0x m).length:Nat):Int)))=false:=by rw[a0U,ln];simp
 show wpAny _ _ (if((((es.toArray.size:Nat):Int) != (((a0x m).length:Nat):Int)))=true then _ else _) _ _ _
 rw[zs,if_neg (by decide)]
 show wpAny _ _ (setNext a ((a7z (w.params.followText "set-order") (a0x m) (a0x m).length:Nat):Int).toNat (((a0x m).length:Nat):Int).toNat ((ep:Nat):Int).toNat >>= _) _ _ _
 simp only[Int.toNat_natCast]
 refine a0C (d3r hm hS en (a0J _) ?_)
 rw[he]
 show wpAny _ _ (setField (.ref it) 2 .none >>= _) _ _ _
 refine a0C (a3B hI (by simp) fun h1 e1 sb1=>?_)
 refine a0C (m:=newExc _ _) ?_
 simp only[newExc,newTuple]
 refine a0C (a2N ?_ (by size_fits))
 refine a0C (m:=firstArgMember _ _) (a9Q (a:=Value.none) (by first|rfl|(unfold firstArgMember;rfl)) (wpAny_newObj_type ?_ (by size_fits)))
 refine a8K (by simpa using hh) (wpAny_bind (wpAny_isInstance (T:="StopIteration") (b:=true) ⟨_,Heap.get?_push_size _ rfl,rfl⟩ isSubtype_stop (wpAny_pure ?_)))
 exact q _ fun b o nb e=>a0I _ (a0I _ (sb1.extBut b o nb e))
theorem d3s(hh:A.handled=none)(hne:a≠it)(hm:m<32)(en:Ents (a0x m) es):Walks P w A it [it,a] [it] (a0x m).length (fun i v=> ∃e,(a7y w a ep es)[i]? =some e/\v=e.2)
  (fun i h=>h.get? it=some (a5t (a7z (w.params.followText "set-order") (a0x m) i) i (a0x m).length ep a)/\h.get? a=some (a4s es ep (a7x (!w.params.followText "set-order") (a0x m)))) where
 sub:=fun b hb=>a1C.mpr (.inl (a0H.mp hb))
 frame:=fun i h h' st k=>⟨k it (a0S ..) _ st.1,k a (a0X _ (a0H.mpr rfl)) _ st.2⟩
 item:=fun i s Q E hi st q=>by
  have l1:(a7y w a ep es).length=(a0x m).length:=by rw[(a7d w a ep es).length_eq,en.len]
  obtain⟨e,he⟩: ∃e,(a7y w a ep es)[i]? =some e:=⟨_,a0A (by lia)⟩
  refine b9w hne hm en st.1 st.2 hi he fun h' e1 sb=>q e.2 h' s.toks ⟨e,he,rfl⟩ ⟨e1,sb.extBut _ _ hne st.2⟩ fun b o nb e=>sb.extBut _ _ (fun z=>nb (a0H.mpr z)) e
 done:=fun s Q E st q=>c2w hh hne hm en st.1 st.2 fun h' x=>q h' s.toks fun b o nb e=>x b o (fun z=>nb (a0H.mpr z)) e
 self:=fun i s Q E st q=>by
  have ty:s.TypeIs (.ref it) "set_iterator":=⟨_,st.1,rfl⟩
  refine a5E ty c2t (a2H c2t ty b9v ?_ (b4c _))
  exact show wpAny _ _ (ret (.ref it)) _ _ s from a0F ⟨_,rfl,"set_iterator",_,ty,si_next.lookup,q⟩
theorem iterS{s:Sh}{Q:VP}(hm:m<32)(en:Ents (a0x m) es)(hS:s.heap.get? a=some (a4s es ep (a7x (!w.params.followText "set-order") (a0x m))))
  (q:Q (.ref s.heap.objs.size) {s with heap:=s.heap.push (a5t 0 0 (a0x m).length ep a)}):wpAny (model P w) A (pyIter (.ref a)) Q E s:=by
 have ty:s.TypeIs (.ref a) "set":=⟨_,hS,rfl⟩
 have ln:=en.len
 have fit:(a7x (!w.params.followText "set-order") (a0x m)).fits es.toArray.size=true:=by rw[a0U,ln];exact a4r _ ⟨m,hm⟩
 refine a5E ty F.slot_set_iter (a2H F.slot_set_iter ty c2u ?_ (F.args_set_iter_1 _))
 unfold Builtin.«frozenset.__iter__»
 refine a0C (m:=Builtin.Frozenset.slot0 _ _) (a0F ?_)
 unfold Builtin.Frozenset.sizeOf setEntries
 refine a0C (a0C (a0C (a4N hS rfl fit (a0F (a0F ?_)))))
 unfold setDrawn setsByText
 refine a0C (a0C (a4N hS rfl fit (a0C (a0C (a6L (a0F (a0F ?_)))))))
 have nd:(!w.params.followText "set-order"&&(!true&&decide (es.toArray.size>1)))=false:=by simp
 show wpAny _ _ (if(!w.params.followText "set-order"&&(!true&&decide (es.toArray.size>1)))=true then _ else _) _ _ _
 rw[nd,if_neg (by decide)]
 refine a0C (a0F (a0C (wpAny_setEpoch_of hS rfl fit ?_)))
 refine a0C (m:=newFields _ _) ?_
 unfold newFields
 refine a2N ?_ (by size_fits)
 rw[<-ln]at q
 exact a0F ⟨_,rfl,"set_iterator",_,⟨_,a0V _ rfl,rfl⟩,si_next.lookup,q⟩
theorem hintS{s:Sh}{Q:Bool->Sh->Prop}(ty:s.TypeIs (.ref a) "set")(q:Q false s):wpAny (model P w) A (Builtin.List.listLengthHint (.ref a)) Q E s:=by
 unfold Builtin.List.listLengthHint
 refine a0C (wpAny_specialOf ty F.slot_set_len.lookup ?_)
 generalize g:("set.__len__":String)=name
 wp_delta
 rw[show splitId name=some ("set","__len__") by subst g;decide+kernel]
 subst g
 refine a0C (wpAny_isInstance (T:="set") (b:=true) ty (by rw[isSubtype_type];kernel_rfl) (a9I (fun z=>absurd z (by decide)) fun _=>?_))
 exact a9I (fun _=>a0C (a7M ty (a0F q))) fun z=>absurd (by decide+kernel) z
theorem srcS(hm:m<32)(en:Ents (a0x m) es):PySem.W.KdlSrc P w "set" a a (a0x m).length (fun i v=> ∃e,(a7y w a ep es)[i]? =some e/\v=e.2) (fun h=>h.get? a=some (a4s es ep (a7x (!w.params.followText "set-order") (a0x m)))) where
 type:=fun _ e=>⟨_,e,rfl⟩
 there:=fun _ e=>⟨a0T e,a0T e⟩
 keep:=fun _ _ e k=>k a (.inl rfl) _ e
 notList:=by decide
 notTuple:=by decide
 hint:=fun _ _ _ _ e q=>hintS ⟨_,e,rfl⟩ q
 iter:=fun _ _ hh e=>⟨_,_,fun _ _ q=>iterS hm en e q,d3s hh (a1J (a0T e)) hm en,a0V _ rfl,a0I _ e⟩
end
def a1w(ns:Nsq):Nsq:=(List.range 5).filter fun i=>ns.contains i
theorem b4d(i:Nat): ∀(ns:Nsq) (m:Nat),(a9j m ns).testBit i=(m.testBit i || ns.contains i)
 | [],m=>by simp[a9j]
 |n::ns,m=>by
  show(a9j (m |||2 ^ n) ns).testBit i=_
  rw[b4d i ns,Nat.testBit_or,Nat.testBit_two_pow,List.contains_cons,Bool.or_assoc]
  congr 2
  by_cases h:n=i
  ·simp[h]
  ·simp[h,Ne.symm h]
theorem b4e(ns:Nsq):a0x (a9j 0 ns)=a1w ns:=by
 unfold a0x a1w
 congr 1
 funext i
 rw[b4d]
 simp
theorem d0y(m:Nat):(a0x m).Pairwise (· <= ·):=by
 unfold a0x
 exact List.Pairwise.filter _ (by decide)
theorem d3t: ∀{vs:Vs} {is:Zs},IntsAre vs is->Vals (is.map V.int) vs
 |_,_,.nil=> .nil
 |_,_,.cons n t h=> .cons ⟨t,rfl⟩ (d3t h)
theorem b4f: ∀{ls:List (Int×Vl)},(∀e∈ls,∃t,e.2= .int e.1 t)->IntsAre (ls.map (·.2)) (ls.map (·.1))
 | [],_=> .nil
 |e::ls,h=>by
  obtain⟨t,et⟩:=h e (a0S ..)
  rw[a2I,a2I,et]
  exact .cons _ _ (b4f fun x hx=>h x (a0X _ hx))
section
variable{P:Pg}{w:World}{A:Ar}{E:VP}{a:Addr}{m:Nat}
theorem d0z{s:Sh}{Q:VP}(hh:A.handled=none)(hS:IsSet5 s.heap a (!w.params.followText "set-order") m)
  (q: ∀(h1 h':Heap) tk out n,Vals ((a0x m).map nv) out->(∀b o,s.heap.get? b=some o->h1.get? b=some o)->(∀b o,h1.get? b=some o->h'.get? b=some o)->h'.get? h1.objs.size=some {cls:= .type "list",data:= .seq out.toArray n}->Q (.ref h1.objs.size) {s with heap:=h',toks:=tk}):
  wpAny (model P w) A (call (.builtin "sorted") [.ref a]) Q E s:=by
 obtain⟨hm,es,ep,eS,en⟩:=hS
 have m5:(a0x m).length<=5:=a6f ⟨m,hm⟩
 have ln:=en.len
 have perm:=a7d w a ep es
 refine a6J kind_sorted plain_sorted entry_sorted (args_sorted1 _) ?_
 unfold Builtin.«sorted»
 refine a0C (m:=checkCount "sorted" 1 1 _) (a0F ?_)
 refine a0C (PySem.W.kdu_collect (A:=A.in1) (srcS hm en) (by simpa using hh) eS (by rw[sizeLine_eq];lia) fun h1 tk acc keep its=>?_)
 have whole:acc.toList=(a7y w a ep es).map (·.2):=by
  refine a4q (by rw[a0K,its.1,a0D,perm.length_eq];exact ln.symm) fun i x y hx hy=>?_
  obtain⟨e,e1,e2⟩:=its.2 i x (by rw[<-a1X];exact hx)
  rw[a0G,e1]at hy
  cases hy
  exact e2
 have are:IntsAre acc.toList ((a7y w a ep es).map (·.1)):=by
  rw[whole]
  refine b4f fun e he=>?_
  obtain⟨n,_,e1,t,e2⟩:=en.mem (perm.mem_iff.mp he)
  exact⟨t,by rw[e1,e2]⟩
 have al:acc.toList.length=(a0x m).length:=by rw[whole,a0D,perm.length_eq,ln]
 refine a0C (a8E ?_ (by rw[al,a1B];lia))
 have eD:(h1.push (seqObj "list" acc.toList.toArray 0)).get? h1.objs.size=some (seqObj "list" acc.toList.toArray 0):=a0V _ rfl
 refine a0C (a2P (a2H slot_list_sort ⟨_,eD,rfl⟩ a9J (list_sort_tree eD are (by lia) fun out js o1 o2 o3=>⟨_,rfl,?_⟩) (args_list_sort _)))
 have js_is:js=(a0x m).map fun(n:Nat)=>(n:Int):=by
  refine List.Perm.eq_of_pairwise (le:=(· <= ·)) (fun x y _ _=>Int.le_antisymm) o3 ?_ (o2.trans ?_)
  ·exact a7G.mpr ((d0y m).imp fun h=>by lia)
  ·rw[<-en.keys]
   exact perm.map _
 obtain⟨n,eN⟩:=sortedHeap_at (out:=out) eD
 refine a0F ⟨_,rfl,q h1 _ tk out.toList n ?_ keep (fun b o e=>?_) (by simpa using eN)⟩
 ·have z:=d3t o1
  rw[js_is,a3O]at z
  exact z
 ·have lt:=a0T e
  rw[sortedHeap_old (a1J lt) (a1I lt (by rw[a7L];exact a6M _))]
  exact a0I _ e
end
section
variable{X:Cx}
def SetO(w:World)(a:Addr)(m:Nat):HO:= .ext fun h=>IsSet5 h a (!w.params.followText "set-order") m
theorem IsSet5.ok{w:World}{h:Heap}{a:Addr}{m:Nat}{P:Pg}{w':World}{H:Hp}(x:IsSet5 h a (!w.params.followText "set-order") m):ObjOk P w' H h a (SetO w a m):=by
 obtain⟨hm,es,ep,e,en⟩:=id x
 exact⟨x,⟨_,e⟩,fun h1 h2 ⟨y1,es',ep',y2,y3⟩ k=>⟨y1,es',ep',k _ y2,y3⟩⟩
theorem Inv.track{pins:AO}{σ:St}{H:Hp}{s:Sh}{D:Addr}{o:HO}(I:Inv X pins σ H s)(hD:H D=none)(ok:ObjOk X.prog X.w (upd H D o) s.heap D o)
  (h0:X.s₀.heap.objs.size<=D) (h1:D≠X.env.locals) (h2: ∀x c,X.env.cells.lookup x=some c->c≠D) (h3: ∀p∈X.pn++pins,p.1≠D):Inv X pins σ (upd H D o) s:=by
 have nd: ∀b u,H b=some u->b≠D:=fun b u q z=>by rw[z,hD]at q;cases q
 have q:=I.step (h':=s.heap) (H':=upd H D o) (g':=s.gens) (t':=s.toks) (d':=s.drawn) (ch:=[D]) (fun b hb=>by
   have z:b=D:=by simpa using hb
   subst z;exact⟨.inr h0,h1,h2,h3⟩)
  (fun b o _ _ _ e _=>e) (fun b o _ _ _ e _=>⟨o.slots,e⟩) (fun b o hb _ n=>by rw[a0c (fun z=>hb (by simp[z]))];exact n) (fun b o _ e=>⟨o,e⟩)
  (fun b xs q=>by rw[a0c (nd b _ q)];exact q) (fun b o u q=>by rw[a0c (nd b _ q)];exact q) (fun b ps q=>⟨#[],by rw[a0c (nd b _ q),q];simp⟩) (fun m hm=>hm) (fun b u q=>?_) I.bare
 ·exact q
 ·by_cases hb:b=D
  ·subst hb
   rw[a0a]at q;cases q;exact ok
  ·rw[a0c hb]at q
   exact(I.hok b u q).stay (fun _ _ _ z=>z) (fun c z=>by rw[a0c (nd c _ z)];exact z) fun c xs z=>by rw[a0c (nd c _ z)];exact z
theorem Inv.trackNew{pins:AO}{σ:St}{H:Hp}{s s1:Sh}{o:HO}(I:Inv X pins σ H s)(I1:Inv X pins σ H s1)(ok:ObjOk X.prog X.w (upd H s.heap.objs.size o) s1.heap s.heap.objs.size o):Inv X pins σ (upd H s.heap.objs.size o) s1:=by
 obtain⟨f0,f1,f2,f3,f4,f5⟩:=I.fpOk (b:=s.heap.objs.size) (H':=H) (a0J _) (I.hok.fresh (a0J _))
 exact I1.track f0 ok I.sz f1 f4 f5
def rSetN(K:W.Frag)(w:World):List V->Hp->VK->Prop:=fun xs H Q=> ∃p ns,xs=[.ref p]/\SqL K H p (ns.map nv)/\(∀n∈ns,n<5)/\ ∀a,H a=none->Q (.ref a) (upd H a (SetO w a (a9j 0 ns)))
theorem c2x(hc:X.calm=true):a5o X (.type "set") (rSetN X.K X.w):=by
 intro pins s σ H xs us Q I r h
 obtain⟨p,ns,rfl,hl,h5,q⟩:=h
 obtain⟨u,rfl,ru⟩:=a5q r
 cases ru
 obtain⟨its,rv,pl,_⟩:=I.list hl
 refine c2s (I.ok.hd hc) pl.isList rv h5 fun h' tk z keep=>?_
 have I1:Inv X pins σ H {s with heap:=h',toks:=tk}:=I.kept keep
 exact⟨.ref s.heap.objs.size,_,Inv.trackNew I I1 z.ok,rfl,q _ I.fresh⟩
def d3u(w:World):List V->Hp->VK->Prop:=fun xs H Q=> ∃a m,xs=[.ref a]/\H a=some (SetO w a m)/\ ∀l,H l=none->Q (.ref l) (upd H l (.lst ((a0x m).map nv)))
theorem b9x(hc:X.calm=true):a5o X (.builtin "sorted") (d3u X.w):=by
 intro pins s σ H xs us Q I r h
 obtain⟨a,m,rfl,ha,q⟩:=h
 obtain⟨u,rfl,ru⟩:=a5q r
 cases ru
 obtain⟨z,_,_⟩:=I.hok a _ ha
 refine d0z (I.ok.hd hc) z fun h1 h' tk out n vo k1 k2 e=>?_
 have I1:Inv X pins σ H {s with heap:=h1,toks:=tk}:=I.kept k1
 have I2:Inv X pins σ H {s with heap:=h',toks:=tk}:=I1.kept k2
 have m5:(a0x m).length<=5:=a6f ⟨m,z.1⟩
 have ok:ObjOk X.prog X.w (upd H h1.objs.size (.lst ((a0x m).map nv))) h' h1.objs.size (.lst ((a0x m).map nv)):=⟨by rw[a0D,a1B];lia,out,n,vo,e⟩
 exact⟨.ref h1.objs.size,_,Inv.trackNew I1 I2 ok,rfl,q _ I1.fresh⟩
end
section
variable{X:Cx}
def rAny(K:W.Frag):List V->Hp->VK->Prop:=fun xs H Q=> ∃(p:Addr) (bs:List Bool),xs=[.ref p]/\SqL K H p (bs.map V.bl)/\Q (.bl (bs.any id)) H
theorem b4g(hc:X.calm=true):a5o X (.builtin "any") (rAny X.K):=by
 intro pins s σ H xs us Q I r h
 obtain⟨p,bs,rfl,hp,q⟩:=h
 obtain⟨u,rfl,ru⟩:=a5q r
 cases ru
 obtain⟨its,rv,pl,_⟩:=I.list hp
 have hl:=pl.isList
 have hlt:p<s.heap.objs.size:=pl.lt
 have hlen:its.length=bs.length:=by rw[<-rv.length,a0D]
 refine call_any_walk (a7D hl ⟨_,_,_,_,_,_,fun i=>bs.getD i false,rfl,Walks.list (A:=X.A.in1) (I.ok.hd hc) _ p (a1J hlt) its.toArray,⟨⟨_,a0V _ rfl,rfl,rfl⟩,hl.push _⟩,?_,fun h' tk hk=>?_⟩)
 ·intro i v s2 Q2 E2 hv hq
  have hv':its[i]? =some v:=by simpa using hv
  have hi:i<bs.length:=by rw[<-hlen];exact(a0B.mp hv').1
  obtain⟨u2,e1,e2⟩:=rv.get (i:=i) (x:= .bl (bs.getD i false)) (by rw[a0G,a0A hi,a0N,a0A hi];rfl)
  rw[hv']at e1
  cases e1
  cases(show v=Value.bool _ from e2)
  exact a3U hq
 ·have e:(List.range its.toArray.size).any (fun i=>bs.getD i false)=bs.any id:=by
   rw[a0U,hlen];have:bs=(List.range bs.length).map fun i=>bs.getD i false:=by
    refine a7V (by simp) fun i h1 h2=>?_
    simp[List.getD_eq_getElem?_getD,h1]
   conv=>rhs;rw[this,a9K]
   rfl
  rw[e]
  exact⟨.bl (bs.any id),H,I.kept fun b o z=>hk b o (by simp only[List.mem_singleton];exact Nat.ne_of_lt (Heap.lt_size z)) (Heap.get?_push_of_some _ z),rfl,q⟩
end
def drop(H:Hp)(c:Addr):Hp:=fun b=>if b=c then none else H b
theorem a2i{H:Hp}{c:Addr}:drop H c c=none:=by unfold drop;rw[if_pos rfl]
theorem a0o{H:Hp}{b c:Addr}(h:b≠c):drop H c b=H b:=by unfold drop;rw[if_neg h]
theorem a3u{H:Hp}{b c:Addr}(h:H b=none):drop H c b=none:=by
 by_cases e:b=c
 ·rw[e];exact a2i
 ·rw[a0o e];exact h
def a3d(c m:Addr)(o:Obj):HO:= .ext fun h=>h.get? c=some o/\o.data= .cell (some (.ref m))
def a5u(c:Addr)(q:Str):HO:= .ext fun h=>h.CodeRec (.ref c) q
def b1q(f:Addr)(fd:Fd):HO:= .ext fun h=>h.get? f=some {cls:= .type "function",data:= .func fd}
theorem HOk.drop{P:Pg}{w:World}{H:Hp}{h:Heap}{c:Addr}{φ:Heap->Prop}(x:HOk P w H h)(hc:H c=some (.ext φ)):HOk P w (drop H c) h:=fun b o e=>by
 by_cases hb:b=c
 ·rw[hb,a2i]at e;cases e
 ·rw[a0o hb]at e
  refine(x b o e).stay (fun _ _ _ z=>z) (fun d z=>?_) fun d xs z=>?_
  ·rw[a0o (fun q=>by rw[q,hc]at z;cases z)];exact z
  ·rw[a0o (fun q=>by rw[q,hc]at z;cases z)];exact z
theorem HOk.back{P:Pg}{w:World}{H:Hp}{h:Heap}{c:Addr}{o:HO}(x:HOk P w H h)(hc:H c=none)(ok:ObjOk P w (upd H c o) h c o):HOk P w (upd H c o) h:=fun b u e=>by
 by_cases hb:b=c
 ·subst hb;rw[a0a]at e;cases e;exact ok
 ·rw[a0c hb]at e
  exact(x b u e).stay (fun _ _ _ z=>z) (fun d z=>by rw[a0c (a0h z hc)];exact z) fun d xs z=>by rw[a0c (a0h z hc)];exact z
theorem c2y{P:Pg}{w:World}{H:Hp}{h:Heap}{c m:Addr}{o:Obj}(x:h.get? c=some o)(d:o.data= .cell (some (.ref m))):ObjOk P w H h c (a3d c m o):=⟨⟨x,d⟩,⟨o,x⟩,fun h1 h2 e k=>⟨k _ e.1,e.2⟩⟩
theorem c9b{P:Pg}{w:World}{H:Hp}{h:Heap}{f:Addr}{fd:Fd}(x:h.get? f=some {cls:= .type "function",data:= .func fd}):ObjOk P w H h f (b1q f fd):=⟨x,⟨_,x⟩,fun h1 h2 e k=>k _ e⟩
theorem d1a{P:Pg}{w:World}{H:Hp}{h:Heap}{c:Addr}{q:Str}(x:h.CodeRec (.ref c) q):ObjOk P w H h c (a5u c q):=by
 obtain⟨c',o,vs,t,e1,e2,e3⟩:=id x
 cases e1
 refine⟨x,⟨o,e2⟩,fun h1 h2 ⟨c',o',vs',t',f1,f2,f3⟩ k=>?_⟩
 cases f1
 exact⟨c,o',vs',t',rfl,k _ f2,f3⟩
structure LamScope(ps:Ss)(y:Str)(sc:Scope):Prop where
 kind:sc.kind= .function
 co:sc.isCoroutine=false
 gen:sc.isGenerator=false
 nd:(ps++[y]).Nodup
 par: ∀x∈ps,sc.names.lookup x=some .local
 fre:sc.names.lookup y=some .free
 only: ∀z∈sc.names,z.2≠ .cell/\(z.2= .free->z.1=y)
abbrev a3j(qual:Str)(params:Arguments)(body:Expr)(scope:Scope)(y:Str)(c:Addr)(pm cd ct:Vl):Fd:=PySem.W.kla_fn "<lambda>" qual params body scope [(y,c)] pm cd ct
def cxL(P:Pg)(w:World)(K:W.Frag)(mg:SV)(base:Heap)(N:Ss)(qual:Str)(scope:Scope)(f:Addr)(cd:Vl)(cl:List (Str×Addr))(A:Ar)(outer:List Env)(s:Sh)(H:Hp):Cx where
 prog:=P
 w:=w
 K:=K
 mg:=mg
 base:=base
 A:=A.deeper (PySem.W.envX qual scope s.heap.objs.size f cd cl)
 N:=N
 s₀:=s
 H₀:=H
 env:=PySem.W.envX qual scope s.heap.objs.size f cd cl
 outer:=outer
 stack:=PySem.W.envX qual scope s.heap.objs.size f cd cl::outer
 ex:=[]
 calm:=true
 fn:=fun _=>false
 pn:=[]
 xe:=fun _ _=>False
theorem a7o{x:Str}{u:Vl}: ∀{l:List (Str×Vl)},(l.map (·.1)).Nodup->(x,u)∈l->l.lookup x=some u
 | (a,b)::l,nd,h=>by
  rw[a2I,a2X]at nd
  rw[a3Q]
  rcases a1C.mp h with e|e
  ·cases e
   rw[a7T]
  ·have ne:(x==a)=false:=a3C.mpr fun q=>nd.1 (a0Q.mpr ⟨(x,u),e,q⟩)
   rw[ne];exact a7o nd.2 e
theorem b9y{ps:Ss}{us:Vs}{i:Nat}{x:Str}{u:Vl}(nd:ps.Nodup)(h1:ps[i]? =some x)(h2:us[i]? =some u):(ps.zip us).reverse.lookup x=some u:=by
 refine a7o ?_ (a3H.mpr (a1A.mpr ⟨i,List.getElem?_zip_eq_some.mpr ⟨h1,h2⟩⟩))
 have sub: ∀(ps:Ss) (us:Vs),((ps.zip us).map (·.1)).Sublist ps:=fun ps=>by
  induction ps with
  |nil=>intro us;simp
  |cons a ps ih=>
   intro us;cases us with
   |nil=>simp
   |cons b us=>rw[List.zip_cons_cons,a2I];exact(ih us).cons₂ a
 rw[List.map_reverse]
 show List.Pairwise (· ≠ ·) _
 rw[List.pairwise_reverse]
 exact(nd.sublist (sub ps us)).imp a3K
theorem d1b{P:Pg}{w:World}{K:W.Frag}{mg:SV}{base:Heap}{ps:Ss}{y qual:Str}{scope:Scope}{f c m:Addr}{cd:Vl}{A:Ar}{outer:List Env}{s:Sh}{H:Hp}{us:Vs}{vs:List V}{h1:Heap}{tk:Nat}
  (S:LamScope ps y scope) (hd:A.handled=none) (e0:Env0 P w K mg base A outer s H) (hl:vs.length=ps.length) (r:Vals vs us) (hc:H c=none) (ic:s.heap.IsCell c (some (.ref m)))
  (hns:h1.Ns s.heap.objs.size (fun x=>(ps.zip us).reverse.lookup x)) (sb:Heap.SameBut s.heap.objs.size (s.heap.push {cls:= .type "frame",data:= .dict #[]}) h1):
  Inv (cxL P w K mg base (ps++[y]) qual scope f cd [(y,c)] A outer s H) [] (vs.map some++[some (.ref m)]) H {s with heap:=h1,toks:=tk}:=by
 have hk: ∀b o,s.heap.get? b=some o->h1.get? b=some o:=fun b o e=>sb.extBut _ _ (a1J (a0T e)) (a0I _ e)
 have ic1:h1.IsCell c (some (.ref m)):=let⟨o,e,d⟩:=ic;⟨o,hk _ _ e,d⟩
 have one: ∀{x:Str} {d:Addr},([(y,c)]:List (Str×Addr)).lookup x=some d->x=y/\d=c:=fun {x d} h=>by
  rw[a3Q]at h
  cases q:x==y with
  |true=>rw[q]at h;cases h;exact⟨eq_of_beq q,rfl⟩
  |false=>rw[q]at h;cases h
 have at_y:([(y,c)]:List (Str×Addr)).lookup y=some c:=by rw[a3Q,a7T]
 have noA: ∀b:Addr,b∉(cxL P w K mg base (ps++[y]) qual scope f cd [(y,c)] A outer s H).ex:=fun b z=>absurd (show b∈([]:As)from z) (by simp)
 refine⟨⟨e0.mod,S.kind,rfl,rfl,a0J _,fun a b d h1 h2=>(one h1).1.trans (one h2).1.symm,fun a ha=>?_,fun a d h _=>absurd (show false=true from h) a1M,fun _=>hd,Around.frames_deeper e0.frames,.inr ⟨rfl,rfl⟩,fun b z=>absurd z (noA b),e0.bs,e0.bsz,fun b _ _=>noA b,fun b z=>absurd z (noA b),e0.funs,e0.frf⟩,
  rfl,e0.bare,Un.kept hk,⟨_,hns,fun i x v q1 q2 q3=>?_⟩,fun a d h=>?_,e0.hok.fresh (a0J _),fun a d h=>?_,fun p hp=>absurd (show p∈([]:AO)from hp) (by simp),e0.hok.kept hk,?_⟩
 ·have ha':scope.names.lookup a=some .cell∨scope.names.lookup a=some .free:=ha
  rcases ha' with z|z
  ·exact absurd rfl (S.only _ (a3F z)).1
  ·have e:=(S.only _ (a3F z)).2 rfl
   exact⟨c,by rw[show a=y from e];exact at_y⟩
 ·have q1':(ps++[y])[i]? =some x:=q1
  rcases Nat.lt_or_ge i ps.length with z|z
  ·rw[a0R z]at q1'
   rw[a0R (by rw[a0D];lia),a0G]at q2;cases e:vs[i]? with
   |none=>rw[e]at q2;cases q2
   |some a=>
    rw[e]at q2;cases q2;obtain⟨u,hu,rv⟩:=r.get e;have kx:=S.par x (a0E q1');refine⟨u,rv,.inl ⟨kx,?_⟩⟩;exact b9y (S.nd.sublist (List.sublist_append_left _ _)) q1' hu
  ·rw[a0P z]at q1'
   rw[a0P (by rw[a0D];lia),a0D]at q2;have e:i-ps.length=0:=by
    rcases Nat.eq_zero_or_pos (i-ps.length)with y0|y0
    ·exact y0
    ·rw[a1Y (by simp;lia)]at q1';cases q1'
   rw[e]at q1';rw[hl,e]at q2;cases q1';cases q2;exact⟨.ref m,rfl,.inr ⟨.inr S.fre,c,at_y,ic1⟩⟩
 ·obtain⟨rfl,rfl⟩:=one (show([(y,c)]:List (Str×Addr)).lookup a=some d from h)
  exact⟨_,ic1⟩
 ·obtain⟨rfl,rfl⟩:=one (show([(y,c)]:List (Str×Addr)).lookup a=some d from h)
  exact hc
 ·show(vs.map some++[some (V.ref m)]).length=(ps++[y]).length
  simp[hl]
theorem c9c{P:Pg}{w:World}{K:W.Frag}{mg:SV}{base:Heap}{k:Nat}{ps:Ss}{y qual:Str}{params:Arguments}{body:Expr}{scope:Scope}{f c m cc:Addr}{oc:Obj}{pm ct:Vl}{sp:Sp}
  (S:LamScope ps y scope) (len: ∀vs H Q E,sp vs H Q E->vs.length=ps.length) (here: ∀vs H Q E,sp vs H Q E->H f=some (b1q f (a3j qual params body scope y c pm (.ref cc) ct))/\H c=some (a3d c m oc)/\H cc=some (a5u cc qual))
  (hbody: ∀(A:Ar) (outer:List Env) (s:Sh) (H:Hp) (vs:List V) (Q:VK) (E:XK),Room k (A.deeper (PySem.W.envX qual scope s.heap.objs.size f (.ref cc) [(y,c)]))->sp vs H Q E->
   ∃t,PE (cxL P w K mg base (ps++[y]) qual scope f (.ref cc) [(y,c)] A outer s (drop H c)) body t/\t (vs.map some++[some (.ref m)]) (drop H c) fun v H'=>H' c=none->Q v (upd H' c (a3d c m oc))):
  FnOk P w K mg base CX0 (k+1) f (a3j qual params body scope y c pm (.ref cc) ct) ps sp:=by
 refine⟨len,fun A outer s H args us vs Q E hr e0 hb r hsp=>?_⟩
 obtain⟨hf,hc,hcc⟩:=here _ _ _ _ hsp
 have hl:=len _ _ _ _ hsp
 obtain⟨ef,_,_⟩:=e0.hok f _ hf
 obtain⟨ecell,_,_⟩:=e0.hok c _ hc
 obtain⟨ecode,_,_⟩:=e0.hok cc _ hcc
 have e1:Env0 P w K mg base A outer s (drop H c):=⟨e0.frames,e0.mod,fun b o e=>⟨(e0.bs b o e).1,a3u (e0.bs b o e).2⟩,e0.bsz,e0.funs,fun b hb=>a3u (e0.frf b hb),e0.hok.drop hc,e0.bare⟩
 have lim:s.heap.NoLimit:=e0.mod.nolimit.keeps fun b o e=>(e0.bs b o e).1
 refine PySem.W.kla_callFunE hr.depth ef rfl S.co S.gen rfl ecode (hb _ _ _ _ ?_)
 refine wpAny_newFunctionEnv (fun x hx=>(S.only x hx).1) (fun x hx=>S.par _ (a8I hx).1) (fun h1 hns sb=>?_) S.kind
 have hk: ∀b o,s.heap.get? b=some o->h1.get? b=some o:=fun b o e=>sb.extBut _ _ (a1J (a0T e)) (a0I _ e)
 refine⟨lim.keeps hk,PySem.W.kla_codeExpr ?_⟩
 obtain⟨t,ht,hq⟩:=hbody A outer s H vs Q E (hr.deeper _) hsp
 have I:Inv (cxL P w K mg base (ps++[y]) qual scope f (.ref cc) [(y,c)] A outer s (drop H c)) [] (vs.map some++[some (.ref m)]) (drop H c) {s with heap:=h1,toks:=s.toks+(ps.zip us).length}:=d1b S hr.hd e1 hl r a2i ⟨oc,ecell⟩ hns sb
 refine a3I (ht [] _ _ _ _ I hq) (fun v s' ⟨x,H',J,rx,q⟩=>?_) fun e s' z=>False.elim z
 have Hc:H' c=none:=J.freeC y c (by show([(y,c)]:List (Str×Addr)).lookup y=some c;rw[a3Q,a7T])
 have ec':s'.heap.get? c=some oc:=J.base.keep c oc ecell.1 a2i (fun z=>?_) (by simp[cxL])
 ·refine⟨x,upd H' c (a3d c m oc),J.os,J.bare,⟨fun b o e n hb _=>?_,fun b o e n hb _=>?_,fun b o e n _=>?_,fun b o e _=>J.base.there b o e (by simp[cxL]),fun b xs e=>?_,fun b o u e=>?_,fun b ps e=>?_⟩,J.hok.back Hc (c2y ec' ecell.2),rx,q Hc⟩
  ·exact J.base.keep b o e (a3u n) hb (by simp[cxL])
  ·exact J.base.slot b o e (a3u n) hb (by simp[cxL])
  ·have nb:b≠c:=fun z=>by rw[z,hc]at n;cases n
   rw[a0c nb];exact J.base.free b o e (a3u n) (by simp[cxL])
  ·have nb:b≠c:=fun z=>by rw[z,hc]at e;cases e
   rw[a0c nb];exact J.base.tups b xs (by show drop H c b=_;rw[a0o nb];exact e)
  ·have nb:b≠c:=fun z=>by rw[z,hc]at e;cases e
   rw[a0c nb];exact J.base.frzs b o u (by show drop H c b=_;rw[a0o nb];exact e)
  ·have nb:b≠c:=fun z=>by rw[z,hc]at e;cases e
   rw[a0c nb];exact J.base.tbls b ps (by show drop H c b=_;rw[a0o nb];exact e)
 ·have:=e0.frf c z
  rw[hc]at this
  cases this
section
variable{X:Cx}
def c9d(X:Cx)(i:Nat)(t:TA):TE:=fun σ H Q=>a7l i σ H fun v H0=> ∃st fd,v= .ref st/\H0 st=some (b1q st fd)/\t σ H0 fun vs H1=>H1 st=some (b1q st fd)/\ ∃k ps sp,FnOk X.prog X.w X.K X.mg X.base CX0 k st fd ps sp/\Room k X.A/\Binds X.K fd ps []/\sp vs H1 Q E0
theorem c9e{pins:AO}{σ:St}{H:Hp}{s:Sh}{st:Addr}{fd:Fd}(I:Inv X pins σ H s)(h:H st=some (b1q st fd)):PySem.W.FnAt st s.heap:=by
 obtain⟨e,_,_⟩:=I.hok st _ h
 exact⟨_,_,_,_,e⟩
theorem c7i(i:Nat){x:Str}{e:Expr}{es:List Expr}{t:TA}{p pos:Pos}(hv:PE X (.Name x p) (a7l i))(ha:PA X (e::es) t)(he:starEach (e::es) X.env=(false,eval e X.env)::starEach es X.env:=by rfl)(hpl:(backTo pos (starEach es X.env)).any (·.1)=false:=by rfl):
  PE X (.Call (.Name x p) (e::es) [] pos) (c9d X i t):=by
 intro pins s σ H Q I h
 refine a4E (thn (hv pins s σ H _ I h) fun u s1 ⟨v,H0,I0,rv,st,fd,ev,e0,q⟩=>?_)
 subst ev
 cases rv
 refine PySem.W.callWith_F (c9e I0 e0) (thn (ha pos pins s1 σ H0 _ I0 q) fun us s2 zq=>?_) he hpl
 obtain⟨vs,H1,I1,r,e1,k,ps,sp,F,hr,hb,q2⟩:=zq
 refine⟨c9e I1 e1,?_⟩
 have z:=c1j (dvs:=[]) (ds:=[]) F hr hb .nil c6o I1 r (by rw[a2K];exact q2)
 exact z
def c9f(sp:Sp)(dvs:List V)(j:Nat)(c:Addr)(t:TA):TE:=fun σ H Q=>t σ H fun vs H1=> ∃m,σ[j]? =some (some (.ref m))/\ ∀oc,H1 c=none->sp (vs++dvs) (upd H1 c (a3d c m oc)) (fun r H2=>H2 c=some (a3d c m oc)/\Q r (drop H2 c)) E0
theorem Inv.afterC{pins:AO}{σ:St}{H:Hp}{s s':Sh}{c m:Addr}{oc:Obj}{Q:VK}{u:Vl}(I:Inv X pins σ H s)(hc:H c=none)(ec:s.heap.get? c=some oc)
  (h:CE X.stack X.prog X.w (upd H c (a3d c m oc)) s (fun r H2=>H2 c=some (a3d c m oc)/\Q r (drop H2 c)) u s'):EP X pins σ Q u s':=by
 obtain⟨v,H2,os,bare,un,hok,rv,e2,q⟩:=h
 obtain⟨⟨ec',_⟩,_,_⟩:=hok c _ e2
 refine I.after ⟨v,drop H2 c,os,bare,⟨fun b o e n hb he=>?_,fun b o e n hb he=>?_,fun b o e n he=>?_,un.there,fun b xs e=>?_,fun b o w e=>?_,fun b ps e=>?_⟩,hok.drop e2,rv,q⟩
 ·by_cases z:b=c
  ·subst z
   rw[ec]at e;cases e;exact ec'
  ·exact un.keep b o e (by rw[a0c z];exact n) hb he
 ·by_cases z:b=c
  ·subst z
   rw[ec]at e;cases e;exact⟨oc.slots,ec'⟩
  ·exact un.slot b o e (by rw[a0c z];exact n) hb he
 ·by_cases z:b=c
  ·rw[z];exact a2i
  ·exact a3u (un.free b o e (by rw[a0c z];exact n) he)
 ·have z:b≠c:=fun z=>by rw[z,hc]at e;cases e
  rw[a0o z]
  exact un.tups b xs (by rw[a0c z];exact e)
 ·have z:b≠c:=fun z=>by rw[z,hc]at e;cases e
  rw[a0o z]
  exact un.frzs b o w (by rw[a0c z];exact e)
 ·have z:b≠c:=fun z=>by rw[z,hc]at e;cases e
  rw[a0o z]
  exact un.tbls b ps (by rw[a0c z];exact e)
theorem c7j{x:Str}{k j:Nat}{ps:Ss}{sp:Sp}{f c:Addr}{fd:Fd}{dvs:List V}{ds:Vs}{y:Str}{e:Expr}{es:List Expr}{t:TA}{p pos:Pos}(F:FnOk X.prog X.w X.K X.mg X.base CX0 k f fd ps sp)(hr:Room k X.A)(hg:Gl X x)(hm:X.mg x=some (.ref f))
  (hk:PySem.W.keepIn X.K (.ref f)=true) (hb:Binds X.K fd ps ds) (hd:Vals dvs ds) (hN:X.N[j]? =some y) (hc:X.env.cells.lookup y=some c) (hkd:X.env.scope.names.lookup y=some .cell) (hfn:X.fn y=true) (ha:PA X (e::es) t)
  (hdb:(x==("__debug__":Str))=false:=by decide) (he:starEach (e::es) X.env=(false,eval e X.env)::starEach es X.env:=by rfl) (hpl:(backTo pos (starEach es X.env)).any (·.1)=false:=by rfl):
  PE X (.Call (.Name x p) (e::es) [] pos) (c9f sp dvs j c t):=by
 intro pins s σ H Q I h
 refine a4E (b1h I hg hm ?_ hdb)
 refine a8Q (h₀:=X.base) I.ok.mod.kin hk (thn (ha pos pins s σ H _ I h) fun us s1 ⟨vs,H1,I1,r,m,hj,q⟩=>⟨I1.kIn,?_⟩) he hpl
 have hc0:H1 c=none:=I1.freeC y c hc
 obtain⟨mm,hn,look⟩:=I1.loc
 obtain⟨u,ru,lk⟩:=look j y (.ref m) hN hj (.inr (.inl hkd))
 cases ru
 obtain⟨oc,ec,dc⟩:s1.heap.IsCell c (some (.ref m)):=by
  rcases lk with⟨z,_⟩|⟨_,c',ec',ic⟩
  ·have z':X.env.scope.names.lookup y=some .local:=z
   rw[hkd]at z';cases z'
  ·rw[hc]at ec'
   cases ec';exact ic
 have q1:=q oc hc0
 have r2:Vals (vs++dvs) (us++ds):=r.append hd
 have hl:(us++ds).length=ps.length:=by rw[<-r2.length];exact F.len _ _ _ _ q1
 have e1:Env0 X.prog X.w X.K X.mg X.base X.A X.stack s1 (upd H1 c (a3d c m oc)):=by
  have e0:=I1.env0
  have young:=I1.ok.cab y c hfn hc
  have nb: ∀b o,X.base.get? b=some o->b≠c:=fun b o e z=>by
   subst z;exact absurd (a1I (a0T e) (a0Y I1.ok.bsz young)) (a3Y _)
  have nf: ∀b∈frs X.stack,b≠c:=fun b hb z=>by
   subst z
   rcases a1C.mp (I1.stkSub b hb)with w|w
   ·exact I1.cne y b hc w
   ·obtain⟨_,o,ho,_⟩:=I1.ok.funs.mem w
    exact absurd (a1I (a0T ho) young) (a3Y _)
  exact⟨e0.frames,e0.mod,fun b o e=>⟨(e0.bs b o e).1,by rw[a0c (nb b o e)];exact(e0.bs b o e).2⟩,e0.bsz,e0.funs,fun b hb=>by rw[a0c (nf b hb)];exact e0.frf b hb,e0.hok.back hc0 (c2y ec dc),e0.bare⟩
 refine a9N (a5G (F.run X.A X.stack s1 _ ⟨us,[]⟩ (us++ds) (vs++dvs) _ E0 hr e1 (hb s1 us I1.kIn hl) r2 q1) fun r s' hq=>?_)
 cases r with
 |error e=>exact hq.elim
 |ok fl=>
  cases fl with
  |ret u=>exact I1.afterC hc0 ec hq
  |next=>exact False.elim hq
  |brk=>exact False.elim hq
  |cont=>exact False.elim hq
end
section
variable{X:Cx}
def b1r(mg:SV)(h:Heap):Prop:= ∃bm o,mg "__builtins__"=some (.ref bm)/\bm≠builtinsNs/\h.get? bm=some o/\o.cls= .type "module"/\o.dict=some builtinsNs/\o.data= .plain
abbrev a3e(pos:Pos)(cc:Addr):AV:= #[rawInt pos.line,rawInt pos.col,.ref cc]
def tLam(P:Addr)(qual:Str)(params:Arguments)(body:Expr)(scope:Scope)(y:Str)(c:Addr)(pm:Vl)(pos:Pos):TE:=fun _ H Q=>
 (H P=some (.tbl #[])/\ ∀fl cc ct,H fl=none->H cc=none->fl≠cc->Q (.ref fl) (upd (upd (upd H P (.tbl (a3e pos cc))) cc (a5u cc qual)) fl (b1q fl (a3j qual params body scope y c pm (.ref cc) ct))))∨
 ∃cc,H P=some (.tbl (a3e pos cc))/\H cc=some (a5u cc qual)/\ ∀fl ct,H fl=none->Q (.ref fl) (upd H fl (b1q fl (a3j qual params body scope y c pm (.ref cc) ct)))
theorem c9g{P cd c:Addr}{qual y:Str}{params:Arguments}{body:Expr}{scope:Scope}{pos:Pos}(hcd:X.env.code= .ref cd)(C:PySem.W.CodeHd X.base cd P)(bm:b1r X.mg X.base)(hcl: ∀pins σ H s,Inv X pins σ H s->closureFor scope X.env=pure [(y,c)])
  (hdf:defaultsOf params X.env=([],[])) (hq:X.env.qual++"<lambda>"=qual):PE X (.Lambda params body scope pos) (tLam P qual params body scope y c ((X.mg "__name__").getD .none) pos):=by
 intro pins s σ H Q I h
 rw[arm_eval_Lambda,hdf,hq]
 have C':PySem.W.CodeHd s.heap cd P:=C.keeps I.bk
 have hg:s.heap.Ns mainGlobals X.mg:=I.mod.glob.keeps I.bk
 refine a0C (m:=evalAll []) (a0F (a0C (m:=holding _ (evalAllOpt [])) (a2P (a0F ?_))))
 have track: ∀ps,H P=some (.tbl ps)->s.heap.get? P=some (PySem.W.tabObj ps)/\mainGlobals≠P/\s.heap.BuiltinsAt X.mg P:=fun ps e=>by
  have eP:s.heap.get? P=some (PySem.W.tabObj ps):=I.hok P _ e
  have ng:mainGlobals≠P:=fun z=>by
   obtain⟨o,es,ep,e1,_⟩:=I.mod.glob;have:=(I.bs _ _ e1).2
   rw[z,e]at this;cases this
  obtain⟨b,o,b1,b2,b3,b4,b5,b6⟩:=bm
  refine⟨eP,ng,b,o,b1,b2,fun z=>?_,fun z=>?_,I.bk _ _ b3,b4,b5,b6⟩
  ·obtain⟨o',es,ep,e1,d1,_⟩:=I.mod.glob
   rw[z,e1]at b3;cases b3;rw[d1]at b6;cases b6
  ·have:=(I.bs _ _ b3).2
   rw[z,e]at this;cases this
 rcases h with⟨e,q⟩|⟨cc,e,ecc,q⟩
 ·obtain⟨eP,ng,hb⟩:=track _ e
  refine PySem.W.kla_makeFunction (hcl pins σ H s I) I.ok.glob hg hcd C' eP (by trivial) rfl ng hb fun cc ct h' tk hx hge hlt hrec htb=>?_
  have hcc:H cc=none:=I.hok.fresh hge
  have hfl:H h'.objs.size=none:=I.hok.fresh (a0Y hge (a3D hlt))
  have nPc:P≠cc:=a0h e hcc
  have nPf:P≠h'.objs.size:=a0h e hfl
  have nfc:h'.objs.size≠cc:=a4R hlt
  generalize eo:PySem.W.kla_obj "<lambda>" qual params body scope [(y,c)] ((X.mg "__name__").getD .none) cc ct=ob
  have old: ∀b u,H b=some u->b≠cc/\b≠h'.objs.size:=fun b u z=>⟨a0h z hcc,a0h z hfl⟩
  have far: ∀b o,s.heap.get? b=some o->b≠cc/\b≠h'.objs.size:=fun b o z=>⟨a1J (a1I (a0T z) hge),a1J (a1I (a0T z) (a0Y hge (a3D hlt)))⟩
  have kp: ∀b o,b≠P->s.heap.get? b=some o->(h'.push ob).get? b=some o:=fun b o n z=>a0I _ (hx b o n z)
  have at3: ∀b,b≠P->b≠cc->b≠h'.objs.size->upd (upd (upd H P (.tbl (a3e pos cc))) cc (a5u cc qual)) h'.objs.size (b1q h'.objs.size (a3j qual params body scope y c ((X.mg "__name__").getD .none) (.ref cc) ct)) b=H b:=fun b n1 n2 n3=>by rw[a0c n3,a0c n2,a0c n1]
  have atP:upd (upd (upd H P (.tbl (a3e pos cc))) cc (a5u cc qual)) h'.objs.size (b1q h'.objs.size (a3j qual params body scope y c ((X.mg "__name__").getD .none) (.ref cc) ct)) P=some (.tbl (a3e pos cc)):=by rw[a0c nPf,a0c nPc,a0a]
  have tP:(h'.push ob).get? P=some (PySem.W.tabObj (a3e pos cc)):=by
   refine a0I _ ?_;rw[htb];rfl
  refine⟨.ref h'.objs.size,_,?_,rfl,q h'.objs.size cc ct hfl hcc nfc⟩
  refine I.step (ch:=[]) (fun _ z=>nomatch z) (fun b o _ _ _ z n=>kp b o (fun w=>by rw[w,e]at n;cases n) z) (fun b o _ _ _ z n=>⟨o.slots,kp b o (fun w=>by rw[w,e]at n;cases n) z⟩)
   (fun b o _ z n=>?_) (fun b o _ z=>?_) (fun b xs z=>?_) (fun b o u z=>?_) (fun b ps z=>?_) (fun m hm=>?_) (fun b u z=>?_) I.bare
  ·rw[at3 b (fun w=>by rw[w,e]at n;cases n) (far b o z).1 (far b o z).2];exact n
  ·by_cases w:b=P
   ·rw[w];exact⟨_,tP⟩
   ·exact⟨o,kp b o w z⟩
  ·rw[at3 b (fun w=>by rw[w,e]at z;cases z) (old b _ z).1 (old b _ z).2];exact z
  ·rw[at3 b (fun w=>by rw[w,e]at z;cases z) (old b _ z).1 (old b _ z).2];exact z
  ·by_cases w:b=P
   ·subst w
    rw[e]at z;cases z;exact⟨a3e pos cc,by rw[atP];rfl⟩
   ·exact⟨#[],by rw[at3 b w (old b _ z).1 (old b _ z).2,z];simp⟩
  ·exact hm.at' fun o z=>kp _ o (fun w=>by have:=I.free;rw[w,e]at this;cases this) z
  ·by_cases w3:b=h'.objs.size
   ·rw[w3,a0a]at z
    cases z;rw[w3];exact c9b (by rw[<-eo];exact a0V _ rfl)
   ·by_cases w2:b=cc
    ·rw[w2,a0c nfc.symm,a0a]at z
     cases z;rw[w2];exact d1a (hrec.push _)
    ·by_cases w1:b=P
     ·rw[w1,atP]at z
      cases z;rw[w1];exact tP
     ·rw[at3 b w1 w2 w3]at z
      refine(I.hok b u z).stay (fun d o hd y=>kp d o (fun w=>?_) y) (fun d y=>?_) fun d xs y=>?_
      ·rcases hd with v|v
       ·exact w1 (v.symm.trans w)
       ·rw[w,e]at v;cases v
      ·rw[at3 d (fun w=>by rw[w,e]at y;cases y) (old d _ y).1 (old d _ y).2];exact y
      ·rw[at3 d (fun w=>by rw[w,e]at y;cases y) (old d _ y).1 (old d _ y).2];exact y
 ·obtain⟨eP,ng,hb⟩:=track _ e
  have found:codeAmong pos (a3e pos cc).toList=some (.ref cc):=by
   show(if((pos.line:Int)==(pos.line:Int)&&(pos.col:Int)==(pos.col:Int))=true then _ else _)=_
   rw[if_pos (by simp)]
  refine PySem.W.kla_makeFunctionHit (hcl pins σ H s I) I.ok.glob hg hcd C' eP (by trivial) found hb fun ct h' tk keep sz=>?_
  have I1:Inv X pins σ H {s with heap:=h',toks:=tk}:=I.kept keep
  have I2:Inv X pins σ H {s with heap:=h'.push {cls:= .type "function",data:= .func (a3j qual params body scope y c ((X.mg "__name__").getD .none) (.ref cc) ct)},toks:=tk}:=I1.kept fun b o z=>a0I _ z
  have ok:ObjOk X.prog X.w (upd H h'.objs.size (b1q h'.objs.size (a3j qual params body scope y c ((X.mg "__name__").getD .none) (.ref cc) ct))) (h'.push {cls:= .type "function",data:= .func (a3j qual params body scope y c ((X.mg "__name__").getD .none) (.ref cc) ct)}) h'.objs.size (b1q h'.objs.size (a3j qual params body scope y c ((X.mg "__name__").getD .none) (.ref cc) ct)):=c9b (a0V _ rfl)
  exact⟨.ref h'.objs.size,_,Inv.trackNew I1 I2 ok,rfl,q _ ct I1.fresh⟩
end
def hpT(K:W.Frag)(tabs:As)(a:Addr)(o:Obj)(ns:Zs):Hp:=fun b=>if b∈tabs then some (.tbl #[])else if b=a/\K.lookup a=none then some (.frz o (.lst (ns.map V.int)))else none
theorem c2z{P:Pg}{w:World}{K:W.Frag}{mg mb:SV}{k:Nat}{fa a:Addr}{fd:Fd}{x:Str}{sp:Sp}{s₁:Sh}{vs:Vs}{ns:Zs}{tabs:As}
  (KX:K.In s₁.heap) (hns:s₁.heap.Ns mainGlobals mg) (hb:s₁.heap.Ns builtinsNs mb) (hbb: ∀x:Str,x≠"__name__"->mb x=bootBuiltins x) (hlim:s₁.heap.NoLimit) (hg:s₁.gens= #[]) (hbm:b1r mg s₁.heap)
  (ha:s₁.heap.get? a=some {cls:= .type "list",data:= .seq vs.toArray}) (hi:IntsAre vs ns) (hl:ns.length<=sizeLine) (hr:Room k callerA) (hT: ∀q∈tabs,K.lookup q=none/\ ∃c,s₁.heap.TableAt c q #[])
  (F: ∀base:Heap,K.In base->base.Ns mainGlobals mg->b1r mg base->FnOk P w K mg base CX0 k fa fd [x] sp) (hbind: ∀(s:Sh) (u:Vl),BindsTo s fd ⟨[u],[]⟩ [(x,u)])
  (hsp: ∀H:Hp,(∀q∈tabs,H q=some (.tbl #[]))->SqL K H a (ns.map V.int)->sp [.ref a] H (fun v _=>v= .bl true) fun _ _ _=>False):
  codeAny (model P w) callerA (.call (.ref fa) ⟨[.ref a],[]⟩) (fun r s'=>r= .ok (.ret (.bool true))/\OldK s₁.heap s'.heap/\s'.os=s₁.os/\AllBare s'.gens) s₁:=by
 have rv:=b3r hi
 have lenV:=hi.length
 have tabO: ∀q∈tabs,s₁.heap.get? q=some (PySem.W.tabObj #[]):=fun q hq=>let⟨_,c,t⟩:=hT q hq;t.2
 have na:a∉tabs:=fun hq=>by
  have:=tabO a hq
  rw[ha]at this
  cases this
 generalize eH:hpT K tabs a {cls:= .type "list",data:= .seq vs.toArray} ns=H
 have inT: ∀q∈tabs,H q=some (.tbl #[]):=fun q hq=>by rw[<-eH];exact if_pos hq
 have outT: ∀b,b∉tabs->H b=if b=a/\K.lookup a=none then some (.frz {cls:= .type "list",data:= .seq vs.toArray} (.lst (ns.map V.int)))else none:=fun b hb=>by rw[<-eH];exact if_neg hb
 have what: ∀b u,H b=some u->(b∈tabs/\u= .tbl #[])∨(b=a/\K.lookup a=none/\u= .frz {cls:= .type "list",data:= .seq vs.toArray} (.lst (ns.map V.int))):=fun b u e=>by
  by_cases hb:b∈tabs
  ·rw[inT b hb]at e
   cases e;exact .inl ⟨hb,rfl⟩
  ·rw[outT b hb]at e
   by_cases h:b=a/\K.lookup a=none
   ·rw[if_pos h]at e
    cases e;exact .inr ⟨h.1,h.2,rfl⟩
   ·rw[if_neg h]at e
    cases e
 have hok:HOk P w H s₁.heap:=fun b u e=>by
  rcases what b u e with⟨hb,rfl⟩|⟨rfl,_,rfl⟩
  ·exact tabO b hb
  ·exact⟨ha,by rw[a0D];exact hl,vs,_,rv,ha⟩
 have hS:SqL K H a (ns.map V.int):=by
  cases hk:K.lookup a with
  |some o=>
   have e:=KX a o hk;rw[ha]at e;cases e;exact .inr ⟨_,vs.toArray,_,hk,rfl,rfl,rfl,by rw[a0U,lenV];exact hl,by simpa using rv⟩
  |none=>exact .inl (.inr ⟨{cls:= .type "list",data:= .seq vs.toArray},by rw[outT a na,if_pos ⟨rfl,hk⟩]⟩)
 have free: ∀{b:Addr} {o:Obj},s₁.heap.get? b=some o->o.cls≠ .none->(∀its n,o.data≠ .seq its n)->H b=none:=fun {b o} e hc hd=>by
  cases q:H b with
  |none=>rfl
  | some u=>
   rcases what b u q with⟨hb,_⟩|⟨rfl,_,_⟩
   ·rw[tabO b hb]at e
    cases e;exact absurd rfl hc
   ·rw[ha]at e
    cases e;exact absurd rfl (hd _ _)
 have nsK: ∀{b:Addr} {m:SV},s₁.heap.Ns b m->(c5y s₁.heap H).Ns b m:=fun {b m} ⟨o,es,ep,e,d,r⟩=>by
  refine⟨o,es,ep,b1g e ?_,d,r⟩
  cases q:H b with
  |none=>rfl
  | some u=>
   rcases what b u q with⟨hb,_⟩|⟨rfl,_,_⟩
   ·rw[tabO b hb]at e
    cases e;cases d
   ·rw[ha]at e
    cases e;cases d
 have hKb:K.In (c5y s₁.heap H):=fun b o e=>b1g (KX b o e) (by
  cases q:H b with
  |none=>rfl
  | some u=>
   rcases what b u q with⟨hb,_⟩|⟨rfl,hk,_⟩
   ·rw[(hT b hb).1]at e
    cases e
   ·rw[hk]at e
    cases e)
 have hBb:b1r mg (c5y s₁.heap H):=by
  obtain⟨bm,o,b1,b2,b3,b4,b5,b6⟩:=hbm
  exact⟨bm,o,b1,b2,b1g b3 (free b3 (by rw[b4];nofun) (fun its n z=>by rw[b6]at z;cases z)),b4,b5,b6⟩
 have hM:Mod K mg (c5y s₁.heap H):=⟨hKb,nsK hns,⟨mb,nsK hb,hbb⟩,let⟨mc,h1,h2⟩:=hlim;⟨mc,nsK h1,h2⟩⟩
 have e0:Env0 P w K mg (c5y s₁.heap H) callerA [] s₁ H:=⟨rfl,hM,fun b o e=>c9v e,a6P (c1a _ _),trivial,fun b hb=>absurd (show b∈([]:As)from hb) (by simp),hok,.of_eq hg⟩
 refine a5G ((F _ hKb (nsK hns) hBb).run callerA [] s₁ H ⟨[.ref a],[]⟩ [.ref a] [.ref a] _ _ hr e0 (hbind s₁ (.ref a)) (.cons rfl .nil) (hsp H inT hS)) fun r s' h=>?_
 cases r with
 |error e=>exact h.elim
 | ok fl=>
  cases fl with
  |next=>exact False.elim h
  |brk=>exact False.elim h
  |cont=>exact False.elim h
  | ret u=>
   obtain⟨v,H',os,bare,un,hok',r',q⟩:=h;have q':v= .bl true:=q;subst q'
   obtain rfl:u=Value.bool true:=r'
   refine⟨rfl,⟨fun b o e=>?_,fun b o e=>un.there b o e (by simp)⟩,os,bare⟩;cases z:H b with
   |none=>exact .inl (un.keep b o e z (by intro y;exact absurd (show b∈([]:As)from y) (by simp)) (by simp))
   | some u=>
    rcases what b u z with⟨hb,rfl⟩|⟨rfl,_,rfl⟩
    ·obtain⟨more,z2⟩:=un.tbls b _ z
     have e2:s'.heap.get? b=some (PySem.W.tabObj (#[]++more)):=hok' b _ z2;rw[tabO b hb]at e;cases e;obtain⟨_,c,t⟩:=hT b hb;exact .inr (.inl ⟨t.isCodeTable,rfl,#[],more,rfl,e2⟩)
    ·obtain⟨e2,_⟩:=hok' b _ (un.frzs b _ _ z)
     rw[ha]at e;cases e;exact .inl e2
theorem c7k{l:PySem.W.OpenLaw}{n k:Nat}{q:Pg}{loose:Ss}{XP:SV->Heap->Prop}{YP:World->Heap->Prop}{d:DefRec}{K:Params->W.Frag}{sp:World->Sp}{x:Str}{tabs:List (Str×Addr)}
  (hn:l.most=some n) (hn2:n<=sizeLine) (hdf:d.params.defaults=[]) (hr:Room k callerA) (hY: ∀(w:World) (h:Heap),YP w h->(K w.params).In h)
  (hT: ∀w:World,∀t∈tabs,(K w.params).lookup t.2=none/\(∃c,PySem.W.tabIn (K w.params) t.1=some (c,t.2))/\ ∃e,(recsOf q).find? (fun r=>r.name==t.1)=some e)
  (F: ∀(w:World) (mg:SV) (fa:Addr) (h:Heap),(K w.params).In h->h.Ns mainGlobals mg->mg d.name=some (.ref fa)->
   ∃fd:Fd,(∀(s:Sh) (u:Vl),BindsTo s fd ⟨[u],[]⟩ [(x,u)])/\ ∀base:Heap,(K w.params).In base->base.Ns mainGlobals mg->b1r mg base->FnOk l.prog w (K w.params) mg base CX0 k fa fd [x] (sp w))
  (hsp: ∀(w:World) (H:Hp) (a:Addr) (ns:Zs),ns.length<=n->(∀t∈tabs,H t.2=some (.tbl #[]))->SqL (K w.params) H a (ns.map V.int)->sp w [.ref a] H (fun v _=>v= .bl true) fun _ _ _=>False):
  PySem.W.WalkO q loose XP YP l.row.toRowW d [] (fun f vs=>PySem.call f vs):=by
 refine Att.attach_call hn hdf fun w s₀ s₁ mg mb fa o pm cd doc a vs ns G Y ho hd hcd hmg hobj hints hlen hg=>?_
 have KX:=hY w _ Y
 obtain⟨fd,hb,hF⟩:=F w mg fa _ KX G.T.g hmg
 refine c2z (tabs:=tabs.map (·.2)) KX G.T.g G.T.b G.T.builtins G.T.nolimit hg G.T.bmain hobj hints (a0Y hlen hn2) hr (fun q hq=>?_) hF hb (fun H hH hS=>hsp w H a ns hlen (fun t ht=>hH _ (List.mem_map_of_mem ht)) hS)
 obtain⟨t,ht,rfl⟩:=a0Q.mp hq
 obtain⟨h1,⟨c,h2⟩,e,h3⟩:=hT w t ht
 obtain⟨C,eP⟩:=PySem.W.tab_of G.T KX h3 h2
 exact⟨h1,c,C.tab eP⟩
def sl(u v:Nsq):Prop:=u.length<v.length∨(u.length=v.length/\ltl u v=true)
theorem a0s{a b:Nat}{xs ys:Nsq}(h:a≠b):ltl (a::xs) (b::ys)=decide (a<b):=by
 unfold ltl
 rw[b0e,if_neg h]
 rfl
theorem a3l{a:Nat}{xs ys:Nsq}:ltl (a::xs) (a::ys)=ltl xs ys:=by
 unfold ltl
 rw[b0e,if_pos rfl]
 cases b0e xs ys with
 |none=>simp
 |some b=>rfl
theorem b4h: ∀{xs ys zs:Nsq},xs.length=ys.length->ys.length=zs.length->ltl xs ys=true->ltl ys zs=true->ltl xs zs=true
 | [],[],_,_,_,h,_=>by rw[a5s]at h;cases h
 | [],_::_,_,h,_,_,_=>by simp at h
 |_::_,[],_,h,_,_,_=>by simp at h
 |_::_,_::_,[],_,h,_,_=>by simp at h
 | a::xs,b::ys,c::zs,h1,h2,h3,h4=>by
  by_cases ab:a=b
  ·subst ab
   rw[a3l]at h3;by_cases bc:a=c
   ·subst bc
    rw[a3l]at h4⊢;exact b4h (by simpa using h1) (by simpa using h2) h3 h4
   ·rw[a0s bc]at h4⊢
    exact h4
  ·rw[a0s ab]at h3
   have h3':a<b:=a2F h3;by_cases bc:b=c
   ·subst bc
    rw[a0s ab];exact h3
   ·rw[a0s bc]at h4
    have h4':b<c:=a2F h4;rw[a0s (by lia)];exact a1E (by lia)
theorem b0s: ∀{xs ys us vs:Nsq},xs.length=ys.length->ltl xs ys=true->ltl (xs++us) (ys++vs)=true
 | [],[],_,_,_,h=>by rw[a5s]at h;cases h
 | [],_::_,_,_,h,_=>by simp at h
 |_::_,[],_,_,h,_=>by simp at h
 | a::xs,b::ys,us,vs,h1,h2=>by
  by_cases ab:a=b
  ·subst ab
   rw[a5P,a5P,a3l];rw[a3l]at h2;exact b0s (by simpa using h1) h2
  ·rw[a5P,a5P,a0s ab]
   rw[a0s ab]at h2;exact h2
theorem c7l(xs:Nsq){a b:Nat}(h:a<b):ltl (xs++[a]) (xs++[b])=true:=by
 induction xs with
 |nil=>exact(a0s (by lia)).trans (a1E h)
 |cons x xs ih=>rw[a5P,a5P,a3l];exact ih
theorem a6g{u v x:Nsq}(h1:sl u v)(h2:sl v x):sl u x:=by
 rcases h1 with h1|⟨e1,l1⟩<;>rcases h2 with h2|⟨e2,l2⟩
 ·exact .inl (by lia)
 ·exact .inl (by lia)
 ·exact .inl (by lia)
 ·exact .inr ⟨by lia,b4h e1 e2 l1 l2⟩
theorem b7v{u:Nsq}(h:sl u u):False:=by
 rcases h with h|⟨_,h⟩
 ·lia
 ·rw[a5s]at h;cases h
theorem c3a{u v:Nsq}{a b:Nat}(h:sl u v):sl (u++[a]) (v++[b]):=by
 rcases h with h|⟨e,l⟩
 ·exact .inl (by simp;lia)
 ·exact .inr ⟨by simp[e],b0s e l⟩
theorem b5t(u:Nsq){a b:Nat}(h:a<b):sl (u++[a]) (u++[b]):= .inr ⟨by simp,c7l u h⟩
def sle(u v:Nsq):Prop:=u=v∨sl u v
theorem c3b{u v x:Nsq}(h1:sle u v)(h2:sle v x):sle u x:=by
 rcases h1 with rfl|h1
 ·exact h2
 ·rcases h2 with rfl|h2
  ·exact .inr h1
  ·exact .inr (a6g h1 h2)
theorem c7m{u v:Nsq}{a:Nat}(h:sle u v):sle (u++[a]) (v++[a]):=by
 rcases h with rfl|h
 ·exact .inl rfl
 ·exact .inr (c3a h)
section
variable(f:Nsq->Nat->List Nat)(L:Nat)(x0:Nsq)
abbrev TW:=List (Nsq×Nsq)
def a2l(word:Nsq):Nsq:=word.foldl f x0
def Goes(ws:TW)(p:Nsq×Nsq)(l:Nat):Prop:= ∃u,(f p.1 l,u)∈ws/\sle u (p.2++[l])
structure Told(ws:TW):Prop where
 head:ws[0]? =some (x0,[])
 keys:(ws.map (·.1)).Nodup
 run: ∀p∈ws,(∀l∈p.2,l<L)/\a2l f x0 p.2=p.1
 up:ws.Pairwise fun p q=>sl p.2 q.2
 all: ∀p∈ws,∀l,l<L->Goes f ws p l
 short: ∀p∈ws,p.2.length<ws.length
structure Bfs(d:Nat)(ws wv fo:TW)(i j:Nat):Prop where
 head:ws[0]? =some (x0,[])
 keys:(ws.map (·.1)).Nodup
 run: ∀p∈ws,(∀l∈p.2,l<L)/\a2l f x0 p.2=p.1
 up:ws.Pairwise fun p q=>sl p.2 q.2
 len: ∀p∈ws,p.2.length<=d+1
 wave: ∀p∈wv,p∈ws/\p.2.length=d
 wup:wv.Pairwise fun p q=>sl p.2 q.2
 foll: ∀p∈fo,p∈ws/\p.2.length=d+1
 fup:fo.Pairwise fun p q=>sl p.2 q.2
 front: ∀p∈ws,∀t,wv[i]? =some t->sl p.2 (t.2++[j])
 done: ∀p∈ws,p∈fo∨(∃a,i<=a/\wv[a]? =some p)∨ ∀l,l<L->Goes f ws p l
 part: ∀t,wv[i]? =some t-> ∀l,l<j->Goes f ws t l
 short: ∀p∈ws,p.2.length<ws.length
variable{f L x0}{d i j:Nat}{ws wv fo:TW}{t:Nsq×Nsq}
theorem Goes.more{p q:Nsq×Nsq}{l:Nat}(h:Goes f ws p l):Goes f (ws++[q]) p l:=by
 obtain⟨u,h1,h2⟩:=h
 exact⟨u,a2Z _ h1,h2⟩
theorem Bfs.start:Bfs f L x0 0 [(x0,[])] [(x0,[])] [] 0 0 where
 head:=rfl
 keys:=by simp
 run:=fun p hp=>by
  rw[a0H.mp hp]
  exact⟨fun _ h=>(nomatch h),rfl⟩
 up:=a3J _ _
 len:=fun p hp=>by rw[a0H.mp hp];simp
 wave:=fun p hp=>⟨hp,by rw[a0H.mp hp];rfl⟩
 wup:=a3J _ _
 foll:=fun _ h=>nomatch h
 fup:= .nil
 front:=fun p hp t _=>by
  rw[a0H.mp hp]
  exact .inl (by simp)
 done:=fun p hp=> .inr (.inl ⟨0,a0J _,by rw[a0H.mp hp];rfl⟩)
 part:=fun _ _ _ h=>absurd h (a6U _)
 short:=fun p hp=>by rw[a0H.mp hp];simp
theorem Bfs.old(b:Bfs f L x0 d ws wv fo i j)(ht:wv[i]? =some t)(hm:f t.1 j∈ws.map (·.1)):Bfs f L x0 d ws wv fo i (j+1):=by
 obtain⟨p,hp,e⟩:=a0Q.mp hm
 refine {b with front:=fun q hq t' ht'=>?_,part:=fun t' ht' l hl=>?_}
 ·exact a6g (b.front q hq t' ht') (b5t _ (a4G _))
 ·rcases Nat.lt_succ_iff_lt_or_eq.mp hl with hl|rfl
  ·exact b.part t' ht' l hl
  ·rw[ht]at ht'
   cases ht';exact⟨p.2,by rw[<-e];exact hp,.inr (b.front p hp t ht)⟩
theorem Bfs.new(b:Bfs f L x0 d ws wv fo i j)(ht:wv[i]? =some t)(hj:j<L)(hm:f t.1 j∉ws.map (·.1)):
  Bfs f L x0 d (ws++[(f t.1 j,t.2++[j])]) wv (fo++[(f t.1 j,t.2++[j])]) i (j+1):=by
 obtain⟨tw,tl⟩:=b.wave t (a0E ht)
 obtain⟨r1,r2⟩:=b.run t tw
 have nl:(t.2++[j]).length=d+1:=by simp[tl]
 have pos:0<ws.length:=a7A tw
 refine⟨?_,?_,fun p hp=>?_,?_,fun p hp=>?_,fun p hp=>⟨a2Z _ (b.wave p hp).1,(b.wave p hp).2⟩,b.wup,fun p hp=>?_,?_,fun p hp t' ht'=>?_,fun p hp=>?_,fun t' ht' l hl=>?_,fun p hp=>?_⟩
 ·rw[a0R pos]
  exact b.head
 ·rw[a1G,a8Y]
  refine⟨b.keys,by simp,fun x hx y hy z=>?_⟩
  simp at hy
  subst hy
  exact hm (z▸hx)
 ·rcases a0L.mp hp with hp|hp
  ·exact b.run p hp
  ·rw[a0H.mp hp]
   refine⟨fun l hl=>?_,?_⟩
   ·rcases a0L.mp hl with hl|hl
    ·exact r1 l hl
    ·rw[a0H.mp hl];exact hj
   ·show a2l f x0 (t.2++[j])=f t.1 j
    unfold a2l at r2⊢;rw[a3W,r2];rfl
 ·rw[a1P]
  refine⟨b.up,a3J _ _,fun p hp q hq=>?_⟩
  rw[a0H.mp hq]
  exact b.front p hp t ht
 ·rcases a0L.mp hp with hp|hp
  ·exact b.len p hp
  ·rw[a0H.mp hp];exact a6P nl
 ·rcases a0L.mp hp with hp|hp
  ·exact⟨a2Z _ (b.foll p hp).1,(b.foll p hp).2⟩
  ·exact⟨a0Z _ hp,by rw[a0H.mp hp];exact nl⟩
 ·rw[a1P]
  refine⟨b.fup,a3J _ _,fun p hp q hq=>?_⟩
  rw[a0H.mp hq]
  exact b.front p (b.foll p hp).1 t ht
 ·rw[ht]at ht'
  cases ht'
  rcases a0L.mp hp with hp|hp
  ·exact a6g (b.front p hp t ht) (b5t _ (a4G _))
  ·rw[a0H.mp hp]
   exact b5t _ (a4G _)
 ·rcases a0L.mp hp with hp|hp
  ·rcases b.done p hp with h|h|h
   ·exact .inl (a2Z _ h)
   ·exact .inr (.inl h)
   ·exact .inr (.inr fun l hl=>(h l hl).more)
  ·exact .inl (a0Z _ hp)
 ·rw[ht]at ht'
  cases ht'
  rcases Nat.lt_succ_iff_lt_or_eq.mp hl with hl|rfl
  ·exact(b.part t ht l hl).more
  ·exact⟨t.2++[l],a0Z _ (a0H.mpr rfl),.inl rfl⟩
 ·rw[a0M,a4S]
  rcases a0L.mp hp with hp|hp
  ·exact a8X (b.short p hp)
  ·rw[a0H.mp hp]
   have z:=b.short t tw;show(t.2++[j]).length<_
   rw[a0M,a4S];lia
theorem Bfs.next(b:Bfs f L x0 d ws wv fo i L)(ht:wv[i]? =some t):Bfs f L x0 d ws wv fo (i+1) 0:=by
 refine {b with front:=fun p hp t' ht'=>?_,done:=fun p hp=>?_,part:=fun _ _ l hl=>absurd hl (a6U _)}
 ·have h1:=b.front p hp t ht
  have h2:sl t.2 t'.2:=by
   obtain⟨l1,e1⟩:=a0B.mp ht;obtain⟨l2,e2⟩:=a0B.mp ht';rw[<-e1,<-e2];exact a2S.mp b.wup i (i+1) l1 l2 (a4G _)
  exact a6g h1 (c3a h2)
 ·rcases b.done p hp with h|⟨a,h1,h2⟩|h
  ·exact .inl h
  ·rcases Nat.eq_or_lt_of_le h1 with e|e
   ·subst e
    rw[ht]at h2;cases h2;exact .inr (.inr fun l hl=>b.part t ht l hl)
   ·exact .inr (.inl ⟨a,e,h2⟩)
  ·exact .inr (.inr h)
theorem Bfs.wave'(b:Bfs f L x0 d ws wv fo wv.length 0):Bfs f L x0 (d+1) ws fo [] 0 0:=by
 refine⟨b.head,b.keys,b.run,b.up,fun p hp=>Nat.le_succ_of_le (b.len p hp),b.foll,b.fup,fun _ h=>(nomatch h),.nil,fun p hp t ht=>?_,fun p hp=>?_,fun _ _ l hl=>absurd hl (a6U _),b.short⟩
 ·have h1:=b.len p hp
  have h2:=(b.foll t (a0E ht)).2
  exact .inl (by simp;lia)
 ·rcases b.done p hp with h|⟨a,h1,h2⟩|h
  ·obtain⟨a,e⟩:=a1A.mp h
   exact .inr (.inl ⟨a,a3E _,e⟩)
  ·rw[a1Y h1]at h2
   cases h2
  ·exact .inr (.inr h)
theorem Bfs.told(b:Bfs f L x0 d ws [] [] 0 0):Told f L x0 ws:=⟨b.head,b.keys,b.run,b.up,fun p hp=>by
 rcases b.done p hp with h|⟨a,_,h⟩|h
 ·nomatch h
 ·simp at h
 ·exact h,b.short⟩
theorem Told.least(T:Told f L x0 ws): ∀(n:Nat) (v:Nsq),v.length=n->(∀l∈v,l<L)-> ∃u,(a2l f x0 v,u)∈ws/\sle u v
 |0,v,hn,_=>by
  have e:v=[]:=a2V.mp hn
  subst e
  exact⟨[],a0E T.head,.inl rfl⟩
 | n+1,v,hn,hv=>by
  obtain⟨v',l,rfl⟩: ∃v' l,v=v'++[l]:=⟨v.dropLast,v.getLast (by intro z;rw[z]at hn;cases hn),(a8F _).symm⟩
  obtain⟨u,h1,h2⟩:=T.least n v' (by simp at hn;lia) fun x hx=>hv x (List.mem_append_left _ hx)
  obtain⟨u',h3,h4⟩:=T.all _ h1 l (hv l (a0Z _ (a0H.mpr rfl)))
  refine⟨u',?_,c3b h4 (c7m h2)⟩
  have e:a2l f x0 (v'++[l])=f (a2l f x0 v') l:=by
   unfold a2l;rw[a3W];rfl
  rw[e]
  exact h3
theorem a7e{U:LN}(h0:x0∈U)(hU: ∀x∈U,∀l,l<L->f x l∈U): ∀word:Nsq,(∀l∈word,l<L)->a2l f x0 word∈U:=by
 have go: ∀(word:Nsq) (x:Nsq),x∈U->(∀l∈word,l<L)->word.foldl f x∈U:=by
  intro word
  induction word with
  |nil=>intro x hx _;exact hx
  |cons l word ih=>intro x hx h;exact ih _ (hU x hx l (h l (a0S ..))) fun y hy=>h y (a0X _ hy)
 exact fun word h=>go word x0 h0 h
theorem a7p{U:LN}{l:LN}(nd:l.Nodup)(h: ∀x∈l,x∈U):l.length<=U.length:=a5H nd h
end
theorem c3c{u v:Nsq}(h1:sl u v)(h2:sl v u):False:=b7v (a6g h1 h2)
theorem c7n{u v:Nsq}(h1:sle u v)(h2:sle v u):u=v:=by
 rcases h1 with h1|h1
 ·exact h1
 ·rcases h2 with h2|h2
  ·exact h2.symm
  ·exact(c3c h1 h2).elim
theorem c3d: ∀{ws vs:TW},(ws.Pairwise fun p q=>sl p.2 q.2)->(vs.Pairwise fun p q=>sl p.2 q.2)->(∀p,p∈ws↔p∈vs)->ws=vs
 | [],[],_,_,_=>rfl
 | [],q::vs,_,_,h=>absurd ((h q).mpr (a0S ..)) (by simp)
 |p::ws,[],_,_,h=>absurd ((h p).mp (a0S ..)) (by simp)
 | p::ws,q::vs,h1,h2,h=>by
  obtain⟨p1,p2⟩:=a6V.mp h1
  obtain⟨q1,q2⟩:=a6V.mp h2
  have pq:p=q:=by
   rcases a1C.mp ((h p).mp (a0S ..))with e|e
   ·exact e
   ·rcases a1C.mp ((h q).mpr (a0S ..))with e'|e'
    ·exact e'.symm
    ·exact(c3c (q1 p e) (p1 q e')).elim
  subst pq
  have rest:ws=vs:=c3d p2 q2 fun r=>by
   constructor
   ·intro hr
    rcases a1C.mp ((h r).mp (a0X _ hr))with e|e
    ·subst e
     exact(b7v (p1 r hr)).elim
    ·exact e
   ·intro hr
    rcases a1C.mp ((h r).mpr (a0X _ hr))with e|e
    ·subst e
     exact(b7v (q1 r hr)).elim
    ·exact e
  rw[rest]
theorem Told.sub{f:Nsq->Nat->List Nat}{L:Nat}{x0:Nsq}{ws vs:TW}(T:Told f L x0 ws)(T':Told f L x0 vs){p:Nsq×Nsq}(hp:p∈ws):p∈vs:=by
 obtain⟨r1,r2⟩:=T.run p hp
 obtain⟨u,h1,h2⟩:=T'.least _ p.2 rfl r1
 rw[r2]at h1
 obtain⟨r3,r4⟩:=T'.run _ h1
 obtain⟨u',h3,h4⟩:=T.least _ u rfl r3
 have e:a2l f x0 u=p.1:=r4
 rw[e]at h3
 have same:u'=p.2:=by
  obtain⟨i,ei⟩:=a1A.mp h3
  obtain⟨j,ej⟩:=a1A.mp hp
  have ij:i=j:=(a2G (by rw[a0D];exact(a0B.mp ei).1) T.keys).mp (by rw[a0G,a0G,ei,ej];rfl)
  subst ij
  rw[ei]at ej
  have z:=a1U ej
  rw[<-z]
 rw[same]at h4
 have uu:u=p.2:=c7n h2 h4
 rw[uu]at h1
 exact h1
theorem Told.uniq{f:Nsq->Nat->List Nat}{L:Nat}{x0:Nsq}{ws vs:TW}(T:Told f L x0 ws)(T':Told f L x0 vs):ws=vs:=c3d T.up T'.up fun p=>⟨fun h=>T.sub T' h,fun h=>T'.sub T h⟩
section
variable{P:Pg}{w:World}{A:Ar}{E:VP}{s:Sh}{it d:Addr}{i ep:Nat}{es:Array DictEntry}
abbrev a1z(k v:Vl):Obj:={cls:= .type "tuple",data:= .seq #[k,v]}
abbrev a4t(own:Vl)(out:Bool)(d:Addr)(i n ep:Nat)(k v:Vl):Obj:={cls:= .type "dict_itemiterator",data:= .fields #[own,.bool out,.ref d,.int i 0,.int n 0,.int ep 0,k,v]}
def Lies(h:Heap)(d:Addr)(es:Array DictEntry)(ep:Nat):Prop:= ∃o,h.get? d=some o/\o.ExactDict/\o.data= .dict es ep
def Goer(h:Heap)(it d:Addr)(i n ep:Nat):Prop:= ∃own out k v,h.get? it=some (a4t own out d i n ep k v)/\(own= .none∨ ∃a:Nat,own=rawInt a/\a≠it/\ ∃o,h.get? a=some o)
theorem Goer.keep{h h':Heap}{n:Nat}(g:Goer h it d i n ep)(k: ∀o,h.get? it=some o->h'.get? it=some o)(l: ∀b o,h.get? b=some o-> ∃o',h'.get? b=some o'):Goer h' it d i n ep:=by
 obtain⟨own,out,x,v,e,c⟩:=g
 refine⟨own,out,x,v,k _ e,c.imp id ?_⟩
 rintro⟨a,ea,na,o,eo⟩
 exact⟨a,ea,na,l a o eo⟩
theorem c3e{own:Vl}{out:Bool}{n:Nat}{k0 v0 k v:Vl}{Q:VP}(e:s.heap.get? it=some (a4t own out d i n ep k0 v0))(c:own= .none∨ ∃a:Nat,own=rawInt a/\a≠it/\ ∃o,s.heap.get? a=some o)
  (q: ∀h',Goer h' it d i n ep->h'.get? s.heap.objs.size=some (a1z k v)->(∀b o,b≠it->s.heap.get? b=some o->h'.get? b=some o)->Q (.ref s.heap.objs.size) {s with heap:=h'}):
  wpAny (model P w) A (Builtin.Dict_items.pairFromOwner (.ref it) 6 k v) Q E s:=by
 have lt:it<s.heap.objs.size:=a0T e
 unfold Builtin.Dict_items.pairFromOwner
 refine a0C (wpAny_newTuple ?_)
 have e1:=a0I (a1z k v) e
 have ep1:(s.heap.push (a1z k v)).get? s.heap.objs.size=some (a1z k v):=a0V _ rfl
 have kp: ∀b o,s.heap.get? b=some o->(s.heap.push (a1z k v)).get? b=some o:=fun b o z=>a0I _ z
 have ne:s.heap.objs.size≠it:=a4R lt
 rcases c with rfl|⟨a,rfl,na,o,ea⟩
 ·have free: ∀{R:Bool->Sh->Prop} {s1:Sh},s1.heap.get? it=some (a4t .none out d i n ep k0 v0)->R true s1->wpAny (model P w) A (Builtin.Dict_items.ownedTupleIsFree (.ref it)) R E s1:=fun e r=>by
   unfold Builtin.Dict_items.ownedTupleIsFree;exact a0C (a5Y e rfl (x:= .none) rfl (a0F r))
  refine a0C (free e1 ?_)
  rw[if_pos rfl]
  refine a0C (a5Y e1 rfl (x:=k0) rfl (a0C (a5Y e1 rfl (x:=v0) rfl ?_)))
  refine a0C (a3B e1 (by simp) fun h2 e2 s2=>wpAny_bind (wpAny_setField_rec e2 (by simp) fun h3 e3 s3=>?_))
  refine a0C (a3B e3 (by simp) fun h4 e4 s4=>wpAny_bind (wpAny_setField_rec e4 (by simp) fun h5 e5 s5=>wpAny_bind (wpAny_letGo (wpAny_pure ?_))))
  have sb:=((s2.trans s3).trans s4).trans s5
  have ep5:=sb.extBut _ _ ne ep1
  exact q h5 ⟨_,_,_,_,e5,.inr ⟨_,rfl,ne,_,ep5⟩⟩ ep5 fun b o nb z=>sb.extBut _ _ nb (kp b o z)
 ·have a1:=kp a o ea
  refine a0C (m:=Builtin.Dict_items.ownedTupleIsFree _) ?_
  unfold Builtin.Dict_items.ownedTupleIsFree
  refine a0C (a5Y e1 rfl (x:=rawInt a) rfl ?_)
  have alive: ∀{R:Option Obj->Sh->Prop},R (some o) {s with heap:=s.heap.push (a1z k v)}->wpAny (model P w) A (loadIfAlive ((a:Int).toNat)) R E {s with heap:=s.heap.push (a1z k v)}:=fun {R} r=>by
   rw[a1W];exact fun _ _ _=>show R ((s.heap.push (a1z k v)).get? a) _ by rw[a1];exact r
  refine show wpAny _ _ (loadIfAlive ((a:Int).toNat) >>= _) _ _ _ from a0C (alive ?_)
  refine a0C (m:=field _ _) (a5Y e1 rfl (x:= .bool out) rfl ?_)
  cases out with
  |true=>exact a0F (a0F (q _ ⟨_,_,_,_,e1,.inr ⟨a,rfl,na,o,a1⟩⟩ ep1 fun b o _ z=>kp b o z))
  |false=>
   refine a0C (m:=setField _ _ _) (a3B e1 (by simp) fun h2 e2 s2=>wpAny_pure (wpAny_pure ?_));exact q h2 ⟨_,_,_,_,e2,.inr ⟨a,rfl,na,o,s2.extBut _ _ na a1⟩⟩ (s2.extBut _ _ ne ep1) fun b o nb z=>s2.extBut _ _ nb (kp b o z)
end
section
variable{P:Pg}{w:World}{A:Ar}{E:VP}{s:Sh}{it d:Addr}{i ep:Nat}{es:Array DictEntry}
theorem c3f{en:DictEntry}{Q:Option Vl->Sh->Prop}(G:Goer s.heap it d i es.size ep)(L:Lies s.heap d es ep)(hx:es[i]? =some en)
  (q: ∀h',Goer h' it d (i+1) es.size ep->h'.get? s.heap.objs.size=some (a1z en.key en.val)->(∀b o,b≠it->s.heap.get? b=some o->h'.get? b=some o)->Q (some (.ref s.heap.objs.size)) {s with heap:=h'}):
  wpAny (model P w) A (pyNext (.ref it)) Q E s:=by
 obtain⟨own,out,k0,v0,e,c⟩:=G
 obtain⟨o,ho,_,hd⟩:=L
 have ty:s.TypeIs (.ref it) "dict_itemiterator":=⟨_,e,rfl⟩
 have lt:i<es.size:=(a3T.mp hx).1
 unfold pyNext
 refine a0C (a5K (a2Q (name:=Str.ofString "__next__") ty a3M (a2H a3M ty a7N ?_ (a7H _))))
 refine a0C (a0F (a0C (a0C ?_)))
 refine a0C (a4B ty (a0F (a0C (a6K e rfl ?_))))
 have own2:Builtin.Dict_items.ownsTuple "dict_itemiterator"=true:=by decide
 simp only[own2,if_true]
 refine show wpAny _ _ (if(Value.ref d==Value.none)=true then _ else _) _ _ s from(if_neg (show ¬((Value.ref d==Value.none)=true)from a1M))▸a0C (a0F (a0C (a4M ho hd ?_)))
 rw[if_neg (by simp)]
 refine a0C (a0F (a0C (a6A ho hd ?_)))
 rw[if_neg (by simp)]
 refine a0F ?_
 have at0:(if((i:Nat):Int)<0 then none else es[((i:Nat):Int).toNat]?)=some en:=by
  rw[if_neg (by lia),a1W]
  exact hx
 show wpAny _ _ (match (if((i:Nat):Int)<0 then none else es[((i:Nat):Int).toNat]?)with|some e=>_|none=>_) _ _ s
 rw[at0]
 refine a0C (a0C (a4B ty (a0F (a0C (a7B ty ?_)))))
 refine show wpAny _ _ (setField (.ref it) 3 (rawInt ((i:Int)+1)) >>= _) _ _ s from a0C (a3B e (by simp) fun h1 e1 s1=>wpAny_bind (wpAny_holding ?_))
 have e1':h1.get? it=some (a4t own out d (i+1) es.size ep k0 v0):=by
  have z:((i+1:Nat):Int)=(i:Int)+1:=by lia
  unfold a4t
  rw[z]
  simpa[rawInt]using e1
 have ty1:Shared.TypeIs {s with heap:=h1} (.ref it) "dict_itemiterator":=⟨_,e1',rfl⟩
 refine a0C (a7B ty1 (a0C (a7B ty1 ?_)))
 have sz:h1.objs.size=s.heap.objs.size:=s1.1
 refine show wpAny _ _ (Builtin.Dict_items.pairFromOwner (.ref it) 6 en.key en.val) _ _ {s with heap:=h1}from c3e (s:={s with heap:=h1}) e1' (c.imp id ?_) fun h2 G2 p2 k2=>?_
 ·rintro⟨a,ea,na,oa,z⟩
  exact⟨a,ea,na,oa,s1.extBut _ _ na z⟩
 ·have p2':h2.get? s.heap.objs.size=some (a1z en.key en.val):=by rw[<-sz];exact p2
  show wpAny _ _ (ret (.ref h1.objs.size)) _ _ _
  rw[sz]
  exact a0F ⟨_,rfl,a0F (q h2 G2 p2' fun b o nb z=>k2 b o nb (s1.extBut _ _ nb z))⟩
theorem c7o{Q:Option Vl->Sh->Prop}(hh:A.handled=none)(G:Goer s.heap it d i es.size ep)(L:Lies s.heap d es ep)(hx:es[i]? =none)
  (q: ∀h',Heap.ExtBut it s.heap h'->Q none {s with heap:=h'}):wpAny (model P w) A (pyNext (.ref it)) Q E s:=by
 obtain⟨own,out,k0,v0,e,c⟩:=G
 obtain⟨o,ho,_,hd⟩:=L
 have ty:s.TypeIs (.ref it) "dict_itemiterator":=⟨_,e,rfl⟩
 unfold pyNext
 refine a0C (a5K (a2Q (name:=Str.ofString "__next__") ty a3M (a2H a3M ty a7N ?_ (a7H _))))
 refine a0C (a0F (a0C (a0C ?_)))
 refine a0C (a4B ty (a0F (a0C (a6K e rfl ?_))))
 have own2:Builtin.Dict_items.ownsTuple "dict_itemiterator"=true:=by decide
 simp only[own2,if_true]
 refine show wpAny _ _ (if(Value.ref d==Value.none)=true then _ else _) _ _ s from(if_neg (show ¬((Value.ref d==Value.none)=true)from a1M))▸a0C (a0F (a0C (a4M ho hd ?_)))
 rw[if_neg (by simp)]
 refine a0C (a0F (a0C (a6A ho hd ?_)))
 rw[if_neg (by simp)]
 refine a0F ?_
 have at0:(if((i:Nat):Int)<0 then none else es[((i:Nat):Int).toNat]?)=none:=by
  rw[if_neg (by lia),a1W]
  exact hx
 show wpAny _ _ (match (if((i:Nat):Int)<0 then none else es[((i:Nat):Int).toNat]?)with|some e=>_|none=>_) _ _ s
 rw[at0]
 refine a0C (a0C (a4B ty (a0F ?_)))
 refine show wpAny _ _ (setField (.ref it) 2 .none >>= _) _ _ s from a0C (a3B e (by simp) fun h1 e1 sb=>?_)
 refine a0C (m:=newExc _ _) ?_
 simp only[newExc,newTuple]
 refine a0C (a2N ?_ (by size_fits))
 refine a0C (m:=firstArgMember _ _) (a9Q (a:=Value.none) (by first|rfl|(unfold firstArgMember;rfl)) (wpAny_newObj_type ?_ (by size_fits)))
 refine a8K (by simpa using hh) (wpAny_bind (wpAny_isInstance (T:="StopIteration") (b:=true) ⟨_,Heap.get?_push_size _ rfl,rfl⟩ isSubtype_stop (wpAny_pure ?_)))
 exact q _ fun b o nb z=>a0I _ (a0I _ (sb.extBut b o nb z))
end
structure PMade(es:Array DictEntry)(lo:Addr)(h:Heap)(as:As):Prop where
 far: ∀a∈as,lo<a
 up:as.Pairwise (· < ·)
 is: ∀(j:Nat) (a:Addr),as[j]? =some a-> ∃en:DictEntry,es[j]? =some en/\h.get? a=some (a1z en.key en.val)
theorem PMade.nil{es:Array DictEntry}{lo:Addr}{h:Heap}:PMade es lo h []:=⟨fun _ z=>(nomatch z),.nil,fun _ _ z=>by simp at z⟩
theorem PMade.here{es:Array DictEntry}{lo:Addr}{h:Heap}{as:As}(m:PMade es lo h as): ∀a∈as,a<h.objs.size:=fun a ha=>by
 obtain⟨j,e⟩:=a1A.mp ha
 obtain⟨_,_,g⟩:=m.is j a e
 exact a0T g
theorem PMade.keep{es:Array DictEntry}{lo:Addr}{h h':Heap}{as:As}(m:PMade es lo h as)(k: ∀b o,lo<b->h.get? b=some o->h'.get? b=some o):PMade es lo h' as:=
 ⟨m.far,m.up,fun j a e=>by
  obtain⟨en,x,g⟩:=m.is j a e
  exact⟨en,x,k a _ (m.far a (a0E e)) g⟩⟩
theorem PMade.more{es:Array DictEntry}{lo a:Addr}{h:Heap}{as:As}{en:DictEntry}(m:PMade es lo h as)(la:lo<a)(new: ∀b∈as,b<a)(x:es[as.length]? =some en)(g:h.get? a=some (a1z en.key en.val)):PMade es lo h (as++[a]):=
  ⟨fun b hb=>by
    rcases a0L.mp hb with z|z
    · exact m.far b z
    · rw[a0H.mp z];exact la,
   a1P.mpr ⟨m.up,a3J _ _,fun b hb c hc=>by rw[a0H.mp hc];exact new b hb⟩,
   fun j b e=>by
    by_cases hj:j<as.length
    · rw[a0R hj]at e
      exact m.is j b e
    · rw[a0P (a7U hj)]at e
      obtain⟨z,e'⟩:=a0B.mp e;have j0:j-as.length=0:=by simp at z;lia
      have jj:j=as.length:=by lia
      subst jj;simp at e';subst e';exact⟨en,x,g⟩⟩
section
variable{P:Pg}{w:World}{A:Ar}{R:Result->Sh->Prop}{S I d:Addr}{ep:Nat}{es:Array DictEntry}{res:Vl}
abbrev c3g(h:Heap)(S:Addr)(vs:AV)(c:Nat):Prop:=h.get? S=some {cls:= .type "list",data:= .seq vs c}
theorem fill(hh:A.handled=none)(SI:S<I)(dS:d≠S)(dI:d≠I)(fit:es.size<=sizeLine): ∀(r i:Nat) (s:Sh) (as:As) (c:Nat),i+r=es.size->as.length=i->Goer s.heap I d i es.size ep->Lies s.heap d es ep->
      c3g s.heap S (as.map Value.ref).toArray c->PMade es I s.heap as->
      (∀h' bs c',bs.length=es.size->PMade es I h' bs->c3g h' S (bs.map Value.ref).toArray c'->(∀b o,b≠S->b≠I->s.heap.get? b=some o->h'.get? b=some o)->R (.ok (.ret res)) {s with heap:=h'})->
      codeAny (model P w) A (.builtin "list.extend.loop" ⟨[.ref S,.ref I,res],[]⟩) R s:=by
  have nSI:S≠I:=a1J SI
  intro r
  induction r with
  | zero=>
    intro i s as c hi hl G L lS M q;refine a5C F.entry_extend_loop ?_;rw[a4J a5L _];refine show wpAny _ A.in1 (pyNext (.ref I) >>= _) _ _ s from a0C (c7o (by simpa using hh) G L (Array.getElem?_eq_none (by lia)) fun h' x=>wpAny_pure ?_)
    exact q h' as c (by lia) (M.keep fun b o lb e=>x b o (a4R lb) e) (x S _ nSI lS) fun b o _ nb e=>x b o nb e
  | succ r ih=>
    intro i s as c hi hl G L lS M q;obtain⟨en,hx⟩: ∃en,es[i]? =some en:=⟨es[i]'(by lia),a1R (by lia)⟩;have szI:I<s.heap.objs.size:=by
      obtain⟨_,_,_,_,e,_⟩:=G;exact a0T e
    have szS:S<s.heap.objs.size:=a0T lS;refine a5C F.entry_extend_loop ?_;rw[a4J a5L _];refine show wpAny _ A.in1 (pyNext (.ref I) >>= _) _ _ s from a0C (c3f G L hx fun h1 G1 p1 k1=>?_)
    have lS1:=k1 S _ nSI lS;refine show wpAny _ A.in1 (updateSeq S (·.push (Value.ref s.heap.objs.size)) >>= _) _ _ {s with heap:=h1}from a0C (a8L lS1 rfl (a0F ⟨a6S a5L _,?_⟩) ?_ ?_)
    · have off: ∀b o,b≠S->h1.get? b=some o->(h1.update S (Obj.mapSeq (·.push (Value.ref s.heap.objs.size)))).get? b=some o:=fun b o nb e=>(a1S _ _ (a3K nb)).trans e
      have lS2:=a4A (Obj.mapSeq (·.push (Value.ref s.heap.objs.size))) lS1 rfl;obtain⟨od,h0,x0,y0⟩:=L;have M1:PMade es I h1 as:=M.keep fun b o lb e=>k1 b o (a4R lb) e
      refine ih (i+1) {s with heap:=h1.update S (Obj.mapSeq (·.push (Value.ref s.heap.objs.size)))} (as++[s.heap.objs.size]) _ (by lia) (by simp[hl]) (G1.keep (fun o e=>off I o (Ne.symm nSI) e) fun b o e=>?_)
        ⟨od,off d od dS (k1 d od dI h0),x0,y0⟩ (by simpa[Obj.mapSeq,List.map_append]using lS2) ?_ fun h' bs c' l' M' lS' k'=>q h' bs c' l' M' lS' fun b o n1 n2 e=>k' b o n1 n2 (off b o n1 (k1 b o n2 e))
      · by_cases hb:b=S
        · subst hb
          exact⟨_,lS2⟩
        · exact⟨o,off b o hb e⟩
      · exact(M1.keep fun b o lb e=>off b o (a4R (a9G SI lb)) e).more szI M.here (hl▸hx) (off _ _ (a4R szS) p1)
    · simp;lia
    · simp;lia
end
section
variable{P:Pg}{w:World}{A:Ar}{E:VP}{s:Sh}{v d:Addr}{ep:Nat}{es:Array DictEntry}
abbrev a5v(d:Addr):Obj:={cls:= .type "dict_items",data:= .fields #[.ref d]}
theorem Lies.typeIs{s:Sh}(L:Lies s.heap d es ep):s.TypeIs (.ref d) "dict":=let⟨o,h,x,_⟩:=L;⟨o,h,x.1⟩
theorem c3h{Q:VP}(nd:(d==sysModules)=false)(L:Lies s.heap d es ep)(q:Q (.ref s.heap.objs.size) {s with heap:=s.heap.push (a5v d)}):wpAny (model P w) A (call (.builtin "dict.items") [.ref d]) Q E s:=by
 refine call_meetsIn (S:=fun _ R s=>Lies s.heap d es ep/\R (.ok (.ret (.ref s.heap.objs.size))) {s with heap:=s.heap.push (a5v d)}) F.slot_dict_items L.typeIs F.entry_dict_items (F.args_dict_items_1 _) (.of_wp fun A R s ⟨L,r⟩=>?_) ⟨L,q⟩
 unfold Builtin.«dict.items» Builtin.Dict.noArgs
 refine a0C (a0C (wpAny_notOrdered_dict L.typeIs ?_))
 refine show wpAny _ _ (pure d) _ _ s from a0F (show wpAny _ _ (Builtin.Dict.showsAll d >>= _) _ _ s from ?_)
 have all:Builtin.Dict.showsAll d=pure ():=by
  unfold Builtin.Dict.showsAll
  rw[nd]
  rfl
 rw[all]
 exact a0C (a0F (a0C (a2N (a0F ⟨_,rfl,r⟩))))
theorem c3i{Q:VP}(ev:s.heap.get? v=some (a5v d))(L:Lies s.heap d es ep)(q:Q (.ref s.heap.objs.size) {s with heap:=s.heap.push (a4t .none false d 0 es.size ep .none .none)}):wpAny (model P w) A (pyIter (.ref v)) Q E s:=by
 have ty:s.TypeIs (.ref v) "dict_items":=⟨_,ev,rfl⟩
 obtain⟨o,ho,_,hd⟩:=L
 refine a5E ty F.slot_dict_items_iter (a2H F.slot_dict_items_iter ty F.entry_dict_items_iter ?_ (F.args_dict_items_iter_1 _))
 unfold Builtin.«dict_items.__iter__» Builtin.Dict_items.dictOf Builtin.Dict_items.newIterator
 refine a0C (a0F (a0C (a0C (a5Y ev rfl (x:= .ref d) rfl (a0F (a0C (a0C (a4M ho hd (a0C (a6A ho hd ?_))))))))))
 refine show wpAny _ _ (newFields "dict_itemiterator" [.none,.bool false,.ref d,rawInt 0,rawInt (es.size:Nat),rawInt (ep:Nat),.none,.none]) _ _ s from a2N (a0F ⟨_,rfl,"dict_itemiterator",_,⟨_,a0V _ rfl,rfl⟩,a3M.lookup,q⟩) (by size_fits)
theorem c3j{Q:Bool->Sh->Prop}(ty:s.TypeIs (.ref v) "dict_items")(q:Q false s):wpAny (model P w) A (Builtin.List.listLengthHint (.ref v)) Q E s:=PySem.W.kdx_hint ty q
theorem b4i{Q:VP}(hh:A.handled=none)(ev:s.heap.get? v=some (a5v d))(L:Lies s.heap d es ep)(fit:es.size<=sizeLine)
  (q: ∀h' as c tk,as.length=es.size->PMade es s.heap.objs.size h' as->c3g h' s.heap.objs.size (as.map Value.ref).toArray c->(∀b o,s.heap.get? b=some o->h'.get? b=some o)->Q (.ref s.heap.objs.size) {s with heap:=h',toks:=tk}):
  wpAny (model P w) A (call (.type "list") [.ref v]) Q E s:=by
 let S:=s.heap.objs.size
 obtain⟨o,ho,x,hd⟩:=id L
 have ld:d<S:=a0T ho
 have lv:v<S:=a0T ev
 refine callType_codes (Q₁:=fun obj s₁=>obj= .ref S/\s₁={s with heap:=s.heap.push {cls:= .type "list",data:= .seq #[]}}) F.called_list (F.typeCall_list_1 _) F.entry_list_init (code_list_new _ ⟨rfl,rfl⟩) fun obj s1 z=>?_
 obtain⟨rfl,rfl⟩:=z
 have lS:c3g (s.heap.push {cls:= .type "list",data:= .seq #[]}) S #[] 0:=a0V _ rfl
 refine⟨⟨_,lS,rfl⟩,F.args_list_init_2 _ _,?_⟩
 unfold Builtin.«list.__init__» Builtin.List.listItems
 refine a0C (a0C (wpAny_seqItems lS rfl (a0F ?_)))
 refine a0C (m:=updateSeq S _) (a8L lS rfl (a0C (wpAny_letGo ?_)))
 have lS1:=a4A (Obj.mapSeq (fun _=>(#[]:AV))) lS rfl
 let h1:=(s.heap.push {cls:= .type "list",data:= .seq #[]}).update S (Obj.mapSeq (fun _=>(#[]:AV)))
 have k1: ∀b o,s.heap.get? b=some o->h1.get? b=some o:=fun b o e=>(a1S _ _ (a4R (a0T e))).trans (a0I _ e)
 have sz1:h1.objs.size=S+1:=by
  show(Heap.update _ _ _).objs.size=_
  simp[Heap.update,Heap.push,S]
 have go: ∀(h2:Heap) (c tk:Nat),c3g h2 S #[] c->(∀b o,b≠S->(h1.push (a4t .none false d 0 es.size ep .none .none)).get? b=some o->h2.get? b=some o)->
   codeAny (model P w) A.in1 (.builtin "list.extend.loop" ⟨[.ref S,.ref h1.objs.size,.none],[]⟩) (wants (fun r s₂=>r=Value.none/\Q (Value.ref S) s₂) E) {s with heap:=h2,toks:=tk}:=fun h2 c tk l2 k2=>by
  have SI:S<h1.objs.size:=by rw[sz1];exact a4G _
  have k12: ∀b o,s.heap.get? b=some o->h2.get? b=some o:=fun b o e=>k2 b o (a1J (a0T e)) (a0I _ (k1 b o e))
  refine fill (by simpa using hh) SI (Nat.ne_of_lt ld) (Nat.ne_of_lt (Nat.lt_trans ld SI)) fit es.size 0 {s with heap:=h2,toks:=tk} [] c (by lia) rfl ⟨_,_,_,_,k2 _ _ (Nat.ne_of_gt SI) (Heap.get?_push_size _ rfl),.inl rfl⟩ ⟨o,k12 d o ho,x,hd⟩ l2 .nil fun h' as c' l' M' lS' k'=>?_
  refine⟨rfl,q h' as c' tk l' ⟨fun a ha=>a9G SI (M'.far a ha),M'.up,M'.is⟩ lS' fun b o e=>?_⟩
  have lb:b<S:=a0T e
  exact k' b o (a1J lb) (a1J (a9G lb SI)) (k12 b o e)
 refine show wpAny _ _ (Builtin.List.listExtendWith (.ref S) (.ref v) .none) _ _ _ from ?_
 unfold Builtin.List.listExtendWith
 have ev1:=k1 v _ ev
 refine a0C (a7M (T:="dict_items") ⟨_,ev1,rfl⟩ ?_)
 have no:(Builtin.List.listSameRef (.ref S) (.ref v) || Value.type "dict_items"==Value.type "list" || Value.type "dict_items"==Value.type "tuple")=false:=by
  have z:Builtin.List.listSameRef (.ref S) (.ref v)=false:=by simp[Builtin.List.listSameRef,Nat.ne_of_gt lv]
  rw[z]
  decide
 rw[no,if_neg (by decide)]
 refine a0C (c3i ev1 ⟨o,k1 d o ho,x,hd⟩ (a0C (a2P (c3j ⟨_,a0I _ ev1,rfl⟩ ?_))))
 have lS2:=a0I (a4t .none false d 0 es.size ep .none .none) lS1
 refine a9I (fun _=>?_) fun _=>a0F ⟨a6S a5L _,go _ _ _ lS2 fun _ _ _ e=>e⟩
 unfold Builtin.List.listTouch Builtin.List.listUpdate
 refine a0C (a5R (a0C (a0C (m:=updateSeq S _) (a8L lS2 rfl ?_))))
 have lS3:=a4A (Obj.mapSeq (·.push Value.none)) lS2 rfl
 refine show wpAny _ _ (updateSeq S (·.pop)) _ _ _ from a8L (hz:=by seq_fits) lS3 rfl (a0F ⟨a6S a5L _,go _ _ _ (a4A (Obj.mapSeq (·.pop)) lS3 rfl) fun b o nb e=>?_⟩)
 rw[a1S _ _ (a3K nb),a1S _ _ (a3K nb)]
 exact e
end
def lay(H:Hp):List (Addr×HO)->Hp
 | []=>H
 |p::l=>lay (upd H p.1 p.2) l
theorem b5u: ∀{l:List (Addr×HO)} {H:Hp} {b:Addr},(∀p∈l,b≠p.1)->lay H l b=H b
 | [],_,_,_=>rfl
 |p::l,H,b,n=>by
  show lay (upd H p.1 p.2) l b=_
  rw[b5u fun q hq=>n q (a0X _ hq),a0c (n p (a0S ..))]
theorem c3k: ∀{l:List (Addr×HO)} {H:Hp} {p:Addr×HO},(l.map (·.1)).Nodup->p∈l->lay H l p.1=some p.2
 | q::l,H,p,nd,hp=>by
  obtain⟨h1,h2⟩:=a2X.mp nd
  rcases a1C.mp hp with rfl|hp
  ·show lay (upd H p.1 p.2) l p.1=_
   rw[b5u fun r hr z=>h1 (a0Q.mpr ⟨r,hr,z.symm⟩),a0a]
  ·exact c3k (l:=l) h2 hp
theorem a6h{α β:Type}{F:α->β->Prop}{l:List α}{m:List β}{j:Nat}{a:α}(r:Paired F l m)(e:l[j]? =some a): ∃b,m[j]? =some b/\F a b:=by
 induction r generalizing j with
 |nil=>simp at e
 | cons h _ ih=>
  cases j with
  |zero=>
   have z:=a1U e;subst z;exact⟨_,rfl,h⟩
  |succ j=>exact ih (by simpa using e)
section
variable{X:Cx}
theorem Inv.tracks{pins:AO}{σ:St}{H0:Hp}{s s1:Sh}(I:Inv X pins σ H0 s): ∀(l:List (Addr×HO)) (H:Hp),Inv X pins σ H s1->(∀p∈l,s.heap.objs.size<=p.1/\H p.1=none/\ ∀H2,ObjOk X.prog X.w H2 s1.heap p.1 p.2)->(l.map (·.1)).Nodup->
  Inv X pins σ (lay H l) s1
 | [],_,I1,_,_=>I1
 |p::l,H,I1,ok,nd=>by
  obtain⟨h1,h2⟩:=a2X.mp nd
  obtain⟨le,n,o⟩:=ok p (a0S ..)
  obtain⟨f0,f1,f2,f3,f4,f5⟩:=I.fpOk (b:=p.1) (H':=H) le n
  refine Inv.tracks I l _ (I1.track n (o _) (a0Y I.sz le) f1 f4 f5) (fun q hq=>?_) h2
  obtain⟨x,y,z⟩:=ok q (a0X _ hq)
  exact⟨x,by rw[a0c fun e=>h1 (a0Q.mpr ⟨q,hq,e⟩)];exact y,z⟩
structure Listed(H H':Hp)(kvs:List (List Key×V))(l:Addr)(as:As):Prop where
 new:H l=none
 news: ∀a∈as,H a=none
 out:l∉as
 nd:as.Nodup
 len:as.length=kvs.length
 lst:H' l=some (.lst (as.map .ref))
 is: ∀(j:Nat) (a:Addr),as[j]? =some a-> ∃k v b,kvs[j]? =some (k,v)/\H b=some (.tup (k.map kV))/\H' a=some (.tup [.ref b,v])
 rest: ∀b,b≠l->b∉as->H' b=H b
def c3l(v d:Addr):HO:= .ext fun h=>h.get? v=some (a5v d)
def d3v:V->List V->Hp->VK->Prop:=fun x xs H Q=>xs=[]/\ ∃a kvs,x= .ref a/\H a=some (.dT kvs)/\ ∀v,H v=none->Q (.ref v) (upd H v (c3l v a))
theorem c7p:MtR X "dict.items" d3v:=by
 intro pins s σ H x xs u us Q I r1 r2 h
 obtain⟨rfl,a,kvs,rfl,ha,q⟩:=h
 cases r1
 cases r2
 obtain⟨z,na,ys,rel,o,es,ep,e1,e2,e3,_⟩:=I.hok a _ ha
 refine c3h na ⟨o,e1,e2,e3⟩ ⟨.ref s.heap.objs.size,_,I.laid (a:=s.heap.objs.size) (o:=c3l s.heap.objs.size a) (t':=s.toks) (fun _ _ q=>a0I _ q) (a0J _) ?_,rfl,q _ I.fresh⟩
 have e:(s.heap.push (a5v a)).get? s.heap.objs.size=some (a5v a):=a0V _ rfl
 exact⟨e,⟨_,e⟩,fun h1 h2 y k=>k _ y⟩
def b9z:List V->Hp->VK->Prop:=fun xs H Q=> ∃v a kvs,xs=[.ref v]/\H v=some (c3l v a)/\H a=some (.dT kvs)/\ ∀l as H',Listed H H' kvs l as->Q (.ref l) H'
theorem a9k(hc:X.calm=true):a5o X (.type "list") b9z:=by
 intro pins s σ H xs us Q I r h
 obtain⟨v,a,kvs,rfl,hv,ha,q⟩:=h
 obtain⟨u,rfl,ru⟩:=a5q r
 cases ru
 obtain⟨ev,_,_⟩:=I.hok v _ hv
 obtain⟨z,na,ys,rel,o,es,ep,e1,e2,e3,e4,_⟩:=I.hok a _ ha
 have el:es.size=kvs.length:=by rw[a8J e4,<-a4Q rel]
 refine b4i (I.ok.hd hc) ev ⟨o,e1,e2,e3⟩ (by lia) fun h' as c tk ln M lS k=>?_
 have I1:Inv X pins σ H {s with heap:=h',toks:=tk}:=I.kept k
 have big: ∀b,s.heap.objs.size<=b->H b=none:=fun b hb=>I.hok.fresh hb
 have nd:as.Nodup:=M.up.imp fun z=>a1J z
 have out:s.heap.objs.size∉as:=fun m=>a3Y _ (M.far _ m)
 have each: ∀(j:Nat) (b:Addr),as[j]? =some b-> ∃k x y,kvs[j]? =some (k,x)/\H y=some (.tup (k.map kV))/\ ∃u,RelV x u/\h'.get? b=some (a1z (.ref y) u):=fun j b ej=>by
  obtain⟨en,ee,g⟩:=M.is j b ej
  obtain⟨jl,_⟩:=a0B.mp ej
  obtain⟨⟨k,x⟩,ek⟩: ∃p,kvs[j]? =some p:=⟨_,a0A (by lia)⟩
  obtain⟨⟨k',y,u⟩,ey,p1,p2,p3⟩:=a6h rel ek
  rw[entry_at e4,ey]at ee
  cases ee
  exact⟨k,x,y,ek,p2,u,p3,g⟩
 have some1: ∀b,∃o:HO,∀j:Nat,as[j]? =some b-> ∃k x y,kvs[j]? =some (k,x)/\H y=some (.tup (k.map kV))/\o= .tup [.ref y,x]/\ ∃u,RelV x u/\h'.get? b=some (a1z (.ref y) u):=fun b=>by
  by_cases hb:b∈as
  ·obtain⟨j,ej⟩:=a1A.mp hb
   obtain⟨k,x,y,h1,h2,u,h3,h4⟩:=each j b ej;refine⟨.tup [.ref y,x],fun i ei=>?_⟩;have ij:j=i:=a2G (a0B.mp ej).1 nd |>.mp (ej.trans ei.symm)
   subst ij;exact⟨k,x,y,h1,h2,rfl,u,h3,h4⟩
  ·exact⟨.tup [],fun j ej=>absurd (a0E ej) hb⟩
 let pr:Addr->HO:=fun b=>Classical.choose (some1 b)
 have prIs: ∀(j:Nat) (b:Addr),as[j]? =some b-> ∃k x y,kvs[j]? =some (k,x)/\H y=some (.tup (k.map kV))/\pr b= .tup [.ref y,x]/\ ∃u,RelV x u/\h'.get? b=some (a1z (.ref y) u):=fun j b ej=>a3N (some1 b) j ej
 have dom:(as.map fun b=>(b,pr b)).map (·.1)=as:=by simp[List.map_map,Function.comp_def]
 have okT: ∀b∈as,∀H2,ObjOk X.prog X.w H2 h' b (pr b):=fun b hb H2=>by
  obtain⟨j,ej⟩:=a1A.mp hb
  obtain⟨k,x,y,h1,h2,h3,u,h4,h5⟩:=prIs j b ej
  rw[h3]
  exact⟨by show 2<=sizeLine;decide,[.ref y,u],.cons rfl (.cons h4 .nil),_,h5,rfl,0,rfl,rfl⟩
 have vs: ∀l:As,Vals (l.map V.ref) (l.map Value.ref):=fun l=>by
  induction l with
  |nil=>exact .nil
  |cons x l ih=>exact .cons rfl ih
 have I2:=Inv.tracks (s1:={s with heap:=h',toks:=tk}) I ((s.heap.objs.size,.lst (as.map .ref))::as.map fun b=>(b,pr b)) H I1 (fun p hp=>by
   rcases a1C.mp hp with rfl|hp
   ·exact⟨a0J _,big _ (a0J _),fun H2=>⟨by rw[a0D];lia,_,c,vs as,lS⟩⟩
   ·obtain⟨b,hb,rfl⟩:=a0Q.mp hp
    exact⟨a3D (M.far b hb),big _ (a3D (M.far b hb)),okT b hb⟩) (by
   rw[a2I,dom];exact a2X.mpr ⟨out,nd⟩)
 refine⟨.ref s.heap.objs.size,_,I2,rfl,q _ as _ ⟨big _ (a0J _),fun b hb=>big _ (a3D (M.far b hb)),out,nd,by lia,?_,fun j b ej=>?_,fun b h1 h2=>?_⟩⟩
 ·exact c3k (p:=(s.heap.objs.size,.lst (as.map .ref))) (by rw[a2I,dom];exact a2X.mpr ⟨out,nd⟩) (a0S ..)
 ·obtain⟨k,x,y,g1,g2,g3,_⟩:=prIs j b ej
  refine⟨k,x,y,g1,g2,?_⟩
  rw[<-g3]
  exact c3k (p:=(b,pr b)) (by rw[a2I,dom];exact a2X.mpr ⟨out,nd⟩) (a0X _ (a0Q.mpr ⟨b,a0E ej,rfl⟩))
 ·refine b5u fun p hp=>?_
  rcases a1C.mp hp with rfl|hp
  ·exact h1
  ·obtain⟨y,hy,rfl⟩:=a0Q.mp hp
   exact fun e=>h2 (e▸hy)
end
def a2u(ws:TW)(as:As):List (List Key×V):=List.zipWith (fun p a=>(nk p.1,V.ref a)) ws as
theorem b1s{ws:TW}{as:As}{p:Nsq×Nsq}{a:Addr}(h:as.length=ws.length):a2u (ws++[p]) (as++[a])=a2u ws as++[(nk p.1,.ref a)]:=by
 unfold a2u
 rw[List.zipWith_append h.symm]
 rfl
theorem c3m{ws:TW}{as:As}(h:as.length=ws.length):(a2u ws as).length=ws.length:=by
 unfold a2u
 rw[List.length_zipWith]
 lia
theorem d3w{ws:TW}{as:As}{j:Nat}{p:Nsq×Nsq}{a:Addr}(hp:ws[j]? =some p)(ha:as[j]? =some a):(a2u ws as)[j]? =some (nk p.1,.ref a):=by
 unfold a2u
 rw[List.getElem?_zipWith,hp,ha]
theorem b0t: ∀{ws:TW} {as:As} {x:Nsq},x∉ws.map (·.1)->b1l (a2u ws as) (nk x)=none
 | [],_,_,_=>rfl
 |_::_,[],_,_=>rfl
 |p::ws,a::as,x,h=>by
  have h1: ¬(nk p.1:List Key)=nk x:=fun z=>h (a0Q.mpr ⟨p,a0S ..,b7t z⟩)
  exact(a6c (p:=(nk p.1,V.ref a)) (r:=a2u ws as) h1).trans (b0t fun z=>h (a0X _ z))
theorem c3n: ∀{ws:TW} {as:As} {j:Nat} {p:Nsq×Nsq} {a:Addr},(ws.map (·.1)).Nodup->ws[j]? =some p->as[j]? =some a->b1l (a2u ws as) (nk p.1)=some (.ref a)
 |q::ws,b::as,0,p,a,_,hp,ha=>by
  cases hp
  cases ha
  exact a8e (p:=(nk q.1,V.ref b)) (r:=a2u ws as) rfl
 |q::ws,b::as,j+1,p,a,nd,hp,ha=>by
  obtain⟨h1,h2⟩:=a2X.mp nd
  have hp':ws[j]? =some p:=by simpa using hp
  have n: ¬(nk q.1:List Key)=nk p.1:=fun z=>h1 (a0Q.mpr ⟨p,a0E hp',(b7t z).symm⟩)
  exact(a6c (p:=(nk q.1,V.ref b)) (r:=a2u ws as) n).trans (c3n h2 hp' (by simpa using ha))
 | [],_,_,_,_,_,hp,_=>by simp at hp
 |_::_,[],_,_,_,_,_,ha=>by simp at ha
structure WordsAt(H:Hp)(D:Addr)(ws:TW)(as:As):Prop where
 len:as.length=ws.length
 dict:H D=some (.dT (a2u ws as))
 list: ∀(j:Nat) (a:Addr) (p:Nsq×Nsq),as[j]? =some a->ws[j]? =some p->H a=some (.lst (p.2.map nv))
theorem WordsAt.same{H H':Hp}{D:Addr}{ws:TW}{as:As}(W:WordsAt H D ws as)(g:Same H H'):WordsAt H' D ws as:=⟨W.len,g _ _ W.dict,fun j a p h1 h2=>g _ _ (W.list j a p h1 h2)⟩
theorem WordsAt.word{H:Hp}{D:Addr}{ws:TW}{as:As}{p:Nsq×Nsq}(W:WordsAt H D ws as)(nd:(ws.map (·.1)).Nodup)(hp:p∈ws): ∃a,b1l (a2u ws as) (nk p.1)=some (.ref a)/\H a=some (.lst (p.2.map nv)):=by
 obtain⟨j,e⟩:=a1A.mp hp
 obtain⟨hj,_⟩:=a0B.mp e
 obtain⟨a,ea⟩: ∃a,as[j]? =some a:=⟨_,a0A (by rw[W.len];exact hj)⟩
 exact⟨a,c3n nd e ea,W.list j a p ea e⟩
theorem WordsAt.put{H:Hp}{D l:Addr}{ws:TW}{as:As}{p:Nsq×Nsq}(W:WordsAt H D ws as)(hl:H l=some (.lst (p.2.map nv))):WordsAt (upd H D (.dT (a2u ws as++[(nk p.1,.ref l)]))) D (ws++[p]) (as++[l]):=by
 have nD: ∀{a:Addr} {xs:List V},H a=some (.lst xs)->a≠D:=fun h=>nE h W.dict
 refine⟨by simp[W.len],by rw[a0a,b1s W.len],fun j a q h1 h2=>?_⟩
 by_cases hj:j<ws.length
 ·rw[a0R (by rw[W.len];exact hj)]at h1
  rw[a0R hj]at h2
  have z:=W.list j a q h1 h2
  rw[a0c (nD z)]
  exact z
 ·rw[a0P (by rw[W.len];lia)]at h1
  rw[a0P (by lia)]at h2
  have z:j-ws.length=0:=by
   have:=(a0B.mp h2).1
   simp at this;lia
  rw[W.len,z]at h1
  rw[z]at h2
  cases h1
  cases h2
  rw[a0c (nD hl)]
  exact hl
def noT(H:Hp):Hp:=fun a=>match H a with
 |some (.tbl _)=>none
 |o=>o
theorem a7q{H:Hp}{a:Addr}{o:HO}(h:H a=some o)(n: ∀ps,o≠ .tbl ps):noT H a=some o:=by
 unfold noT
 rw[h]
 cases o<;>first|rfl|exact absurd rfl (n _)
def isT:HO->Bool
 | .tbl _=>true
 |_=>false
theorem nU{H:Hp}{a:Addr}{o:HO}(h:H a=some o)(d:isT o=false:=by rfl):noT H a=some o:=a7q h fun φ e=>by subst e;cases d
theorem b0u{H:Hp}{a:Addr}{o:HO}(h:noT H a=some o):H a=some o/\ ∀ps,o≠ .tbl ps:=by
 unfold noT at h
 split at h
 ·cases h
 ·rename_i n
  exact⟨h,fun ps z=>n ps (by rw[h,z])⟩
theorem b1t{H:Hp}{a:Addr}(h:H a=none):noT H a=none:=by
 unfold noT
 rw[h]
def Keeps(H H':Hp):Prop:=Same (noT H) H'
theorem Same.keeps{H H':Hp}(g:Same H H'):Keeps H H':=fun a o h=>g a o (b0u h).1
theorem Keeps.refl(H:Hp):Keeps H H:=(Same.refl H).keeps
theorem Keeps.trans{H H1 H2:Hp}(a:Keeps H H1)(b:Keeps H1 H2):Keeps H H2:=fun c o h=>b c o (a7q (a c o h) (b0u h).2)
def TabOk(qual:Str)(pos:Pos)(H:Hp)(T:Addr):Prop:=H T=some (.tbl #[])∨ ∃cc,H T=some (.tbl (a3e pos cc))/\H cc=some (a5u cc qual)
theorem TabOk.same{qual:Str}{pos:Pos}{H H':Hp}{T:Addr}(t:TabOk qual pos H T)(g:Same H H'):TabOk qual pos H' T:=by
 rcases t with t|⟨cc,t1,t2⟩
 ·exact .inl (g _ _ t)
 ·exact .inr ⟨cc,g _ _ t1,g _ _ t2⟩
def DefAt(K:W.Frag)(x:Str)(st:Stmt)(f:Addr)(fd:Fd)(dv cv:Vl):Prop:=
 PySem.W.codeIn K cv x=true/\(∃kV doc pm an ct,fd=PySem.W.fnOf x x (a2o st) (a1m st) (a0e st) dv kV doc pm an cv ct)/\ ∃c d sl,K.lookup f=some ⟨c,d,.func fd,sl⟩
section
variable{P:Pg}{w:World}{K:W.Frag}{mg:SV}{base:Heap}{x:Str}{st:Stmt}{f:Addr}{fd:Fd}{dv cv:Vl}{N ps:Ss}{k:Nat}{sp:Sp}
def d3x(P:Pg)(w:World)(K:W.Frag)(mg:SV)(base:Heap)(x:Str)(st:Stmt)(f:Addr)(cv:Vl)(N:Ss)(k:Nat)(sp:Sp):Prop:=
 ∀A outer s H vs Q E,sp vs H Q E->Room k (A.deeper (envOfC x (a0e st) s.heap.objs.size f cv))-> ∃t:TS,t ⟨fun _ H'=>Q .non H',Q,fun _ _=>False,fun _ _=>False⟩ (start N vs) H/\PSs (d0j CX0 P w K mg base N x (a0e st) f cv A outer s H E).nox (a1m st) t
theorem DefAt.fnOk(d:DefAt K x st f fd dv cv)(sc:FnScope N ps (a0e st))(len: ∀vs H Q E,sp vs H Q E->vs.length=ps.length)(b:d3x P w K mg base x st f cv N k sp):FnOk P w K mg base CX0 (k+1) f fd ps sp:=by
 obtain⟨hcode,⟨kV,doc,pm,an,ct,rfl⟩,_,_,_,lk⟩:=d
 refine d2x lk hcode sc len fun A outer s H vs Q E hr hsp=>?_
 obtain⟨t,q,h⟩:=b A outer s H vs Q E hsp hr
 exact⟨t,h.nox,q⟩
def b1u(P:Pg)(w:World)(K:W.Frag)(mg:SV)(base:Heap)(x:Str)(k:Nat)(ps:Ss)(sp:Sp)(dvs:List V):Prop:=
 ∃f fd ds,FnOk P w K mg base CX0 k f fd ps sp/\mg x=some (.ref f)/\PySem.W.keepIn K (.ref f)=true/\Binds K fd ps ds/\Vals dvs ds
theorem b4j{X:Cx}{x y:Str}{k j:Nat}{ps:Ss}{sp:Sp}{c:Addr}{dvs:List V}{e:Expr}{es:List Expr}{t:TA}{p pos:Pos}(cl:b1u X.prog X.w X.K X.mg X.base x k ps sp dvs)(hr:Room k X.A)(hg:Gl X x)(hN:X.N[j]? =some y)(hc:X.env.cells.lookup y=some c)
  (hkd:X.env.scope.names.lookup y=some .cell) (hfn:X.fn y=true) (ha:PA X (e::es) t) (hdb:(x==("__debug__":Str))=false:=by decide) (he:starEach (e::es) X.env=(false,eval e X.env)::starEach es X.env:=by rfl)
  (hpl:(backTo pos (starEach es X.env)).any (·.1)=false:=by rfl):PE X (.Call (.Name x p) (e::es) [] pos) (c9f sp dvs j c t):=by
 obtain⟨f,fd,ds,F,hm,hk,hb,hd⟩:=cl
 exact c7j F hr hg hm hk hb hd hN hc hkd hfn ha hdb he hpl
end
section
variable{X:Cx}
def c9h(tk tv:TE):TE:=fun σ H Q=> ∀p,H p=none->tk σ (upd H p (.dT [])) fun x H1=>tv σ H1 fun y H2=>H2 p=some (.dT [])/\ ∃b k,x= .ref b/\H2 b=some (.tup (k.map kV))/\Q (.ref p) (upd H2 p (.dT [(k,y)]))
theorem c7q{k v:Expr}{tk tv:TE}{pos:Pos}(hu:X.A.units+1<cLine)(hk:PE X k tk)(hv:PE X v tv):PE X (.Dict [some k] [v] pos) (c9h tk tv):=by
 intro pins s σ H Q I q
 have hn:=I.hok.fresh (a0J s.heap.objs.size)
 have I1:=I.laid (a:=s.heap.objs.size) (o:= .dT []) (h':=s.heap.push {cls:= .type "dict",data:= .dict #[]}) (t':=s.toks) (fun _ _ q=>a0I _ q) (a0J _) (b7m s.heap I.big)
 have pairs:=c6q (X:=X) (pos:=pos) hk hv d0t
 have q1:=q s.heap.objs.size hn
 rw[arm_eval_Dict]
 refine a0C (a9A ?_)
 have shape:(evalEachOpt [some k] X.env).zip ((evalEach [v] X.env).map fun v=>do let x <-v;standAt pos;pure x)=(pairTrees [some k] [v] X.env pos).map fun p=>(some p.1,p.2):=rfl
 rw[shape,dictDisplay_pairs _ (by intro z;cases z) (by show 1<17;decide)]
 refine a0C ?_
 unfold subDict
 refine a0C (wpAny_alloc (a0C (a2P ?_)))
 rw[if_pos (by show 1<=15;decide)]
 let G:List (V×V)->Hp->Prop:=fun ps H2=>match ps with| [(x,y)]=>H2 s.heap.objs.size=some (.dT [])/\ ∃b k,x= .ref b/\H2 b=some (.tup (k.map kV))/\Q (.ref s.heap.objs.size) (upd H2 s.heap.objs.size (.dT [(k,y)]))|_=>False
 refine a0C (thn (pairs pins _ σ _ G I1 q1) fun ws s2 ⟨ps,H2,I2,rel,g⟩=>?_)
 obtain⟨x,y,rfl⟩: ∃x y,ps=[(x,y)]:=by
  cases ps with
  |nil=>exact False.elim g
  |cons p ps=>
   cases ps with
   |nil=>exact⟨p.1,p.2,rfl⟩
   |cons _ _=>exact False.elim g
 obtain⟨e,b,key,rfl,eb,q2⟩:=g
 obtain⟨u,r,rfl,ru,rr⟩: ∃u r,ws=[(u,r)]/\RelV (.ref b) u/\RelV y r:=by
  cases rel with
  | @cons _ q _ qs h t=>
   cases t;exact⟨q.1,q.2,rfl,h.1,h.2⟩
 cases ru
 obtain⟨z,hd,xs,kt,dd⟩:=d0q I2.hok e
 cases kt
 refine a2P ?_
 simp only[List.forIn_cons,List.forIn_nil]
 refine a0C (a0C (a0C (wpAny_dictSet_heap (show X.A.units<cLine by lia) (b0o I2.hok eb) dd (fun h' dd' hs=>?_) (by show 0<=_;exact a3E _))))
 refine a0F (a0F (a0F (a0F ?_)))
 obtain⟨o,es,ep,hq,h2,h3,h4,_,h5⟩:=dd'
 have key':upd H2 s.heap.objs.size (.dT [(key,y)]) b=some (.tup (key.map kV)):=by
  rw[a0c (nE eb e)]
  exact eb
 have ok:ObjOk X.prog X.w (upd H2 s.heap.objs.size (.dT [(key,y)])) h' s.heap.objs.size (.dT [(key,y)]):=⟨by show 1<=sizeLine;decide,hd,_,.cons ⟨rfl,key',rr⟩ .nil,o,es,ep,hq,h2,h3,h4,h5⟩
 exact a0F ⟨.ref s.heap.objs.size,_,b5k I2 (by rw[e];exact True.intro) hs ⟨o,hq⟩ ok,rfl,q2⟩
end
def a8h:Sp:=fun vs H Q _=> ∃d:Addr,vs=[.ref d,.non]/\Q .non H
def a7r(G:Hp->Prop)(U:LN)(L:Nat)(g:Nsq->Nat->List Nat):Sp:=fun vs H Q _=> ∃(t:Addr) (x:Nsq) (l:Nat),vs=[.ref t,nv l]/\G H/\H t=some (.tup (x.map nv))/\x∈U/\l<L/\d3j H ((g x l).map nv) Q
def ThAt(H:Hp)(l:Addr)(ps:TW):Prop:= ∃ts:As,H l=some (.lst (ts.map .ref))/\ts.length=ps.length/\ ∀(j:Nat) (t:Addr) (p:Nsq×Nsq),ts[j]? =some t->ps[j]? =some p->H t=some (.tup (p.1.map nv))
theorem ThAt.same{H H':Hp}{l:Addr}{ps:TW}(h:ThAt H l ps)(g:Same H H'):ThAt H' l ps:=by
 obtain⟨ts,h1,h2,h3⟩:=h
 exact⟨ts,g _ _ h1,h2,fun j t p e1 e2=>g _ _ (h3 j t p e1 e2)⟩
theorem ThAt.more{H:Hp}{l t:Addr}{ps:TW}{ts:As}{p:Nsq×Nsq}(h1:H l=some (.lst (ts.map .ref)))(h2:ts.length=ps.length)(h3: ∀(j:Nat) (t:Addr) (p:Nsq×Nsq),ts[j]? =some t->ps[j]? =some p->H t=some (.tup (p.1.map nv)))(ht:H t=some (.tup (p.1.map nv))):
  ThAt (upd H l (.lst (ts.map .ref++[.ref t]))) l (ps++[p]):=by
 have nl: ∀{a:Addr} {xs:List V},H a=some (.tup xs)->a≠l:=fun h=>nE h h1
 refine⟨ts++[t],by rw[a0a,a1G];rfl,by simp[h2],fun j a q e1 e2=>?_⟩
 by_cases hj:j<ps.length
 ·rw[a0R (by lia)]at e1
  rw[a0R hj]at e2
  have z:=h3 j a q e1 e2
  rw[a0c (nl z)]
  exact z
 ·rw[a0P (by lia)]at e1
  rw[a0P (by lia)]at e2
  have z:j-ps.length=0:=by
   have:=(a0B.mp e2).1
   simp at this;lia
  rw[h2,z]at e1
  rw[z]at e2
  cases e1
  cases e2
  rw[a0c (nl ht)]
  exact ht
structure Srch(H0 H:Hp)(D wa fa:Addr)(ts:As)(ws wv fo:TW)(as:As):Prop where
 g:Same H0 H
 nD:H0 D=none
 nF:H0 fa=none
 W:WordsAt H D ws as
 wl:H wa=some (.lst (ts.map .ref))
 wt: ∀(j:Nat) (t:Addr) (p:Nsq×Nsq),ts[j]? =some t->wv[j]? =some p->H t=some (.tup (p.1.map nv))
 foll:ThAt H fa fo
 wf:wa≠fa
 fas:fa∉as
 new: ∀b∈as,H0 b=none
theorem Srch.same{H0 H H':Hp}{D wa fa:Addr}{ts:As}{ws wv fo:TW}{as:As}(S:Srch H0 H D wa fa ts ws wv fo as)(k:Same H H'):Srch H0 H' D wa fa ts ws wv fo as:=
 ⟨S.g.trans k,S.nD,S.nF,S.W.same k,k _ _ S.wl,fun j t p h1 h2=>k _ _ (S.wt j t p h1 h2),S.foll.same k,S.wf,S.fas,S.new⟩
theorem Srch.more{H0 H:Hp}{D wa fa l t:Addr}{tw:As}{ws wv fo:TW}{as ts:As}{p:Nsq×Nsq}(S:Srch H0 H D wa fa tw ws wv fo as)(hl:H l=some (.lst (p.2.map nv)))(lf:l≠fa)(l0:H0 l=none)(ht:H t=some (.tup (p.1.map nv)))
  (e1:H fa=some (.lst (ts.map .ref))) (e2:ts.length=fo.length) (e3: ∀(j:Nat) (t:Addr) (p:Nsq×Nsq),ts[j]? =some t->fo[j]? =some p->H t=some (.tup (p.1.map nv))):
  Srch H0 (upd (upd H D (.dT (a2u ws as++[(nk p.1,.ref l)]))) fa (.lst (ts.map .ref++[.ref t]))) D wa fa tw (ws++[p]) wv (fo++[p]) (as++[l]):=by
 have fD:fa≠D:=nE e1 S.W.dict
 have tD: ∀{a:Addr} {xs:List V},H a=some (.tup xs)->a≠D:=fun h=>nE h S.W.dict
 have wD:wa≠D:=nE S.wl S.W.dict
 have tF: ∀{a:Addr} {xs:List V},H a=some (.tup xs)->a≠fa:=fun h=>nE h e1
 have W1:=S.W.put (l:=l) (p:=p) hl
 have f1:(upd H D (.dT (a2u ws as++[(nk p.1,.ref l)]))) fa=some (.lst (ts.map .ref)):=by rw[a0c fD];exact e1
 refine⟨a1b (a1b S.g S.nD) S.nF,S.nD,S.nF,⟨W1.len,?_,fun j a q h1 h2=>?_⟩,?_,fun j a q h1 h2=>?_,?_,S.wf,?_,fun b hb=>(a0L.mp hb).elim (S.new b) fun m=>by rw[a0H.mp m];exact l0⟩
 ·rw[a0c (a3K fD)]
  exact W1.dict
 ·have na:a≠fa:=fun z=>by
   subst z
   rcases a0L.mp (a0E h1)with m|m
   ·exact S.fas m
   ·exact lf (a0H.mp m).symm
  rw[a0c na]
  exact W1.list j a q h1 h2
 ·rw[a0c S.wf,a0c wD]
  exact S.wl
 ·have z:=S.wt j a q h1 h2
  rw[a0c (tF z),a0c (tD z)]
  exact z
 ·refine ThAt.more f1 e2 (fun j a q h1 h2=>?_) ?_
  ·have z:=e3 j a q h1 h2
   rw[a0c (tD z)];exact z
  ·rw[a0c (tD ht)]
   exact ht
 ·intro m
  rcases a0L.mp m with m|m
  ·exact S.fas m
  ·exact lf (a0H.mp m).symm
section
variable{X:Cx}{H0:Hp}{a st D wa fa:Addr}{sd:Fd}{ps:Ss}{x0:Nsq}{L:Nat}{U:LN}{g:Nsq->Nat->List Nat}
abbrev d3y(X:Cx):TS:=c5w (c6b (c9d X 2 (a6w (a7l 7) (a6w (a7l 8) b7j))) (a4m 9)) (tIfS (tB (c1y (a7l 9) (a7l 4)))
 (c5w (d3f (a7l 4) (a7l 9) (tOp (d3l X.K) (d3e (a7l 4) (a7l 7)) (d2u (a6w (a7l 8) b7j)))) (c5w (c5z (c6i a8h [] E0 (a6w (a7l 4) (a6w (a7l 3) b7j)))) (c5z (tBM X.K "list" c1p (a7l 6) (a6w (a7l 9) b7j))))) d2m)
theorem c3o{d i j:Nat}{ws wv fo:TW}{as ts:As}{th:Addr}{t:Nsq×Nsq}{H:Hp}{En:Ends}{o9:Option V}(hr:Room 5 X.A)(hst:H0 st=some (b1q st sd))(h0:x0∈U)(hU: ∀x∈U,∀l,l<L->g x l∈U)(few:U.length<=4000)
  (hF:FnOk X.prog X.w X.K X.mg X.base CX0 5 st sd ps (a7r (Same H0) U L g)) (hB:Binds X.K sd ps []) (B:Bfs g L x0 d ws wv fo i j) (ht:wv[i]? =some t) (hj:j<L) (hd:d+1<=ws.length) (S:Srch H0 H D wa fa ts ws wv fo as) (hth:H th=some (.tup (t.1.map nv)))
  (next: ∀ws' fo' as' H' v,Bfs g L x0 d ws' wv fo' i (j+1)->Srch H0 H' D wa fa ts ws' wv fo' as'->ws'.length+fo.length=ws.length+fo'.length->H' th=some (.tup (t.1.map nv))->En.nx [some (.ref a),some (nv L),some (.ref st),some .non,some (.ref D),some (.ref wa),some (.ref fa),some (.ref th),some (nv j),some v] H'):
  d3y X En [some (.ref a),some (nv L),some (.ref st),some .non,some (.ref D),some (.ref wa),some (.ref fa),some (.ref th),some (nv j),o9] H:=by
 have tw:=(B.wave t (a0E ht)).1
 have tU:t.1∈U:=by
  obtain⟨r1,r2⟩:=B.run t tw
  rw[<-r2]
  exact a7e h0 hU t.2 r1
 have fewW:ws.length<=4000:=by
  have z:(ws.map (·.1)).length<=U.length:=a7p B.keys fun x hx=>by
   obtain⟨p,hp,rfl⟩:=a0Q.mp hx;obtain⟨r1,r2⟩:=B.run p hp;rw[<-r2];exact a7e h0 hU p.2 r1
  rw[a0D]at z
  lia
 refine⟨_,rfl,st,sd,rfl,S.g _ _ hst,_,rfl,_,rfl,S.g _ _ hst,5,ps,_,hF,hr,hB,th,t.1,j,rfl,S.g,hth,tU,hj,fun fn H1 g1 e1=>?_⟩
 have S1:=S.same g1
 have hth1:=g1 _ _ hth
 refine⟨_,rfl,_,rfl,D,_,rfl,DGet.t S1.W.dict (by rw[a5r];exact e1),_,rfl,?_⟩
 by_cases hm:g t.1 j∈ws.map (·.1)
 ·obtain⟨p,hp,e⟩:=a0Q.mp hm
  obtain⟨c,v1,_⟩:=S1.W.word B.keys hp
  rw[<-e,v1]
  rw[if_neg (by simp)]
  exact next ws fo as H1 _ (B.old ht hm) S1 rfl hth1
 ·rw[b0t hm]
  refine b0n ?_
  obtain⟨tw,tl⟩:=B.wave t (a0E ht)
  obtain⟨c,v1,v2⟩:=S1.W.word B.keys tw
  have dg:DGet H1 D (.ref th) (some (.ref c)):=v1▸DGet.t S1.W.dict (by rw[a5r];exact hth1)
  refine⟨_,rfl,_,rfl,D,_,rfl,dg,_,rfl,by show 1<=sizeLine;decide,fun p hp=>?_⟩
  have k2:=a0d hp (.lst [nv j])
  refine⟨c,p,_,_,rfl,rfl,SqL.of (k2 _ _ v2),SqL.of a0a,by rw[a0D,tl,a1B];show d+1<=_;lia,fun l hl=>?_⟩
  have k3:=k2.trans (a0d hl (.lst (t.2.map nv++[nv j])))
  have S3:=S1.same k3
  have e3:=k3 _ _ e1
  have hl3:upd (upd H1 p (.lst [nv j])) l (.lst (t.2.map nv++[nv j])) l=some (.lst ((t.2++[j]).map nv)):=by rw[a0a,a1G];rfl
  have hth3:=k3 _ _ hth1
  obtain⟨tf,f1,f2,f3⟩:=S3.foll
  have lf:l≠fa:=fun z=>by
   obtain⟨_,q1,_⟩:=S1.foll;have q2:=k2 _ _ q1;rw[<-z,hl]at q2;cases q2
  generalize upd (upd H1 p (.lst [nv j])) l (.lst (t.2.map nv++[nv j]))=H3 at S3 e3 hl3 hth3 f1 f3⊢
  refine⟨_,rfl,_,rfl,D,_,rfl,DPut.t S3.W.dict (by rw[a5r];exact e3) (by rw[c3m S3.W.len,a1B];lia),?_⟩
  rw[b1n _ (b0t hm)]
  have fD:fa≠D:=nE f1 S3.W.dict
  have thD:th≠D:=nE hth3 S3.W.dict
  have thF:th≠fa:=nE hth3 f1
  have ffD:(upd H3 D (.dT (a2u ws as++[(nk (g t.1 j),.ref l)]))) fa=some (.lst (tf.map .ref)):=by rw[a0c fD];exact f1
  have fl:tf.length<=4000:=by
   have z:(fo.map (·.1)).length<=ws.length:=by
    rw[<-a0D (f:=(·.1)) (as:=ws)];refine a7p ?_ fun x hx=>?_
    ·refine(a7G.mpr (B.fup.imp_of_mem fun {p q} hp hq h z=>?_))
     have r1:=(B.run p (B.foll p hp).1).2;have r2:=(B.run q (B.foll q hq).1).2;obtain⟨i1,e1⟩:=a1A.mp (B.foll p hp).1;obtain⟨i2,e2⟩:=a1A.mp (B.foll q hq).1;have ii:i1=i2:=(a2G (by rw[a0D];exact(a0B.mp e1).1) B.keys).mp (by rw[a0G,a0G,e1,e2];exact a1Z some z);subst ii;rw[e1]at e2;cases e2;exact b7v h
    ·obtain⟨p,hp,rfl⟩:=a0Q.mp hx
     exact a0Q.mpr ⟨p,(B.foll p hp).1,rfl⟩
   rw[a0D]at z;lia
  refine⟨_,rfl,_,rfl,D,rfl,_,rfl,.inl ⟨rfl,_,SqL.of ffD⟩,_,rfl,fa,_,_,rfl,rfl,ffD,by rw[a0D,a1B];lia,?_⟩
  exact next (ws++[(g t.1 j,t.2++[j])]) (fo++[(g t.1 j,t.2++[j])]) (as++[l]) _ _ (B.new ht hj hm) (S3.more (p:=(g t.1 j,t.2++[j])) hl3 lf ((S1.g.trans k2).free hl) e3 f1 f2 f3) (by simp;lia) (by rw[a0c thF,a0c thD];exact hth3)
abbrev d3z(X:Cx):TS:=tFor (d2o X.K (a7l 5)) (a4m 7) (tFor (d2p (a6w (a7l 1) b7j)) (a4m 8) (d3y X))
theorem c3p{d:Nat}{ws0 wv:TW}{as0 ts:As}{H:Hp}{En:Ends}{o7 o8 o9:Option V}(hr:Room 5 X.A)(hst:H0 st=some (b1q st sd))(h0:x0∈U)(hU: ∀x∈U,∀l,l<L->g x l∈U)(few:U.length<=4000)(fewL:L<=4000)
  (hF:FnOk X.prog X.w X.K X.mg X.base CX0 5 st sd ps (a7r (Same H0) U L g)) (hB:Binds X.K sd ps []) (B:Bfs g L x0 d ws0 wv [] 0 0) (hd:d+1<=ws0.length) (S:Srch H0 H D wa fa ts ws0 wv [] as0) (lt:ts.length=wv.length)
  (next: ∀ws fo as H' o7 o8 o9,Bfs g L x0 d ws wv fo wv.length 0->Srch H0 H' D wa fa ts ws wv fo as->ws.length=ws0.length+fo.length->En.nx [some (.ref a),some (nv L),some (.ref st),some .non,some (.ref D),some (.ref wa),some (.ref fa),o7,o8,o9] H'):
  d3z X En [some (.ref a),some (nv L),some (.ref st),some .non,some (.ref D),some (.ref wa),some (.ref fa),o7,o8,o9] H:=by
 let Pv:Nat->L2.St->Hp->Prop:=fun i σ H'=> ∃ws fo as o7 o8 o9,Bfs g L x0 d ws wv fo i 0/\Srch H0 H' D wa fa ts ws wv fo as/\ws.length=ws0.length+fo.length/\
  σ=[some (.ref a),some (nv L),some (.ref st),some .non,some (.ref D),some (.ref wa),some (.ref fa),o7,o8,o9]
 refine⟨_,rfl,wa,rfl,⟨_,SqL.of S.wl⟩,a3z (xs:=ts.map .ref) Pv ⟨ws0,[],as0,o7,o8,o9,B,S,by simp,rfl⟩ (fun i σ H' _ p=>?_) (fun i x σ H' hx p=>?_) (fun σ H' p=>?_)⟩
 ·obtain⟨_,_,_,_,_,_,_,S1,_⟩:=p
  exact SqL.of S1.wl
 ·obtain⟨ws,fo,as,p7,p8,p9,B1,S1,l1,rfl⟩:=p
  rw[a0G]at hx
  obtain⟨th,eth,rfl⟩:=a0O.mp hx
  obtain⟨hi,_⟩:=a0B.mp eth
  obtain⟨t,ht⟩: ∃t,wv[i]? =some t:=⟨_,a0A (by lia)⟩
  let Pj:Nat->L2.St->Hp->Prop:=fun j σ H2=> ∃ws fo as o8 o9,Bfs g L x0 d ws wv fo i j/\Srch H0 H2 D wa fa ts ws wv fo as/\ws.length=ws0.length+fo.length/\
   σ=[some (.ref a),some (nv L),some (.ref st),some .non,some (.ref D),some (.ref wa),some (.ref fa),some (.ref th),o8,o9]
  refine⟨_,rfl,(L:Int),rfl,by lia,by lia,a6a Pj ⟨ws,fo,as,p8,p9,B1,S1,l1,rfl⟩ (fun j σ H2 hj p=>?_) (fun σ H2 p=>?_)⟩
  ·obtain⟨ws',fo',as',q8,q9,B2,S2,l2,rfl⟩:=p
   have z:(0:Int)+((j:Nat):Int)=((j:Nat):Int):=by lia
   rw[z];refine c3o (t:=t) hr hst h0 hU few hF hB B2 ht (by simpa using hj) (by lia) S2 (S2.wt i th t eth ht) fun w3 f3 a3 H3 v B3 S3 l3 _=>⟨w3,f3,a3,_,_,B3,S3,by lia,rfl⟩
  ·obtain⟨ws',fo',as',q8,q9,B2,S2,l2,rfl⟩:=p
   exact⟨ws',fo',as',_,_,_,Bfs.next (by simpa using B2) ht,S2,l2,rfl⟩
 ·obtain⟨ws,fo,as,p7,p8,p9,B1,S1,l1,rfl⟩:=p
  rw[a0D,lt]at B1
  exact next ws fo as H' p7 p8 p9 B1 S1 l1
abbrev d4a(X:Cx):TS:=c5w (c6b (c9h (a7l 0) (d2u b7j)) (a4m 4)) (c5w (c5z (c6i a8h [] E0 (a6w (a7l 4) (a6w (a7l 3) b7j)))) (c5w (c6b (d2u (a6w (a7l 0) b7j)) (a4m 5))
 (c5w (c8t (fun σ H_1 Q=>a7l 5 σ H_1 fun x H'=> ∃k,TruV X.K x H' k/\Q k H') (c5w (c6b (d2u b7j) (a4m 6)) (c5w (d3z X) (c6b (a7l 6) (a4m 5))))) (tRet (a7l 4)))))
theorem d4b{d i j:Nat}{ws wv fo:TW}(h0:x0∈U)(hU: ∀x∈U,∀l,l<L->g x l∈U)(B:Bfs g L x0 d ws wv fo i j):ws.length<=U.length:=by
 rw[<-a0D (f:=(·.1)) (as:=ws)]
 exact a7p B.keys fun x hx=>by
  obtain⟨p,hp,rfl⟩:=a0Q.mp hx
  obtain⟨r1,r2⟩:=B.run p hp
  rw[<-r2]
  exact a7e h0 hU p.2 r1
theorem c0a{En:Ends}(hr:Room 5 X.A)(ha:H0 a=some (.tup (x0.map nv)))(hst:H0 st=some (b1q st sd))(h0:x0∈U)(hU: ∀x∈U,∀l,l<L->g x l∈U)(few:U.length<=4000)(fewL:L<=4000)
  (hF:FnOk X.prog X.w X.K X.mg X.base CX0 5 st sd ps (a7r (Same H0) U L g)) (hB:Binds X.K sd ps []) (q: ∀D ws as H',Same H0 H'->WordsAt H' D ws as->(∀b∈D::as,H0 b=none)->Told g L x0 ws->En.rt (.ref D) H'):
  d4a X En [some (.ref a),some (nv L),some (.ref st),some .non,none,none,none,none,none,none] H0:=by
 intro D hD
 have kD:=a0d hD (.dT [])
 refine⟨_,rfl,by show 0<=sizeLine;decide,fun l hl=>?_⟩
 have kl:=a0d hl (.lst [])
 refine⟨kl _ _ a0a,a,nk x0,rfl,by rw[a5r];exact(kD.trans kl) _ _ ha,?_⟩
 have lD:l≠D:=fun z=>by
  subst z
  rw[a0a]at hl
  cases hl
 have W0:WordsAt (upd (upd (upd H0 D (.dT [])) l (.lst [])) D (.dT [(nk x0,.ref l)])) D [(x0,[])] [l]:=⟨rfl,a0a,fun j b p h1 h2=>by
  cases j with
  |zero=>
   cases h1;cases h2;rw[a0c lD,a0a];rfl
  |succ j=>simp at h1⟩
 have g0:Same H0 (upd (upd (upd H0 D (.dT [])) l (.lst [])) D (.dT [(nk x0,.ref l)])):=a1b (kD.trans kl) hD
 generalize upd (upd (upd H0 D (.dT [])) l (.lst [])) D (.dT [(nk x0,.ref l)])=H1 at W0 g0⊢
 refine⟨_,rfl,_,rfl,D,rfl,_,rfl,by show 1<=sizeLine;decide,fun wa hw=>?_⟩
 have kw:=a0d hw (.lst [.ref a])
 let Wv:Nat->L2.St->Hp->Prop:=fun m σ H=> ∃(d:Nat) (ws wv:TW) (as:As) (wa:Addr) (ts:As) (o6 o7 o8 o9:Option V),Bfs g L x0 d ws wv [] 0 0/\WordsAt H D ws as/\H wa=some (.lst (ts.map .ref))/\(∀(j:Nat) (t:Addr) (p:Nsq×Nsq),ts[j]? =some t->wv[j]? =some p->H t=some (.tup (p.1.map nv)))/\ts.length=wv.length/\Same H0 H/\(∀b∈as,H0 b=none)/\
   (wv≠[]->d+1<=ws.length)/\m=2 * (U.length-ws.length)+(if wv=[]then 0 else 1)/\σ=[some (.ref a),some (nv L),some (.ref st),some .non,some (.ref D),some (.ref wa),o6,o7,o8,o9]
 refine⟨Wv,⟨_,0,[(x0,[])],[(x0,[])],[l],wa,[a],none,none,none,none,Bfs.start,W0.same kw,a0a,?_,rfl,g0.trans kw,fun b hb=>(by rw[a0H.mp hb];exact kD.free hl),fun _=>a0J _,rfl,rfl⟩,fun m σ H P=>?_⟩
 ·intro j t p h1 h2
  cases j with
  |zero=>
   cases h1;cases h2;exact(g0.trans kw) _ _ ha
  |succ j=>simp at h1
 ·obtain⟨d,ws,wv,as,wa,ts,o6,o7,o8,o9,B,W,wl,wt,lt,gg,nw,deep,hm,rfl⟩:=P
  refine⟨_,rfl,!(ts.map V.ref).isEmpty,.inl ⟨_,SqL.of wl,rfl⟩,?_⟩
  by_cases hwv:wv=[]
  ·subst hwv
   have e:ts=[]:=a2V.mp lt;subst e;rw[if_neg (by simp)];exact⟨_,rfl,q D ws as H gg W (fun b hb=>(a1C.mp hb).elim (fun e=>e▸hD) (nw b)) B.told⟩
  ·have ne:ts≠[]:=fun z=>hwv (a2V.mp (by rw[<-lt,z];rfl))
   have c1:(!(ts.map V.ref).isEmpty)=true:=by
    cases ts with
    |nil=>exact absurd rfl ne
    |cons=>rfl
   rw[c1];refine b0n ?_;refine⟨fun σ' H'=> ∃m',m'<m/\Wv m' σ' H',fun σ' H' h=>h,by show 0<=sizeLine;decide,fun fa hfa=>?_⟩;have kf:=a0d hfa (.lst []);have fas:fa∉as:=fun m=>by
    obtain⟨j,e⟩:=a1A.mp m;obtain⟨hj,_⟩:=a0B.mp e;have z:=W.list j fa _ e (a0A (by rw[<-W.len];exact hj));rw[hfa]at z;cases z
   have S:Srch H0 (upd H fa (.lst [])) D wa fa ts ws wv [] as:=⟨gg.trans kf,hD,gg.free hfa,W.same kf,kf _ _ wl,fun j t p h1 h2=>kf _ _ (wt j t p h1 h2),⟨[],a0a,rfl,fun j t p h1 _=>by simp at h1⟩,a0h wl hfa,fas,nw⟩;refine c3p (En:={En with nx:=_,ct:=_,bk:=_}) hr hst h0 hU few fewL hF hB B (deep hwv) S lt fun ws' fo as' H' p7 p8 p9 B' S' l'=>?_
   obtain⟨tf,f1,f2,f3⟩:=S'.foll;have z1:=d4b h0 hU B';have z2:=deep hwv;refine⟨_,rfl,2 * (U.length-ws'.length)+(if fo=[]then 0 else 1),?_,d+1,ws',fo,as',fa,tf,_,_,_,_,B'.wave',S'.W,f1,f3,f2,S'.g,S'.new,fun nf=>?_,rfl,rfl⟩
   ·rw[hm,if_neg hwv]
    by_cases hf:fo=[]
    ·subst hf
     rw[if_pos rfl];simp at l';lia
    ·have:=List.length_pos_iff.mpr hf
     rw[if_neg hf];lia
   ·have:=List.length_pos_iff.mpr nf
    lia
end
theorem d1c{ws:TW}{as:As}{k:List Key}{a:Addr}(h:b1l (a2u ws as) k=some (.ref a)):a∈as:=by
 unfold b1l at h
 obtain⟨kv,h1,h2⟩:=a0O.mp h
 obtain⟨i,hi⟩:=a1A.mp (List.mem_of_find?_eq_some h1)
 unfold a2u at hi
 rw[List.getElem?_zipWith]at hi
 cases e1:ws[i]? with
 |none=>rw[e1]at hi;cases hi
 | some p=>
  cases e2:as[i]? with
  |none=>rw[e1,e2]at hi;cases hi
  |some b=>
   rw[e1,e2]at hi;cases hi;cases h2;exact a0E e2
section
variable{X:Cx}
def rInD(K:W.Frag)(neg:Bool):R2:=fun x y H Q=> ∃(l:Addr) (n:Nat) (d:Dt) (ds:List Dt) (xs:List V),y= .ref l/\SqL K H l xs/\xs.length=ds.length/\Rep K H n d x/\(∀(i:Nat) d' v,ds[i]? =some d'->xs[i]? =some v->Rep K H n d' v)/\n<=30/\ ∀b,(b=true↔d∈ds)->Q (.bl (if neg then !b else b)) H
theorem b7w{K:W.Frag}{H:Hp}{n:Nat}{d d':Dt}{y z:V}{u:Vl}(hy:Rep K H n d y)(hz:Rep K H n d' z)(r1:RelV y u)(r2:RelV z u):y=z:=by
 have ry: ∀{y:V} {d:Dt},Rep K H n d y->RelV y u->(y= .non/\u= .none)∨(∃i t,y= .int i/\u= .int i t)∨(∃x t,y= .str x/\u= .str x t)∨ ∃a,y= .ref a/\u= .ref a:=fun h r=>by
  cases h with
  |non=>exact .inl ⟨rfl,r⟩
  |int _ i=>
   obtain⟨t,e⟩:=r;exact .inr (.inl ⟨i,t,rfl,e⟩)
  |str _ x=>
   obtain⟨t,e⟩:=r;exact .inr (.inr (.inl ⟨x,t,rfl,e⟩))
  |lst=>exact .inr (.inr (.inr ⟨_,rfl,r⟩))
  |tup=>exact .inr (.inr (.inr ⟨_,rfl,r⟩))
 rcases ry hy r1 with⟨rfl,e⟩|⟨i,t,rfl,e⟩|⟨x,t,rfl,e⟩|⟨a,rfl,e⟩<;>rcases ry hz r2 with⟨rfl,e'⟩|⟨i',t',rfl,e'⟩|⟨x',t',rfl,e'⟩|⟨a',rfl,e'⟩<;>rw[e]at e'<;>cases e'<;>rfl
theorem d4c{pins:AO}{σ:St}{H:Hp}{s:Sh}{x:V}{v:Vl}{n:Nat}{d:Dt}{ds:List Dt}{xs:List V}{its:Vs}(hu:X.A.units+64<cLine)(I:Inv X pins σ H s)(rx:RelV x v)(r:Vals xs its)(hl:xs.length=ds.length)(hd:Rep X.K H n d x)
  (hi: ∀(i:Nat) d' v,ds[i]? =some d'->xs[i]? =some v->Rep X.K H n d' v) (hn:n<=30): ∃e:Vl->Bool,(∀u∈its,SeqAt.EqAt X.A.in1 s u v (e u))/\(its.any e=true↔d∈ds):=by
 have one: ∀(i:Nat) u,its[i]? =some u-> ∃b d',ds[i]? =some d'/\SeqAt.EqAt X.A.in1 s u v b/\(b=true↔d'=d):=fun i u hu'=>by
  obtain⟨h1,_⟩:=a0B.mp hu'
  have h2:=r.length
  obtain⟨y,ey⟩: ∃y,xs[i]? =some y:=⟨_,a0A (by lia)⟩
  obtain⟨d',ed⟩: ∃d',ds[i]? =some d':=⟨_,a0A (by lia)⟩
  obtain⟨u',eu,ru⟩:=Vals.get r ey
  rw[hu']at eu
  cases eu
  obtain⟨b,h3,h4⟩:=b3x I n (A:=X.A.in1) (by show X.A.units+1+n<cLine;lia) (hi i d' y ed ey) hd ru rx
  exact⟨b,d',ed,h3,h4⟩
 have each: ∀u,∃b,(∃i:Nat,its[i]? =some u)->SeqAt.EqAt X.A.in1 s u v b/\ ∃(i:Nat) (d':Dt),its[i]? =some u/\ds[i]? =some d'/\(b=true↔d'=d):=fun u=>by
  by_cases h: ∃i:Nat,its[i]? =some u
  ·obtain⟨i,hi'⟩:=h
   obtain⟨b,d',h1,h2,h3⟩:=one i u hi';exact⟨b,fun _=>⟨h2,i,d',hi',h1,h3⟩⟩
  ·exact⟨true,fun z=>absurd z h⟩
 refine⟨fun u=>Classical.choose (each u),fun u hu'=>(a3N (each u) (a1A.mp hu')).1,?_⟩
 rw[a7W]
 constructor
 ·rintro⟨u,hu',hb⟩
  obtain⟨_,i,d',h1,h2,h3⟩:=a3N (each u) (a1A.mp hu')
  rw[<-h3.mp hb]
  exact a0E h2
 ·intro hm
  obtain⟨i,ed⟩:=a1A.mp hm
  obtain⟨h1,_⟩:=a0B.mp ed
  have h2:=r.length
  obtain⟨u,eu⟩: ∃u,its[i]? =some u:=⟨_,a0A (by lia)⟩
  refine⟨u,a0E eu,?_⟩
  obtain⟨_,j,d',g1,g2,g3⟩:=a3N (each u) ⟨i,eu⟩
  refine g3.mpr ?_
  obtain⟨y,ey⟩: ∃y,xs[i]? =some y:=⟨_,a0A (by lia)⟩
  obtain⟨h4,_⟩:=a0B.mp g2
  obtain⟨z,ez⟩: ∃z,xs[j]? =some z:=⟨_,a0A (by lia)⟩
  obtain⟨u1,e1,r1⟩:=Vals.get r ey
  obtain⟨u2,e2,r2⟩:=Vals.get r ez
  rw[eu]at e1
  rw[g1]at e2
  cases e1
  cases e2
  have yz:y=z:=b7w (hi i d y ed ey) (hi j d' z g2 ez) r1 r2
  subst yz
  exact b5p I n (hi j d' y g2 ez) (hi i d y ed ey)
theorem c3q(hu:X.A.units+64<cLine):OpR X (compareOp .NotIn) (rInD X.K true):=by
 intro pins s σ H x y v u Q I rx ry h
 obtain⟨l,n,d,ds,xs,rfl,hq,hl,hd,hi,hn,q⟩:=h
 cases ry
 obtain⟨its,r,pl,hz⟩:=I.list hq
 obtain⟨e,h1,h2⟩:=d4c hu I rx r hl hd hi hn
 refine SeqAt.notIn_listAt e pl.isList (fun w hw=>h1 w (by simpa using hw)) ⟨.bl _,H,I,rfl,?_⟩
 rw[show its.toArray.any e=its.any e by simp]
 exact q _ h2
theorem d1d{x y:Str}{p q tp:Pos}{k:Nat}{sc:Scope}(S:CompScope X [x,y] sc)(hc:X.calm=true)(hx:sc.names.lookup x=some .local)(hy:sc.names.lookup y=some .local):
  ∀C s H fp,PG (cxC X [x,y] sc C s H fp) (.Tuple [.Name x p,.Name y q] k tp) (gTup X.K 2 (d0a (a4m 0) (d0a (a4m 1) gNil))):=fun C s H fp=>
 b3j hc (a2p (a1a S.nd rfl (.inl (a4I hx)) (.inr (a4I hx))) (a2p (a1a S.nd rfl (.inl (a4I hy)) (.inr (a4I hy))) a8u))
end
section
variable{X:Cx}
def c3r(K:W.Frag):V->List V->Hp->VK->Prop:=fun x vs H Q=> ∃(l:Addr) (y:V) (n:Nat) (d:Dt) (ds:List Dt) (xs:List V) (j:Nat),x= .ref l/\vs=[y]/\SqL K H l xs/\xs.length=ds.length/\Rep K H n d y/\(∀(i:Nat) d' v,ds[i]? =some d'->xs[i]? =some v->Rep K H n d' v)/\n<=30/\ds[j]? =some d/\(∀i:Nat,i<j->ds[i]? ≠some d)/\Q (.int (j:Nat)) H
theorem d4d{pins:AO}{σ:St}{H:Hp}{s:Sh}{x:V}{v:Vl}{n:Nat}{d:Dt}{ds:List Dt}{xs:List V}{its:Vs}(hu:X.A.units+64<cLine)(I:Inv X pins σ H s)(rx:RelV x v)(r:Vals xs its)(hl:xs.length=ds.length)(hd:Rep X.K H n d x)
  (hi: ∀(i:Nat) d' v,ds[i]? =some d'->xs[i]? =some v->Rep X.K H n d' v) (hn:n<=30): ∃e:Vl->Bool,(∀u∈its,SeqAt.EqAt X.A.in1 s u v (e u))/\ ∀(i:Nat) u d',its[i]? =some u->ds[i]? =some d'->(e u=true↔d'=d):=by
 have h2:=r.length
 have one: ∀(i:Nat) u,its[i]? =some u-> ∃b d',ds[i]? =some d'/\SeqAt.EqAt X.A.in1 s u v b/\(b=true↔d'=d):=fun i u hu'=>by
  obtain⟨h1,_⟩:=a0B.mp hu'
  obtain⟨y,ey⟩: ∃y,xs[i]? =some y:=⟨_,a0A (by lia)⟩
  obtain⟨d',ed⟩: ∃d',ds[i]? =some d':=⟨_,a0A (by lia)⟩
  obtain⟨u',eu,ru⟩:=Vals.get r ey
  rw[hu']at eu
  cases eu
  obtain⟨b,h3,h4⟩:=b3x I n (A:=X.A.in1) (by show X.A.units+1+n<cLine;lia) (hi i d' y ed ey) hd ru rx
  exact⟨b,d',ed,h3,h4⟩
 have each: ∀u,∃b,(∃i:Nat,its[i]? =some u)->SeqAt.EqAt X.A.in1 s u v b/\ ∃(i:Nat) (d':Dt),its[i]? =some u/\ds[i]? =some d'/\(b=true↔d'=d):=fun u=>by
  by_cases h: ∃i:Nat,its[i]? =some u
  ·obtain⟨i,hi'⟩:=h
   obtain⟨b,d',h1,h2,h3⟩:=one i u hi';exact⟨b,fun _=>⟨h2,i,d',hi',h1,h3⟩⟩
  ·exact⟨true,fun z=>absurd z h⟩
 refine⟨fun u=>Classical.choose (each u),fun u hu'=>(a3N (each u) (a1A.mp hu')).1,fun i u d0 eu ed=>?_⟩
 obtain⟨_,j,d',g1,g2,g3⟩:=a3N (each u) ⟨i,eu⟩
 rw[g3]
 obtain⟨h1,_⟩:=a0B.mp ed
 obtain⟨y,ey⟩: ∃y,xs[i]? =some y:=⟨_,a0A (by lia)⟩
 obtain⟨h4,_⟩:=a0B.mp g2
 obtain⟨z,ez⟩: ∃z,xs[j]? =some z:=⟨_,a0A (by lia)⟩
 obtain⟨u1,e1,r1⟩:=Vals.get r ey
 obtain⟨u2,e2,r2⟩:=Vals.get r ez
 rw[eu]at e1
 rw[g1]at e2
 cases e1
 cases e2
 have yz:y=z:=b7w (hi i d0 y ed ey) (hi j d' z g2 ez) r1 r2
 subst yz
 have dd:d'=d0:=b5p I n (hi j d' y g2 ez) (hi i d0 y ed ey)
 rw[dd]
theorem b4k(hu:X.A.units+64<cLine):MtR X "list.index" (c3r X.K):=by
 intro pins s σ H x vs v us Q I rx rv h
 obtain⟨l,y,m,d,ds,xs,j,rfl,rfl,hl,ll,hd,hi,hn,ej,no,q⟩:=h
 cases rx
 obtain⟨u,rfl,ru⟩:=rv.one
 obtain⟨its,r,⟨⟨c1,d1,k1,s1⟩,n,e,ec,ed,ek⟩,hz⟩:=I.list hl
 simp only at ec ed ek
 subst ec ed ek
 obtain⟨eq,h1,h2⟩:=d4d hu I ru r ll hd hi hn
 have lr:=r.length
 have lj:=(a0B.mp ej).1
 rw[a1B]at hz
 refine call_meets F.slot_list_index ⟨_,e,rfl⟩ F.entry_list_index (F.args_list_index_2 _ _) (SeqAt.list_indexAt l its.toArray n none s1 u eq j (by simp only[List.size_toArray];lia) (by lia) ?_ ?_)
  ⟨e,fun y hy=>h1 y (by simpa using hy),⟨.int (j:Nat),H,I.tok _,⟨_,rfl⟩,q⟩⟩
 ·show eq its[j]=true
  exact(h2 j _ d (a0A (by lia)) ej).mpr rfl
 ·intro k hk1 hk2
  show eq its[k]=false
  have hk:k<ds.length:=by lia
  cases z:eq its[k]with
  |false=>rfl
  |true=>
   have z2:=(h2 k _ _ (a0A (by lia)) (a0A hk)).mp z;exact absurd (by rw[a0A hk,z2]) (no k hk2)
theorem d1e{X:Cx}{K:W.Frag}{e:Expr}{T:String}{to:TE}{t:TA}(r:W.Frag->V->List V->Hp->VK->Prop)(hK:X.K=K)(h:PE X e (tBM X.K T (r X.K) to t)):PE X e (tBM K T (r K) to t):=hK▸h
end
section
variable{P:Pg}{w:World}{A:Ar}{E:VP}{s:Sh}{it d:Addr}{i ep:Nat}{es:Array DictEntry}
abbrev a4u(d:Addr)(i n ep:Nat):Obj:={cls:= .type "dict_keyiterator",data:= .fields #[.ref d,.int i 0,.int n 0,.int ep 0]}
theorem b4l{en:DictEntry}{Q:Option Vl->Sh->Prop}(G:s.heap.get? it=some (a4u d i es.size ep))(L:Lies s.heap d es ep)(hx:es[i]? =some en)
  (q: ∀h',h'.get? it=some (a4u d (i+1) es.size ep)->Heap.SameBut it s.heap h'->Q (some en.key) {s with heap:=h'}):wpAny (model P w) A (pyNext (.ref it)) Q E s:=by
 obtain⟨o,ho,_,hd⟩:=L
 have ty:s.TypeIs (.ref it) "dict_keyiterator":=⟨_,G,rfl⟩
 unfold pyNext
 refine a0C (a5K (a2Q (name:=Str.ofString "__next__") ty a2T (a2H a2T ty a7X ?_ (a7O _))))
 refine a0C (a0F (a0C (a0C ?_)))
 refine a0C (a4H ty (a0F (a0C (a6K G rfl ?_))))
 have own2:Builtin.Dict_items.ownsTuple "dict_keyiterator"=false:=by decide
 simp only[own2,Bool.false_eq_true,if_false]
 refine show wpAny _ _ (if(Value.ref d==Value.none)=true then _ else _) _ _ s from(if_neg (show ¬((Value.ref d==Value.none)=true)from a1M))▸a0C (a0F (a0C (a4M ho hd ?_)))
 rw[if_neg (by simp)]
 refine a0C (a0F (a0C (a6A ho hd ?_)))
 rw[if_neg (by simp)]
 refine a0F ?_
 have at0:(if((i:Nat):Int)<0 then none else es[((i:Nat):Int).toNat]?)=some en:=by
  rw[if_neg (by lia),a1W]
  exact hx
 show wpAny _ _ (match (if((i:Nat):Int)<0 then none else es[((i:Nat):Int).toNat]?)with|some e=>_|none=>_) _ _ s
 rw[at0]
 refine a0C (a0C (a4H ty (a0F (a0C (wpAny_isOneOf_keyiter ty ?_)))))
 refine show wpAny _ _ (setField (.ref it) 1 (rawInt ((i:Int)+1)) >>= _) _ _ s from a0C (a3B G (by simp) fun h1 e1 s1=>wpAny_bind (wpAny_holding ?_))
 have e1':h1.get? it=some (a4u d (i+1) es.size ep):=by
  have z:((i+1:Nat):Int)=(i:Int)+1:=by lia
  unfold a4u
  rw[z]
  simpa[rawInt]using e1
 have ty1:Shared.TypeIs {s with heap:=h1} (.ref it) "dict_keyiterator":=⟨_,e1',rfl⟩
 refine a0C (wpAny_isOneOf_keyiter ty1 ?_)
 exact show wpAny _ _ (pure en.key) _ _ {s with heap:=h1}from a0F (a0F ⟨_,rfl,a0F (q h1 e1' s1)⟩)
theorem b7x{Q:Option Vl->Sh->Prop}(hh:A.handled=none)(G:s.heap.get? it=some (a4u d i es.size ep))(L:Lies s.heap d es ep)(hx:es[i]? =none)
  (q: ∀h',Heap.ExtBut it s.heap h'->Q none {s with heap:=h'}):wpAny (model P w) A (pyNext (.ref it)) Q E s:=by
 obtain⟨o,ho,_,hd⟩:=L
 have ty:s.TypeIs (.ref it) "dict_keyiterator":=⟨_,G,rfl⟩
 unfold pyNext
 refine a0C (a5K (a2Q (name:=Str.ofString "__next__") ty a2T (a2H a2T ty a7X ?_ (a7O _))))
 refine a0C (a0F (a0C (a0C ?_)))
 refine a0C (a4H ty (a0F (a0C (a6K G rfl ?_))))
 have own2:Builtin.Dict_items.ownsTuple "dict_keyiterator"=false:=by decide
 simp only[own2,Bool.false_eq_true,if_false]
 refine show wpAny _ _ (if(Value.ref d==Value.none)=true then _ else _) _ _ s from(if_neg (show ¬((Value.ref d==Value.none)=true)from a1M))▸a0C (a0F (a0C (a4M ho hd ?_)))
 rw[if_neg (by simp)]
 refine a0C (a0F (a0C (a6A ho hd ?_)))
 rw[if_neg (by simp)]
 refine a0F ?_
 have at0:(if((i:Nat):Int)<0 then none else es[((i:Nat):Int).toNat]?)=none:=by
  rw[if_neg (by lia),a1W]
  exact hx
 show wpAny _ _ (match (if((i:Nat):Int)<0 then none else es[((i:Nat):Int).toNat]?)with|some e=>_|none=>_) _ _ s
 rw[at0]
 refine a0C (a0C (a4H ty (a0F ?_)))
 refine show wpAny _ _ (setField (.ref it) 0 .none >>= _) _ _ s from a0C (a3B G (by simp) fun h1 e1 sb=>?_)
 refine a0C (m:=newExc _ _) ?_
 simp only[newExc,newTuple]
 refine a0C (a2N ?_ (by size_fits))
 refine a0C (m:=firstArgMember _ _) (a9Q (a:=Value.none) (by first|rfl|(unfold firstArgMember;rfl)) (wpAny_newObj_type ?_ (by size_fits)))
 refine a8K (by simpa using hh) (wpAny_bind (wpAny_isInstance (T:="StopIteration") (b:=true) ⟨_,Heap.get?_push_size _ rfl,rfl⟩ isSubtype_stop (wpAny_pure ?_)))
 exact q _ fun b o nb z=>a0I _ (a0I _ (sb.extBut b o nb z))
theorem b4m{Q:VP}(nd:(d==sysModules)=false)(L:Lies s.heap d es ep)(q:Q (.ref s.heap.objs.size) {s with heap:=s.heap.push (a4u d 0 es.size ep)}):wpAny (model P w) A (pyIter (.ref d)) Q E s:=by
 obtain⟨o,ho,x,hd⟩:=L
 have ty:s.TypeIs (.ref d) "dict":=⟨o,ho,x.1⟩
 refine a5E ty F.slot_dict_iter (a2H F.slot_dict_iter ty F.entry_dict_iter ?_ (F.args_dict_iter_1 _))
 unfold Builtin.«dict.__iter__» Builtin.Dict.dictSlotNone
 refine a0C (a0C (wpAny_notOrdered_dict ty ?_))
 refine show wpAny _ _ (pure (Value.ref d)) _ _ s from a0F (show wpAny _ _ (Builtin.Dict.showsAll d >>= _) _ _ s from ?_)
 have all:Builtin.Dict.showsAll d=pure ():=by
  unfold Builtin.Dict.showsAll
  rw[nd]
  rfl
 rw[all]
 refine a0C (a0F (a0C (a4M ho hd (a0C (a6A ho hd ?_)))))
 exact a0C (a2N (a0F ⟨_,rfl,"dict_keyiterator",_,⟨_,a0V _ rfl,rfl⟩,a2T.lookup,q⟩))
theorem d4e(hh:A.handled=none)(hne:d≠it):Walks P w A it [it,d] [it] es.size (fun i v=> ∃en,es[i]? =some en/\v=en.key) (fun i h=>h.get? it=some (a4u d i es.size ep)/\Lies h d es ep) where
 sub:=fun b hb=>a1C.mpr (.inl (a0H.mp hb))
 frame:=fun i h h' st k=>⟨k it (a0S ..) _ st.1,let⟨o,e,x⟩:=st.2;⟨o,k d (a0X _ (a0H.mpr rfl)) _ e,x⟩⟩
 item:=fun i s Q E hi st q=>by
  obtain⟨en,he⟩: ∃en,es[i]? =some en:=⟨_,a1R hi⟩
  refine b4l st.1 st.2 he fun h' e1 sb=>q en.key h' s.toks ⟨en,he,rfl⟩ ⟨e1,let⟨o,e,x⟩:=st.2;⟨o,sb.extBut _ _ hne e,x⟩⟩ fun b o nb e=>sb.extBut _ _ (fun z=>nb (a0H.mpr z)) e
 done:=fun s Q E st q=>b7x hh st.1 st.2 (a7C (a0J _)) fun h' x=>q h' s.toks fun b o nb e=>x b o (fun z=>nb (a0H.mpr z)) e
 self:=fun i s Q E st q=>by
  have ty:s.TypeIs (.ref it) "dict_keyiterator":=⟨_,st.1,rfl⟩
  refine a5E ty a4L (a2H a4L ty a7Y ?_ (a7P _))
  exact show wpAny _ _ (ret (.ref it)) _ _ s from a0F ⟨_,rfl,"dict_keyiterator",_,ty,a2T.lookup,q⟩
theorem srcK(nd:(d==sysModules)=false):PySem.W.KdlSrc P w "dict" d d es.size (fun i v=> ∃en,es[i]? =some en/\v=en.key) (fun h=>Lies h d es ep) where
 type:=fun _ e=>e.typeIs
 there:=fun _ ⟨_,e,_⟩=>⟨a0T e,a0T e⟩
 keep:=fun _ _ ⟨o,e,x⟩ k=>⟨o,k d (.inl rfl) _ e,x⟩
 notList:=by decide
 notTuple:=by decide
 hint:=fun _ _ _ _ e q=>PySem.W.kdl_hint_dict e.typeIs q
 iter:=fun _ _ hh e=>⟨_,_,fun _ _ q=>b4m nd e q,d4e hh (a1J (let⟨_,z,_⟩:=e;a0T z)),a0V _ rfl,let⟨o,z,x⟩:=e;⟨o,a0I _ z,x⟩⟩
end
open PySem PySem.W PyProof.Rows
section
variable(n:Nat)(k:Nat->Int)
def KOk{α:Type}:KasT α->(α->Prop)->Prop
 | .ret a,R=>R a
 | .ask i j f,R=>i<n/\j<n/\KOk (f (decide (k i<k j))) R
def Arr(p:Array Nat):Prop:=p.Perm (List.range n).toArray
def SUp(p:Array Nat)(m:Nat):Prop:= ∀a b,a<b->b<m->k (p.getD a 0)<k (p.getD b 0)
def SDn(p:Array Nat)(m:Nat):Prop:= ∀a b,a<b->b<m->k (p.getD b 0)<k (p.getD a 0)
variable{n k}
theorem KOk.bind{α β:Type}{f:α->KasT β}{R:α->Prop}{R':β->Prop}(h: ∀a,R a->KOk n k (f a) R'): ∀t:KasT α,KOk n k t R->KOk n k (t.bind f) R'
 | .ret a,q=>h a q
 | .ask i j g,q=>⟨q.1,q.2.1,KOk.bind h (g _) q.2.2⟩
theorem Arr.size{p:Array Nat}(h:Arr n p):p.size=n:=by
 have z:=(a2D.mp h).length_eq
 simpa using z
theorem Arr.at{p:Array Nat}(h:Arr n p){i:Nat}(hi:i<n):p.getD i 0<n/\p[i]? =some (p.getD i 0):=by
 have hs:=h.size
 have e:p[i]? =some (p.getD i 0):=by
  rw[a2L,a1R (by lia)]
  rfl
 refine⟨?_,e⟩
 have m:p.getD i 0∈p:=a7Q e
 have m2:=(a8S h).mp m
 simpa using m2
theorem Arr.inj{p:Array Nat}(h:Arr n p){i j:Nat}(hi:i<n)(hj:j<n)(e:p.getD i 0=p.getD j 0):i=j:=by
 have nd:p.toList.Nodup:=(a2D.mp h).nodup_iff.mpr (by simpa using List.nodup_range)
 have e1:=(h.at hi).2
 have e2:=(h.at hj).2
 rw[<-e]at e2
 rw[<-a1X]at e1 e2
 exact(a2G (by rw[a0K,h.size];exact hi) nd).mp (e1.trans e2.symm)
variable(inj: ∀i j,i<n->j<n->k i=k j->i=j)
include inj
end
end L2
namespace L2
open PySem PySem.Spec PySem.W PyProof.Rows
section
variable{P:Pg}{w:World}{A:Ar}{E:VP}{s:Sh}{a:Addr}{vs ks:Vs}{k:Nat->Int}
def d1f(P:Pg)(w:World)(A:Ar)(ks:Vs)(lt:Nat->Nat->Bool)(s:Sh):Prop:=
 wpAny (model P w) A (keyKind' ks.toArray) (fun κ s'=>s'=s/\ ∀i j (C:Bool->Sh->Prop),i<ks.length->j<ks.length->C (lt i j) s->kas_ask P w A κ ks i j C s) (fun _ _=>False) s
abbrev a1q(vs:Vs)(p:Array Nat):Vs:=p.toList.map fun i=>vs.getD i Value.none
theorem a7s(vs:Vs):a1q vs (List.range vs.length).toArray=vs:=by
 unfold a1q
 refine a3X fun i=>?_
 rw[a6N,a0G]
 by_cases h:i<vs.length
 ·rw[a3V h,a0A h]
  show some (vs.getD i Value.none)=_
  rw[a0N,a0A h]
  rfl
 ·rw[a1Y (by simp;lia),List.getElem?_eq_none (by lia)]
  rfl
theorem c3s(hl:ks.length=vs.length):(ks.toArray.zip vs.toArray).map (·.2)=vs.toArray:=by
 apply Array.toList_inj.mp
 rw[a7Z,ksk_zip]
 exact List.map_snd_zip (by simp[hl])
theorem b7y{hs:Heap}{b:Addr}{x:Obj}(e:hs.get? b=some x)(o1 o2:Obj):((hs.push o1).push o2).get? b=some x:=a0I _ (a0I _ e)
end
theorem a7f{α:Type}{p q:α->Bool}: ∀{xs:List α},(∀z∈xs,p z=true->q z=true)->(∃z∈xs,p z=false/\q z=true)->xs.countP p<xs.countP q
 | [],_,h=>by obtain⟨z,hz,_⟩:=h;cases hz
 | x::xs,mono,h=>by
  have le:xs.countP p<=xs.countP q:=List.countP_mono_left fun z hz=>mono z (a0X _ hz)
  rw[a8A,a8A]
  obtain⟨z,hz,h1,h2⟩:=h
  rcases a1C.mp hz with e|hz
  ·subst e
   rw[h1,h2]
   simp
   lia
  ·have ih:=a7f (xs:=xs) (fun y hy=>mono y (a0X _ hy)) ⟨z,hz,h1,h2⟩
   have m:=mono x (a0S ..);cases e1:p x with
   |false=>cases q x<;>simp<;>lia
   |true=>rw[m e1];simp;lia
structure Total{α:Type}(lt:α->α->Bool)(xs:List α):Prop where
 irr: ∀x,lt x x=false
 trans: ∀x y z,lt x y=true->lt y z=true->lt x z=true
 tot: ∀x∈xs,∀y∈xs,x≠y->lt x y=true∨lt y x=true
def a3f{α:Type}(lt:α->α->Bool)(xs:List α)(x:α):Int:=((xs.countP fun y=>lt y x):Nat)
section
variable{α:Type}{lt:α->α->Bool}{xs:List α}(T:Total lt xs)
include T
theorem Total.up{x y:α}(hx:x∈xs)(h:lt x y=true):a3f lt xs x<a3f lt xs y:=by
 unfold a3f
 have z:=a7f (xs:=xs) (p:=fun z=>lt z x) (q:=fun z=>lt z y) (fun z _ hz=>T.trans _ _ _ hz h) ⟨x,hx,T.irr x,h⟩
 lia
theorem Total.asks{x y:α}(hx:x∈xs)(hy:y∈xs):decide (a3f lt xs x<a3f lt xs y)=lt x y:=by
 by_cases e:x=y
 ·subst e
  rw[T.irr]
  exact a1L (Int.lt_irrefl _)
 ·rcases T.tot x hx y hy e with h|h
  ·rw[h]
   exact a1E (T.up hx h)
  ·have:=T.up hy h
   rw[a1L (by lia)];cases z:lt x y with
   |false=>rfl
   |true=>
    have:=T.up hx z
    lia
theorem Total.same{x y:α}(hx:x∈xs)(hy:y∈xs)(h:a3f lt xs x=a3f lt xs y):x=y:=by
 refine Classical.byContradiction fun e=>?_
 rcases T.tot x hx y hy e with z|z
 ·have:=T.up hx z
  lia
 ·have:=T.up hy z
  lia
end
theorem a9l: ∀(xs ys:Nsq),xs≠ys->ltl xs ys=true∨ltl ys xs=true
 | [],[],h=>absurd rfl h
 | [],y::ys,_=> .inl (by unfold ltl;rw[show b0e [] (y::ys)=none from rfl];simp)
 |x::xs,[],_=> .inr (by unfold ltl;rw[show b0e [] (x::xs)=none from rfl];simp)
 | x::xs,y::ys,h=>by
  by_cases e:x=y
  ·subst e
   rcases a9l xs ys (fun z=>h (by rw[z]))with q|q
   ·exact .inl (by rw[a3l];exact q)
   ·exact .inr (by rw[a3l];exact q)
  ·rw[a0s e,a0s (a3K e)]
   rcases Nat.lt_or_gt_of_ne e with q|q
   ·exact .inl (a1E q)
   ·exact .inr (a1E q)
theorem b7z: ∀(xs ys zs:Nsq),ltl xs ys=true->ltl ys zs=true->ltl xs zs=true
 | xs,ys,[],_,h2=>by
  have:ltl ys []=false:=by
   unfold ltl;rw[show b0e ys []=none by cases ys<;>rfl]
   simp
  rw[this]at h2
  cases h2
 | [],ys,z::zs,_,_=>by unfold ltl;rw[show b0e [] (z::zs)=none from rfl];simp
 | x::xs,[],z::zs,h1,_=>by
  have:ltl (x::xs) []=false:=by
   unfold ltl;rw[show b0e (x::xs) []=none from rfl]
   simp
  rw[this]at h1
  cases h1
 | x::xs,y::ys,z::zs,h1,h2=>by
  by_cases e1:x=y
  ·subst e1
   by_cases e2:x=z
   ·subst e2
    rw[a3l]at h1 h2⊢;exact b7z xs ys zs h1 h2
   ·rw[a0s e2]at h2⊢
    exact h2
  ·rw[a0s e1]at h1
   have l1:=a2F h1;by_cases e2:y=z
   ·subst e2
    rw[a0s e1];exact h1
   ·rw[a0s e2]at h2
    have l2:=a2F h2;rw[a0s (by lia)];exact a1E (by lia)
theorem c3t(xs:LN):Total ltl xs:=⟨a5s,b7z,fun x _ y _ e=>a9l x y e⟩
section
variable{P:Pg}{w:World}{A:Ar}{E:VP}{s:Sh}
theorem c9i{i j:Int}{t u:Tok}(f:Bool){Q:Bool->Sh->Prop}(h:Q (decide (i<j)) s):wpAny (model P w) A (oneLt' f (.int i t) (.int j u)) Q E s:=by
 cases f with
 |true=>exact oneLt_int h
 |false=>exact kat_one _ _ (PyProof.Rows.lt_int h)
theorem b8a{fin:Bool}{Q:Bool->Sh->Prop}: ∀{ns ms:Nsq} {xs ys:Vs} (i:Nat),Vals (ns.map nv) xs->Vals (ms.map nv) ys->Q ((b0e ns ms).getD fin) s->KatLex P w A true fin Q (xs.zip ys) i s
 | [],ms,_,_,i,.nil,_,q=>by
  rw[show b0e [] ms=none by cases ms<;>rfl]at q
  rw[List.zip_nil_left]
  exact kat_nil q
 |n::ns,[],_,_,i,.cons _ _,.nil,q=>by
  rw[List.zip_nil_right]
  exact kat_nil q
 | n::ns,m::ms,_,_,i,.cons ⟨t,e1⟩ r1,.cons ⟨u,e2⟩ r2,q=>by
  subst e1 e2
  refine kat_cons ?_
  have z:=eqAt_int (A:=A) (s:=s) (i:=(n:Int)) (j:=(m:Int)) (t:=t) (u:=u)
  by_cases e:n=m
  ·rw[a1E (by lia)]at z
   rw[b0e,if_pos e]at q;exact z P w _ _ (kat_yes (b8a (i+1) r1 r2 q))
  ·rw[a1L (by lia)]at z
   rw[b0e,if_neg e]at q;refine z P w _ _ (kat_no (c9i _ ?_));have e3:decide ((n:Int)<(m:Int))=decide (n<m):=by simp
   rw[e3];exact q
def TupN(h:Heap)(v:Vl)(ns:Nsq):Prop:= ∃a o its c,v= .ref a/\h.get? a=some o/\o.cls= .type "tuple"/\o.data= .seq its c/\Vals (ns.map nv) its.toList
theorem b0v{h:Heap}: ∀{vs:Vs} {ts:LN},vs.length=ts.length->(∀(i:Nat) v t,vs[i]? =some v->ts[i]? =some t->TupN h v t/\t≠[])-> ∃fs:Vs,KatTups h vs fs/\fs.length=vs.length/\ ∀f∈fs,∃i t,f= .int i t
 | [],[],_,_=>⟨[],.nil,rfl,fun _ z=>nomatch z⟩
 | [],_::_,l,_=>by simp at l
 |_::_,[],l,_=>by simp at l
 | v::vs,t::ts,l,hv=>by
  obtain⟨fs,k1,k2,k3⟩:=b0v (h:=h) (vs:=vs) (ts:=ts) (by simpa using l) fun i v t e1 e2=>hv (i+1) v t (by simpa using e1) (by simpa using e2)
  obtain⟨⟨a,o,its,c,rfl,h1,h2,h3,h4⟩,ne⟩:=hv 0 v t rfl rfl
  obtain⟨n,ns,rfl⟩: ∃n ns,t=n::ns:=by
   cases t with
   |nil=>exact absurd rfl ne
   |cons n ns=>exact⟨n,ns,rfl⟩
  obtain⟨its'⟩:=its
  cases h4 with
  | cons r _=>
   obtain⟨t0,rfl⟩:=r;exact⟨_::fs,.cons h1 h2 h3 rfl k1,by simp[k2],fun f hf=>by
    rcases a1C.mp hf with e|hf
    ·exact⟨_,_,e⟩
    ·exact k3 f hf⟩
theorem c7r{vs:Vs}{ts:LN}(l:vs.length=ts.length)(n1:1<=vs.length)(hv: ∀(i:Nat) v t,vs[i]? =some v->ts[i]? =some t->TupN s.heap v t/\t≠[]):d1f P w A vs (fun i j=>ltl (ts.getD i []) (ts.getD j [])) s:=by
 obtain⟨fs,k1,k2,k3⟩:=b0v l hv
 refine kat_kind (T:= .type "int") k1 (by lia) (fun f hf=>?_) (by decide) ⟨rfl,fun i j C li lj hC=>?_⟩
 ·obtain⟨i,t,rfl⟩:=k3 f hf
  exact .now
 ·have at0: ∀{i:Nat},i<vs.length->TupN s.heap (vs.getD i Value.none) (ts.getD i []):=fun {i} li=>by
   have e1:vs[i]? =some (vs.getD i Value.none):=by rw[a0N,a0A li];rfl
   have e2:ts[i]? =some (ts.getD i []):=by rw[a0N,a0A (by lia)];rfl
   exact(hv i _ _ e1 e2).1
  obtain⟨x,ox,xs,nx,ex,x1,x2,x3,x4⟩:=at0 li
  obtain⟨y,oy,ys,ny,ey,y1,y2,y3,y4⟩:=at0 lj
  show wpAny (model P w) A (keyLt' _ (vs.getD i Value.none) (vs.getD j Value.none)) C _ s
  rw[ex,ey]
  refine kat_lt x1 x3 y1 y3 (b8a 0 x4 y4 ?_)
  have l1:(ts.getD i []).length=xs.size:=by have:=x4.length;simpa using this
  have l2:(ts.getD j []).length=ys.size:=by have:=y4.length;simpa using this
  rw[<-l1,<-l2]
  exact hC
end
theorem b8b{α:Type}{xs:List α}{p:Array Nat}{d:α}(ar:Arr xs.length p):(p.toList.map fun i=>xs.getD i d).Perm xs:=by
 have z:=(a2D.mp ar).map fun i=>xs.getD i d
 refine z.trans (.of_eq ?_)
 refine a3X fun i=>?_
 rw[a6N,a0G]
 by_cases h:i<xs.length
 ·rw[a3V h,a0A h]
  show some (xs.getD i d)=_
  rw[a0N,a0A h]
  rfl
 ·rw[a1Y (by simp;lia),List.getElem?_eq_none (by lia)]
  rfl
theorem c9j{p:Array Nat}{n i:Nat}(ar:Arr n p)(hi:i<n):p.toList[i]? =some (p.getD i 0):=by
 rw[a1X]
 exact(ar.at hi).2
theorem a7t{α:Type}{lt:α->α->Bool}{ts:List α}{d:α}{p:Array Nat}(T:Total lt ts)(ar:Arr ts.length p)(up:SUp (fun i=>a3f lt ts (ts.getD i d)) p ts.length):(p.toList.map fun i=>ts.getD i d).Pairwise fun x y=>lt x y=true:=by
 rw[a2S]
 intro i j hi hj ij
 have li:i<ts.length:=by rw[a0D,a0K,ar.size]at hi;exact hi
 have lj:j<ts.length:=by rw[a0D,a0K,ar.size]at hj;exact hj
 have e1:(p.toList.map fun i=>ts.getD i d)[i]? =some (ts.getD (p.getD i 0) d):=by rw[a0G,c9j ar li];rfl
 have e2:(p.toList.map fun i=>ts.getD i d)[j]? =some (ts.getD (p.getD j 0) d):=by rw[a0G,c9j ar lj];rfl
 rw[a0A hi]at e1
 rw[a0A hj]at e2
 rw[a1U e1,a1U e2]
 have u:=up i j ij lj
 have m: ∀{i:Nat},i<ts.length->ts.getD (p.getD i 0) d∈ts:=fun {i} h=>by
  have:=(ar.at h).1
  rw[a0N,a0A this]
  exact a2O _
 rw[<-T.asks (m li) (m lj)]
 exact a1E u
structure TupsAt(H:Hp)(bs:As)(us:LN):Prop where
 len:bs.length=us.length
 is: ∀(i:Nat) (b:Addr) (u:Nsq),bs[i]? =some b->us[i]? =some u->H b=some (.tup (u.map nv))
theorem TupsAt.same{H H':Hp}{bs:As}{us:LN}(h:TupsAt H bs us)(g:Same H H'):TupsAt H' bs us:=⟨h.len,fun i b u e1 e2=>g _ _ (h.is i b u e1 e2)⟩
theorem TupsAt.pick{H:Hp}{bs:As}{us:LN}(h:TupsAt H bs us){p:Array Nat}(ar:Arr us.length p):TupsAt H (p.toList.map fun i=>bs.getD i 0) (p.toList.map fun i=>us.getD i []):=by
 refine⟨by simp,fun i b u e1 e2=>?_⟩
 rw[a0G]at e1 e2
 obtain⟨j,ej,rfl⟩:=a0O.mp e1
 rw[ej]at e2
 cases e2
 have lj:j<us.length:=by
  have m:=(a2D.mp ar).mem_iff.mp (a0E ej)
  simpa using m
 have lb:=h.len
 refine h.is j _ _ ?_ ?_
 ·rw[a0N,a0A (by lia)]
  rfl
 ·show us[j]? =some (us.getD j [])
  rw[a0N,a0A lj]
  rfl
section
variable{X:Cx}
theorem tup_n{P:Pg}{w:World}{H:Hp}{h:Heap}{a:Addr}{t:Nsq}(ok:HOk P w H h)(e:H a=some (.tup (t.map nv))):TupN h (.ref a) t:=by
 obtain⟨_,its,r,o,h1,h2,c,h3,_⟩:=(show ObjOk P w H h a (.tup (t.map nv))from ok a _ e)
 exact⟨a,o,its.toArray,c,rfl,h1,h2,h3,by simpa using r⟩
theorem a4a{α:Type}{xs:List α}{d:α}{i:Nat}(h:i<xs.length):xs[i]? =some (xs.getD i d)/\xs.getD i d∈xs:=by
 have e:xs[i]? =some (xs.getD i d):=by
  rw[a0N,a0A h]
  rfl
 exact⟨e,a0E e⟩
theorem b8c{α:Type}{lt:α->α->Bool}{ts:List α}{d:α}(T:Total lt ts)(nd:ts.Nodup): ∀i j,i<ts.length->j<ts.length->a3f lt ts (ts.getD i d)=a3f lt ts (ts.getD j d)->i=j:=fun i j hi hj e=>by
 have z:=T.same (a4a hi).2 (a4a hj).2 e
 refine(a2G hi nd).mp ?_
 rw[(a4a (d:=d) hi).1,(a4a (d:=d) hj).1,z]
end
abbrev d0:Keyed:=(Value.none,Value.none)
structure Asks(M:Model)(A:Ar)(s:Sh)(κ:SortKind)(r:Keyed->Int)(a₀:Array Keyed):Prop where
 lt: ∀(x y:Keyed) (C:Bool->Sh->Prop),x∈a₀->y∈a₀->C (decide (r x<r y)) s->wpAny M A (keyLt' κ x.1 y.1) C (fun _ _=>False) s
 ne: ∀i j,i<a₀.size->j<a₀.size->i≠j->r (a₀.getD i d0)≠r (a₀.getD j d0)
structure StOk(κ:SortKind)(a₀:Array Keyed)(st:SortSt):Prop where
 kind:kindOf st=κ
 perm:(arrOf st).Perm a₀
 ok:failedOf st=none
section
variable{M:Model}{A:Ar}{E:VP}{s:Sh}{κ:SortKind}{r:Keyed->Int}{a₀ xs ys:Array Keyed}
abbrev kx(r:Keyed->Int)(xs:Array Keyed)(i:Nat):Int:=r (xs.getD i d0)
theorem a4v{i:Nat}(h:i<xs.size):xs[i]? =some (xs.getD i d0):=by
 rw[a2L,a1R h]
 rfl
theorem a7g{i:Nat}{x:Keyed}(h:xs[i]? =some x):xs.getD i d0=x:=by
 rw[a2L,h]
 rfl
theorem a2j{i j:Nat}(h:xs[i]? =ys[j]?):xs.getD i d0=ys.getD j d0:=by
 rw[a2L,a2L,h]
theorem a2s(p:xs.Perm a₀):xs.size=a₀.size:=by
 have z:=(a2D.mp p).length_eq
 simpa using z
theorem a8i(p:xs.Perm a₀){i:Nat}(h:i<a₀.size):xs.getD i d0∈a₀:=(a8S p).mp (a7Q (a4v (by rw[a2s p];exact h)))
theorem Asks.pairs(K:Asks M A s κ r a₀):(a₀.toList.map r).Nodup:=by
 refine a2S.mpr fun i j hi hj ij=>?_
 rw[a5Q,a5Q]
 rw[a0D,a0K]at hi hj
 have z:=K.ne i j hi hj (by lia)
 rw[a2L,a2L,a1R hi,a1R hj]at z
 exact z
theorem Asks.apart(K:Asks M A s κ r a₀)(p:xs.Perm a₀){i j:Nat}(hi:i<a₀.size)(hj:j<a₀.size)(ij:i≠j):kx r xs i≠kx r xs j:=by
 have nd:(xs.toList.map r).Nodup:=((a2D.mp p).map r).nodup_iff.mpr K.pairs
 have sz:=a2s p
 intro z
 have e: ∀k,k<a₀.size->(xs.toList.map r)[k]? =some (kx r xs k):=fun k hk=>by
  rw[a0G,a1X,a4v (by lia)]
  rfl
 exact ij ((a2G (by rw[a0D,a0K];lia) nd).mp (by rw[e i hi,e j hj,z]))
theorem b4n{st:SortSt}{x y:Keyed}{Q:Option Bool->SortSt->Prop}(K:Asks M A s κ r a₀)(hk:kindOf st=κ)(hx:x∈a₀)(hy:y∈a₀)(h:Q (some (decide (r x<r y))) st):wpS M A E s (lt' x y) Q st:=by
 rw[lt'_eq]
 refine a0W (a8M ?_)
 rw[hk]
 refine a0W (a9P (a5K (a3I (K.lt x y (fun b s'=>s'=s/\b=decide (r x<r y)) hx hy ⟨rfl,rfl⟩) (fun b s' hb=>?_) fun _ _ z=>z.elim)))
 obtain⟨rfl,rfl⟩:=hb
 exact⟨rfl,a1D h⟩
theorem a0v{σ0:SortSt}{i:Nat}{Q:Keyed->SortSt->Prop}(hi:i<xs.size)(h:Q (xs.getD i d0) σ0):wpS M A E s (elem' xs i) Q σ0:=by
 rw[elem'_eq,a4v hi]
 exact a1D h
theorem a9m{st:SortSt}{i j:Nat}{Q:Option Bool->SortSt->Prop}(K:Asks M A s κ r a₀)(B:StOk κ a₀ st)(hi:i<a₀.size)(hj:j<a₀.size)(h:Q (some (decide (kx r (arrOf st) i<kx r (arrOf st) j))) st):wpS M A E s (ltAt' i j) Q st:=by
 have sz:=a2s B.perm
 rw[ltAt'_eq]
 refine a0W (a8M ?_)
 exact a0W (a0v (by lia) (a0W (a0v (by lia) (b4n K B.kind (a8i B.perm hi) (a8i B.perm hj) h))))
def Ris(r:Keyed->Int)(xs:Array Keyed)(lo hi:Nat):Prop:= ∀a b,lo<=a->a<b->b<hi->kx r xs a<kx r xs b
def Fal(r:Keyed->Int)(xs:Array Keyed)(lo hi:Nat):Prop:= ∀a b,lo<=a->a<b->b<hi->kx r xs b<kx r xs a
def Out(xs ys:Array Keyed)(lo hi:Nat):Prop:= ∀k,k<lo∨hi<=k->ys[k]? =xs[k]?
theorem Out.refl(xs:Array Keyed)(lo hi:Nat):Out xs xs lo hi:=fun _ _=>rfl
theorem Out.trans{zs:Array Keyed}{lo hi:Nat}(h:Out xs ys lo hi)(h':Out ys zs lo hi):Out xs zs lo hi:=fun k z=>(h' k z).trans (h k z)
theorem Out.wide{lo hi lo' hi':Nat}(h:Out xs ys lo hi)(h1:lo'<=lo)(h2:hi<=hi'):Out xs ys lo' hi':=fun k z=>h k (by lia)
theorem Out.ris{lo hi a b:Nat}(h:Out xs ys lo hi)(h':Ris r xs a b)(d:b<=lo∨hi<=a):Ris r ys a b:=fun i j h1 h2 h3=>by
 show r (ys.getD i d0)<r (ys.getD j d0)
 rw[a2j (h i (by lia)),a2j (h j (by lia))]
 exact h' i j h1 h2 h3
theorem Ris.one{lo:Nat}:Ris r xs lo (lo+1):=fun a b h1 h2 h3=>by lia
theorem Ris.snoc{lo hi:Nat}(h:Ris r xs lo hi)(hl:lo<hi)(l:kx r xs (hi-1)<kx r xs hi):Ris r xs lo (hi+1):=fun a b h1 h2 h3=>by
 by_cases e:b=hi
 ·subst e
  by_cases e2:a=b-1
  ·subst e2
   exact l
  ·have:=h a (b-1) h1 (by lia) (by lia)
   lia
 ·exact h a b h1 h2 (by lia)
theorem Fal.snoc{lo hi:Nat}(h:Fal r xs lo hi)(hl:lo<hi)(l:kx r xs hi<kx r xs (hi-1)):Fal r xs lo (hi+1):=fun a b h1 h2 h3=>by
 by_cases e:b=hi
 ·subst e
  by_cases e2:a=b-1
  ·subst e2
   exact l
  ·have:=h a (b-1) h1 (by lia) (by lia)
   lia
 ·exact h a b h1 h2 (by lia)
theorem StOk.set{st:SortSt}(B:StOk κ a₀ st)(p:ys.Perm (arrOf st)):StOk κ a₀ (setArr st ys):=⟨B.kind,p.trans B.perm,B.ok⟩
theorem b4o{i j:Nat}(hj:j<=xs.size)(k:Nat):kx r (mirror xs i j ((j-i) /2)) k=if i<=k/\k<j then kx r xs (i+j-1-k)else kx r xs k:=by
 have e:=getElem?_mirror_all (i:=i) hj k
 by_cases h1:i<=k/\k<j
 ·rw[if_pos h1]at e⊢
  exact a1Z r (a2j e)
 ·rw[if_neg h1]at e⊢
  exact a1Z r (a2j e)
theorem c3u{st:SortSt}{lo nrem:Nat}{Q:Option Nat->SortSt->Prop}(K:Asks M A s κ r a₀)(B:StOk κ a₀ st)(hn:lo+nrem<=a₀.size)(h1:1<=nrem)
  (h: ∀n st',StOk κ a₀ st'->pendingOf st'=pendingOf st->gallopOf st'=gallopOf st->Out (arrOf st) (arrOf st') lo (lo+nrem)->1<=n->n<=nrem->Ris r (arrOf st') lo (lo+n)->Q (some n) st'):wpS M A E s (countRun' lo nrem) Q st:=by
 rw[countRun'_eq]
 have asc: ∀(m:Nat) (st':SortSt) (Q':Option (Option Nat)×Nat->SortSt->Prop),StOk κ a₀ st'->1<=m->m<=nrem->Ris r (arrOf st') lo (lo+m)->(∀n,m<=n->n<=nrem->Ris r (arrOf st') lo (lo+n)->(n<nrem->kx r (arrOf st') (lo+n)<kx r (arrOf st') (lo+n-1))->Q' (none,n) st')->
   wpS M A E s (forIn [m:nrem] ((none,m):Option (Option Nat)×Nat) fun _ __s=>do
    let __x <-ltAt' (lo+__s.snd) (lo+__s.snd-1)
    match __x with
    |some smaller=>if smaller=true then pure (ForInStep.done (none,__s.snd))else pure (ForInStep.yield (none,__s.snd+1))
    |_=>pure (ForInStep.done (some none,__s.snd))) Q' st':=fun m st' Q' B' m1 mn up q=>by
  refine a3A (I:=fun i c st''=>st''=st'/\c=(none,i)/\Ris r (arrOf st') lo (lo+i)) (fun i c st'' hi1 hi2 hI=>?_) (fun c st'' hI=>?_) ⟨rfl,rfl,up⟩
  ·obtain⟨rfl,rfl,up'⟩:=hI
   refine a0W (a9m K B' (by show lo+i<_;lia) (by show lo+i-1<_;lia) ?_);by_cases c:kx r (arrOf st'') (lo+i)<kx r (arrOf st'') (lo+i-1)
   ·rw[a1E c]
    exact a1D (q i hi1 (by lia) up' fun _=>c)
   ·rw[a1L c]
    have ne:=K.apart B'.perm (i:=lo+i) (j:=lo+i-1) (by lia) (by lia) (by lia);exact a1D ⟨rfl,rfl,up'.snoc (by lia) (by lia)⟩
  ·obtain⟨rfl,rfl,up'⟩:=hI
   rw[show max m nrem=nrem by lia]at up'⊢;exact q nrem mn (a0J _) up' fun z=>absurd z (a3Y _)
 refine a0W (asc 1 st _ B (a0J _) h1 Ris.one fun n n1 n2 up stop=>?_)
 dsimp only
 by_cases e:n=nrem
 ·rw[if_pos (by simpa using e)]
  exact a1D (h n st B rfl rfl (Out.refl _ _ _) n1 n2 up)
 rw[if_neg (by simpa using e)]
 have st1:=stop (by lia)
 by_cases e2:n>1
 ·rw[if_pos e2]
  refine a0W (a9m K B (by lia) (by lia) ?_)
  rw[a1E (up lo (lo+n-1) (a0J _) (by lia) (by lia))]
  exact a1D (h n st B rfl rfl (Out.refl _ _ _) n1 n2 up)
 rw[if_neg e2]
 have en:n=1:=by lia
 subst en
 refine a0W (a9P (a5R ⟨rfl,?_⟩))
 have fal0:Fal r (arrOf st) lo (lo+2):=fun a b h1 h2 h3=>by
  have ea:a=lo:=by lia
  have eb:b=lo+1:=by lia
  subst ea eb
  exact st1
 refine a0W (a5M (a3A (I:=fun i c st''=>st''=st/\c=(none,i,0)/\Fal r (arrOf st) lo (lo+i)) (Q:=fun c st''=>st''=st/\ ∃m,c=(none,m,0)/\2<=m/\m<=nrem/\Fal r (arrOf st) lo (lo+m)) (fun i c st'' hi1 hi2 hI=>?_) (fun c st'' hI=>?_) ⟨rfl,rfl,fal0⟩) ?_)
 ·obtain⟨rfl,rfl,fa⟩:=hI
  refine a0W (a9m K B (by show lo+i<_;lia) (by show lo+i-1<_;lia) ?_)
  by_cases c:kx r (arrOf st'') (lo+i)<kx r (arrOf st'') (lo+i-1)
  ·rw[a1E c]
   exact a1D ⟨rfl,rfl,fa.snoc (by lia) c⟩
  ·rw[a1L c]
   have ne:=K.apart B.perm (i:=lo+i) (j:=lo+i-1) (by lia) (by lia) (by lia);refine a0W (a9m K B (by show lo+i-1<_;lia) (by show lo+i<_;lia) ?_);rw[a1E (by show kx r (arrOf st'') (lo+i-1)<kx r (arrOf st'') (lo+i);lia)];exact a1D ⟨rfl,i,rfl,by lia,by lia,fa⟩
 ·obtain⟨rfl,rfl,fa⟩:=hI
  refine⟨rfl,_,rfl,by lia,by lia,fa⟩
 ·rintro c st'' ⟨rfl,m,rfl,m2,mn,fa⟩
  dsimp only
  obtain⟨m,rfl⟩: ∃k,m=k+1:=a2A fun z=>by rw[z]at m2;exact absurd m2 (by decide)
  rw[if_neg (a3Y 0)]
  rw[reverseSlice'_eq]
  have sz:=a2s B.perm
  have hle:lo+(m+1)<=(arrOf st'').size:=by lia
  have B2:StOk κ a₀ (setArr st'' (mirror (arrOf st'') lo (lo+(m+1)) ((lo+(m+1)-lo) /2))):=B.set (mirror_perm _ _ _ _)
  have up2:Ris r (mirror (arrOf st'') lo (lo+(m+1)) ((lo+(m+1)-lo) /2)) lo (lo+(m+1)):=fun a b h1 h2 h3=>by
   rw[b4o hle,b4o hle,if_pos (by lia),if_pos (by lia)];exact fa _ _ (show lo<=lo+(lo+m)-b from a8C (by lia)) (show lo+(lo+m)-b<lo+(lo+m)-a from Nat.sub_lt_sub_left (by lia) h2) (show lo+(lo+m)-a<lo+(m+1)from a3Z (by lia) (by lia))
  have out2:Out (arrOf st'') (mirror (arrOf st'') lo (lo+(m+1)) ((lo+(m+1)-lo) /2)) lo (lo+nrem):=fun k hk=>by
   rw[getElem?_mirror_all hle,if_neg (by lia)]
  refine a0W (a6F (a0W (asc (m+1) _ _ B2 (by lia) mn up2 fun n n1 n2 up stop=>?_)))
  exact a1D (h n _ B2 rfl rfl out2 (by lia) n2 up)
end
section
variable{M:Model}{A:Ar}{E:VP}{s:Sh}{κ:SortKind}{r:Keyed->Int}{a₀ xs ys:Array Keyed}
theorem b4p{src d:Nat}(hs:src<xs.size)(hd:d<=src)(k:Nat):kx r (bubble xs src d) k=if k=src-d then kx r xs src else if src-d<k/\k<=src then kx r xs (k-1)else kx r xs k:=by
 have e:=getElem?_bubble hs d hd k
 by_cases h1:k=src-d
 ·rw[if_pos h1]at e⊢
  exact a1Z r (a2j e)
 ·rw[if_neg h1]at e⊢
  by_cases h2:src-d<k/\k<=src
  ·rw[if_pos h2]at e⊢
   exact a1Z r (a2j e)
  ·rw[if_neg h2]at e⊢
   exact a1Z r (a2j e)
theorem c0b{st:SortSt}{lo n ok:Nat}{Q:Bool->SortSt->Prop}(K:Asks M A s κ r a₀)(B:StOk κ a₀ st)(hn:lo+n<=a₀.size)(hok:ok<=n)(hs:Ris r (arrOf st) lo (lo+ok))
  (h: ∀st',StOk κ a₀ st'->pendingOf st'=pendingOf st->gallopOf st'=gallopOf st->Out (arrOf st) (arrOf st') lo (lo+n)->Ris r (arrOf st') lo (lo+n)->Q true st'):wpS M A E s (binarySort' lo n ok) Q st:=by
 rw[binarySort'_eq]
 refine a0W (a5M (a3A (I:=fun k c st'=>c=(none,())/\StOk κ a₀ st'/\pendingOf st'=pendingOf st/\gallopOf st'=gallopOf st/\Out (arrOf st) (arrOf st') lo (lo+n)/\Ris r (arrOf st') lo (lo+min k n))
  (Q:=fun c st'=>c=(none,())/\StOk κ a₀ st'/\pendingOf st'=pendingOf st/\gallopOf st'=gallopOf st/\Out (arrOf st) (arrOf st') lo (lo+n)/\Ris r (arrOf st') lo (lo+n)) ?step ?fin ?init) ?post)
 case post=>
  rintro c st' ⟨rfl,B',pe,ga,o,u⟩
  exact a1D (h st' B' pe ga o u)
 case init=>
  refine⟨rfl,B,rfl,rfl,Out.refl _ _ _,fun i j h1 h2 h3=>?_⟩
  exact hs i j h1 h2 (by lia)
 case fin=>
  rintro c st' ⟨hc,B',pe,ga,o,u⟩
  refine⟨hc,B',pe,ga,o,?_⟩
  rwa[show min (max (max ok 1) n) n=n by lia]at u
 case step=>
  rintro k c st' hak hkn ⟨rfl,B',pe,ga,o,hs'⟩
  rw[show min k n=k by lia]at hs'
  have sz:=a2s B'.perm
  refine a0W (a5M (a3A (I:=fun x c st''=>st''=st'/\ ∃l q,c=(none,l,q)/\l<=q/\q<=k/\q+x<=k+l/\
    (∀i,i<l->kx r (arrOf st') (lo+i)<kx r (arrOf st') (lo+k))/\(∀i,q<=i->i<k->kx r (arrOf st') (lo+k)<kx r (arrOf st') (lo+i)))
   (Q:=fun c st''=>st''=st'/\ ∃l q,c=(none,l,q)/\l<=k/\
    (∀i,i<l->kx r (arrOf st') (lo+i)<kx r (arrOf st') (lo+k))/\(∀i,l<=i->i<k->kx r (arrOf st') (lo+k)<kx r (arrOf st') (lo+i))) ?istep ?ifin ?iinit) ?ipost)
  case iinit=>exact⟨rfl,0,k,rfl,by lia,by lia,by lia,fun i hi=>by lia,fun i h1 h2=>by lia⟩
  case ifin=>
   rintro c st'' ⟨rfl,l,q,rfl,hlr,hrk,hm,hlo,hhi⟩;have:l=q:=by lia
   subst this;exact⟨rfl,l,l,rfl,hrk,hlo,hhi⟩
  case istep=>
   rintro x c st'' _ hxk ⟨rfl,l,q,rfl,hlr,hrk,hm,hlo,hhi⟩;dsimp only;by_cases hge:l≥q
   ·rw[if_pos hge]
    have:l=q:=by lia
    subst this;exact a1D ⟨rfl,l,l,rfl,hrk,hlo,hhi⟩
   ·rw[if_neg hge]
    have d1:l<=(l+q) /2:=by lia
    have d2:(l+q) /2<q:=by lia
    clear hge;generalize(l+q) /2=d at d1 d2⊢;have dk:d<k:=a1I d2 hrk;refine a0W (a9m K B' (by lia) (by lia) ?_);by_cases hless:kx r (arrOf st'') (lo+k)<kx r (arrOf st'') (lo+d)
    ·simp only[hless,decide_true,if_true]
     refine a1D ⟨rfl,l,d,rfl,d1,a3D dk,by lia,hlo,fun i h1 h2=>?_⟩;by_cases z:i=d
     ·subst z
      exact hless
     ·exact a8T hless (hs' (lo+d) (lo+i) (a3R ..) (a6O (a5V h1 (a3K z)) _) (a6O h2 _))
    ·simp only[hless,decide_false,Bool.false_eq_true,if_false]
     have ne:=K.apart B'.perm (i:=lo+k) (j:=lo+d) (by lia) (by lia) (by lia);refine a1D ⟨rfl,d+1,q,rfl,d2,hrk,by lia,fun i h1=>?_,hhi⟩;by_cases z:i=d
     ·subst z
      exact Int.lt_iff_le_and_ne.mpr ⟨Int.not_lt.mp hless,ne.symm⟩
     ·exact Int.lt_of_lt_of_le (hs' (lo+i) (lo+d) (a3R ..) (a6O (a5V (a7I h1) z) _) (a6O dk _)) (Int.not_lt.mp hless)
  case ipost=>
   rintro c st'' ⟨rfl,l,q,rfl,hlk,hlo,hhi⟩;show wpS _ _ _ _ (do moveDown' (lo+k) (lo+l);pure (ForInStep.yield (none,()))) _ _
   rw[moveDown'_eq];have hks:lo+k<(arrOf st'').size:=by lia
   refine a0W (a6F (a1D ⟨rfl,B'.set (bubble_perm _ _ _),pe,ga,o.trans fun j hj=>?_,?_⟩))
   ·show(bubble (arrOf st'') (lo+k) (lo+k-(lo+l)))[j]? =_
    rw[getElem?_bubble hks _ (by lia),Nat.sub_sub_self (a5J hlk lo),if_neg (by lia),if_neg (by lia)]
   ·rw[show min (k+1) n=k+1 by lia]
    intro i j h1 h2 h3;show kx r (bubble (arrOf st'') (lo+k) (lo+k-(lo+l))) i<kx r (bubble (arrOf st'') (lo+k) (lo+k-(lo+l))) j
    rw[b4p hks (by lia),b4p hks (by lia),Nat.sub_sub_self (a5J hlk lo)];have lo': ∀i,lo<=i->i<lo+l->kx r (arrOf st'') i<kx r (arrOf st'') (lo+k):=fun i h1 h2=>by
     have:=hlo (i-lo) (by lia)
     rwa[show lo+(i-lo)=i by lia]at this
    have hi': ∀i,lo+l<=i->i<lo+k->kx r (arrOf st'') (lo+k)<kx r (arrOf st'') i:=fun i h1 h2=>by
     have:=hhi (i-lo) (by lia) (by lia)
     rwa[show lo+(i-lo)=i by lia]at this
    repeat' split
    all_goals first
     |(exfalso;lia)
     |exact lo' _ (by lia) (by lia)
     |exact hi' _ (by lia) (by lia)
     |exact hs' _ _ (by lia) (by lia) (by lia)
def a4w:Bool->Keyed->Array Keyed->Nat->Nat->Nat->StateT SortSt Sem (Option Nat):=sortPriv%PySem.Builtin.gallop
theorem c0c(left:Bool)(key:Keyed)(arr:Array Keyed)(base n hint:Nat):a4w left key arr base n hint=(do
 let beyond (i:Nat):StateT SortSt Sem (Option Bool):=do
  let x <-elem' arr (base+i)
  if left then lt' x key else return (<-lt' key x).map (!·)
 let mut lastofs:=0
 let mut ofs:=1
 let mut lo:=0
 let mut hi:=0
 let some right <-beyond hint|return none
 if right then
  let maxofs:=n-hint
  for _ in[0:n] do
   if ofs≥maxofs then break
   let some more <-beyond (hint+ofs)|return none
   if !more then break
   lastofs:=ofs
   ofs:=2 * ofs+1
  lo:=hint+lastofs+1
  hi:=hint+min ofs maxofs
 else
  let maxofs:=hint+1
  for _ in[0:n] do
   if ofs≥maxofs then break
   let some found <-beyond (hint-ofs)|return none
   if found then break
   lastofs:=ofs
   ofs:=2 * ofs+1
  lo:=hint+1-min ofs maxofs
  hi:=hint-lastofs
 for _ in[0:n] do
  if lo≥hi then break
  let m:=lo+(hi-lo) /2
  let some more <-beyond m|return none
  if more then lo:=m+1 else hi:=m
 return some hi):=rfl
end
section
variable{M:Model}{A:Ar}{E:VP}{s:Sh}{κ:SortKind}{r:Keyed->Int}{a₀ xs ys:Array Keyed}
theorem a3a{st:SortSt}{left:Bool}{key:Keyed}{arr:Array Keyed}{base n hint:Nat}{Q:Option Nat->SortSt->Prop}(K:Asks M A s κ r a₀)(hk:kindOf st=κ)(hz:base+n<=arr.size)(mem: ∀i,i<n->arr.getD (base+i) d0∈a₀)(mk:key∈a₀)(ne: ∀i,i<n->kx r arr (base+i)≠r key)
  (up:Ris r arr base (base+n)) (hh:hint<n) (q: ∀k,k<=n->(∀i,i<k->kx r arr (base+i)<r key)->(∀i,k<=i->i<n->r key<kx r arr (base+i))->Q (some k) st):wpS M A E s (a4w left key arr base n hint) Q st:=by
 rw[c0c]
 have bey: ∀(i:Nat) (Q:Option Bool->SortSt->Prop),i<n->Q (some (decide (kx r arr (base+i)<r key))) st->wpS M A E s (do
   let x <-elem' arr (base+i)
   if left then lt' x key else return (<-lt' key x).map (!·)) Q st:=fun i Q hi hQ=>by
  refine a0W (a0v (by lia) ?_)
  cases left with
  |true=>exact b4n K hk (mem i hi) mk hQ
  | false=>
   refine a0W (b4n K hk mk (mem i hi) (a1D ?_));have e:(!decide (r key<r (arr.getD (base+i) d0)))=decide (kx r arr (base+i)<r key):=by
    have:=ne i hi
    by_cases z:kx r arr (base+i)<r key
    ·rw[a1E z,a1L (show ¬r key<r (arr.getD (base+i) d0)from fun y=>by have:r key<kx r arr (base+i):=y;lia)]
     rfl
    ·rw[a1L z,a1E (show r key<r (arr.getD (base+i) d0)from by show r key<kx r arr (base+i);lia)]
     rfl
   show Q (some (!decide (r key<r (arr.getD (base+i) d0)))) st
   rw[e];exact hQ
 have dn: ∀i j,i<=j->j<n->kx r arr (base+j)<r key->kx r arr (base+i)<r key:=fun i j ij jn l=>by
  by_cases z:i=j
  ·subst z
   exact l
  ·have:=up (base+i) (base+j) (by lia) (by lia) (by lia)
   lia
 have upw: ∀i j,i<=j->j<n-> ¬kx r arr (base+i)<r key->r key<kx r arr (base+j):=fun i j ij jn l=>by
  have n1:=ne i (by lia)
  by_cases z:i=j
  ·subst z
   lia
  ·have:=up (base+i) (base+j) (by lia) (by lia) (by lia)
   lia
 have fin: ∀(lo hi:Nat) (st':SortSt) (f:Nat->Option (Option Nat)×Nat×Nat->StateT SortSt Sem (ForInStep (Option (Option Nat)×Nat×Nat))) (g:Option (Option Nat)×Nat×Nat->StateT SortSt Sem (Option Nat)),st'=st->lo<=hi->hi<=n->(∀i,i<lo->kx r arr (base+i)<r key)->(∀i,hi<=i->i<n->r key<kx r arr (base+i))->
   (∀x l h (R:ForInStep (Option (Option Nat)×Nat×Nat)->SortSt->Prop),l≥h->R (.done (none,l,h)) st->wpS M A E s (f x (none,l,h)) R st)->
   (∀x l h (R:ForInStep (Option (Option Nat)×Nat×Nat)->SortSt->Prop),l<h->h<=n->R (.yield (if kx r arr (base+(l+(h-l) /2))<r key then(none,l+(h-l) /2+1,h)else(none,l,l+(h-l) /2))) st->wpS M A E s (f x (none,l,h)) R st)->
   (∀h,Q (some h) st->wpS M A E s (g (none,h,h)) Q st)->wpS M A E s (forIn [0:n] (none,lo,hi) f >>= g) Q st':=fun lo hi st' f g e lh hn dl du f1 f2 f3=>by
  subst e
  refine a0W (a5M (a3A (I:=fun x c st''=>st''=st'/\ ∃l h,c=(none,l,h)/\l<=h/\h<=n/\h+x<=n+l/\(∀i,i<l->kx r arr (base+i)<r key)/\ ∀i,h<=i->i<n->r key<kx r arr (base+i))
   (Q:=fun c st''=>st''=st'/\ ∃h,c=(none,h,h)/\h<=n/\(∀i,i<h->kx r arr (base+i)<r key)/\ ∀i,h<=i->i<n->r key<kx r arr (base+i)) ?step ?stop ⟨rfl,lo,hi,rfl,lh,hn,by lia,dl,du⟩) ?post)
  case step=>
   rintro x c st'' _ hx ⟨rfl,l,h,rfl,l1,l2,l3,d1,d2⟩;by_cases z:l≥h
   ·have:l=h:=by lia
    subst this;exact f1 x l l _ z ⟨rfl,l,rfl,l2,d1,d2⟩
   ·refine f2 x l h _ (by lia) l2 ?_
    by_cases c:kx r arr (base+(l+(h-l) /2))<r key
    ·rw[if_pos c]
     exact⟨rfl,_,_,rfl,by lia,by lia,by lia,fun i hi=>dn i _ (by lia) (by lia) c,d2⟩
    ·rw[if_neg c]
     exact⟨rfl,_,_,rfl,by lia,by lia,by lia,d1,fun i h1 h2=>upw _ i h1 h2 c⟩
  case stop=>
   rintro c st'' ⟨rfl,l,h,rfl,l1,l2,l3,d1,d2⟩;have:l=h:=by lia
   subst this;exact⟨rfl,l,rfl,l2,d1,d2⟩
  case post=>
   rintro c st'' ⟨rfl,h,rfl,h2,d1,d2⟩;exact f3 h (q h h2 d1 d2)
 refine a0W (bey hint _ hh ?_)
 by_cases c0:kx r arr (base+hint)<r key
 ·rw[a1E c0]
  dsimp only
  rw[if_pos rfl]
  refine a0W (a5M (a3A (I:=fun x c st'=>st'=st/\ ∃l o,c=(none,l,o)/\l<o/\x+1<=o/\l<n-hint/\kx r arr (base+(hint+l))<r key)
   (Q:=fun c st'=>st'=st/\ ∃l o,c=(none,l,o)/\l<o/\l<n-hint/\kx r arr (base+(hint+l))<r key/\(o<n-hint-> ¬kx r arr (base+(hint+o))<r key)) ?step ?stop ⟨rfl,0,1,rfl,by lia,by lia,by lia,c0⟩) ?post)
  case step=>
   rintro x c st' _ hx ⟨rfl,l,o,rfl,l1,l2,l3,l4⟩;dsimp only;by_cases z:o≥n-hint
   ·rw[if_pos z]
    exact a1D ⟨rfl,l,o,rfl,l1,l3,l4,fun y=>by lia⟩
   ·rw[if_neg z]
    refine a0W (bey _ _ (by lia) ?_);by_cases c:kx r arr (base+(hint+o))<r key
    ·rw[a1E c]
     exact a1D ⟨rfl,o,_,rfl,by lia,by lia,by lia,c⟩
    ·rw[a1L c]
     exact a1D ⟨rfl,l,o,rfl,l1,l3,l4,fun _=>c⟩
  case stop=>
   rintro c st' ⟨rfl,l,o,rfl,l1,l2,l3,l4⟩;exact⟨rfl,l,o,rfl,l1,l3,l4,fun y=>by lia⟩
  case post=>
   rintro c st' ⟨rfl,l,o,rfl,l1,l3,l4,l5⟩;dsimp only;refine fin (hint+l+1) (hint+min o (n-hint)) _ _ _ rfl (a5J (Nat.le_min.mpr ⟨l1,l3⟩) hint) (a0Y (a5J (Nat.min_le_right ..) hint) (a6P (a3G (a3D hh)))) (fun i hi=>dn i (hint+l) (a7I hi) (Nat.add_lt_of_lt_sub' l3) l4) (fun i h1 h2=>by
    by_cases z:o<n-hint
    ·exact upw (hint+o) i (by rw[a6B (a3D z)]at h1;exact h1) h2 (l5 z)
    ·rw[Nat.min_eq_right (a7U z),a3G (a3D hh)]at h1
     exact absurd h2 (Nat.not_lt.mpr h1)) (fun x l h R z hR=>?_) (fun x l h R z hn hR=>?_) (fun h hq=>a1D hq)
   ·dsimp only
    rw[if_pos z];exact a1D hR
   ·dsimp only
    rw[if_neg (by lia)];refine a0W (bey _ _ (by lia) ?_);by_cases c:kx r arr (base+(l+(h-l) /2))<r key
    ·rw[if_pos c]at hR
     rw[a1E c];exact a1D hR
    ·rw[if_neg c]at hR
     rw[a1L c];exact a1D hR
 ·rw[a1L c0]
  dsimp only
  rw[if_neg (by decide)]
  refine a0W (a5M (a3A (I:=fun x c st'=>st'=st/\ ∃l o,c=(none,l,o)/\l<o/\x+1<=o/\l<hint+1/\ ¬kx r arr (base+(hint-l))<r key)
   (Q:=fun c st'=>st'=st/\ ∃l o,c=(none,l,o)/\l<o/\l<hint+1/\ ¬kx r arr (base+(hint-l))<r key/\(o<hint+1->kx r arr (base+(hint-o))<r key)) ?step ?stop ⟨rfl,0,1,rfl,by lia,by lia,by lia,c0⟩) ?post)
  case step=>
   rintro x c st' _ hx ⟨rfl,l,o,rfl,l1,l2,l3,l4⟩;dsimp only;by_cases z:o≥hint+1
   ·rw[if_pos z]
    exact a1D ⟨rfl,l,o,rfl,l1,l3,l4,fun y=>by lia⟩
   ·rw[if_neg z]
    refine a0W (bey _ _ (by lia) ?_);by_cases c:kx r arr (base+(hint-o))<r key
    ·rw[a1E c]
     exact a1D ⟨rfl,l,o,rfl,l1,l3,l4,fun _=>c⟩
    ·rw[a1L c]
     exact a1D ⟨rfl,o,_,rfl,by lia,by lia,by lia,c⟩
  case stop=>
   rintro c st' ⟨rfl,l,o,rfl,l1,l2,l3,l4⟩;exact⟨rfl,l,o,rfl,l1,l3,l4,fun y=>by lia⟩
  case post=>
   rintro c st' ⟨rfl,l,o,rfl,l1,l3,l4,l5⟩;dsimp only;refine fin (hint+1-min o (hint+1)) (hint-l) _ _ _ rfl (a0Y (Nat.sub_le_sub_left (Nat.le_min.mpr ⟨l1,l3⟩) _) (a6P (Nat.add_sub_add_right ..))) (a0Y (Nat.sub_le ..) (a3D hh)) (fun i hi=>by
    by_cases z:o<hint+1
    ·rw[a6B (a3D z),Nat.succ_sub (a7I z)]at hi
     exact dn i (hint-o) (a7I hi) (a5U (Nat.sub_le ..) hh) (l5 z)
    ·rw[Nat.min_eq_right (a7U z),a6C]at hi
     exact absurd hi (a6U _)) (fun i h1 h2=>upw (hint-l) i h1 h2 l4) (fun x l h R z hR=>?_) (fun x l h R z hn hR=>?_) (fun h hq=>a1D hq)
   ·dsimp only
    rw[if_pos z];exact a1D hR
   ·dsimp only
    rw[if_neg (by lia)];refine a0W (bey _ _ (by lia) ?_);by_cases c:kx r arr (base+(l+(h-l) /2))<r key
    ·rw[if_pos c]at hR
     rw[a1E c];exact a1D hR
    ·rw[if_neg c]at hR
     rw[a1L c];exact a1D hR
end
abbrev T5:Type:=Option (Array Keyed)×Array Keyed×Nat×Nat×Nat
abbrev T6:Type:=Option (Array Keyed)×Array Keyed×Nat×Nat×Nat×Nat
abbrev T7:Type:=Option (Array Keyed)×Array Keyed×Nat×Nat×Nat×Nat×Nat
def b1v:Array Keyed->Array Keyed->StateT SortSt Sem (Array Keyed):=sortPriv%PySem.Builtin.mergeLo
def b1w:Array Keyed->Array Keyed->StateT SortSt Sem (Array Keyed):=sortPriv%PySem.Builtin.mergeHi
def a1n:Nat->StateT SortSt Sem Unit:=sortPriv%PySem.Builtin.setMinGallop
theorem a8a(g:Nat):a1n g=modify fun st=>SortSt.mk' (kindOf st) (arrOf st) (pendingOf st) g (failedOf st):=rfl
section
variable(a b:Array Keyed)
abbrev a3m(out:Array Keyed)(ia ib:Nat):Array Keyed:=out++a.extract ia a.size++b.extract ib b.size
abbrev a6i(out:Array Keyed)(ia ib:Nat):Array Keyed:=out++b.extract ib b.size++a.extract ia a.size
def lo1(mg:Nat)(c:T6):StateT SortSt Sem (ForInStep T6):=do
 let some bWins <-lt' (<-elem' b c.2.2.2.1) (<-elem' a c.2.2.1)|pure (.done (some (a3m a b c.2.1 c.2.2.1 c.2.2.2.1),c.2.1,c.2.2.1,c.2.2.2.1,c.2.2.2.2.1,c.2.2.2.2.2))
 if bWins then
  let x <-elem' b c.2.2.2.1
  if c.2.2.2.1+1==b.size then pure (.done (some (a3m a b (c.2.1.push x) c.2.2.1 (c.2.2.2.1+1)),c.2.1.push x,c.2.2.1,c.2.2.2.1+1,0,c.2.2.2.2.2+1))
  else if c.2.2.2.2.2+1≥mg then pure (.done (none,c.2.1.push x,c.2.2.1,c.2.2.2.1+1,0,c.2.2.2.2.2+1))
  else pure (.yield (none,c.2.1.push x,c.2.2.1,c.2.2.2.1+1,0,c.2.2.2.2.2+1))
 else
  let x <-elem' a c.2.2.1
  if c.2.2.1+1+1==a.size then pure (.done (some (a6i a b (c.2.1.push x) (c.2.2.1+1) c.2.2.2.1),c.2.1.push x,c.2.2.1+1,c.2.2.2.1,c.2.2.2.2.1+1,0))
  else if c.2.2.2.2.1+1≥mg then pure (.done (none,c.2.1.push x,c.2.2.1+1,c.2.2.2.1,c.2.2.2.2.1+1,0))
  else pure (.yield (none,c.2.1.push x,c.2.2.1+1,c.2.2.2.1,c.2.2.2.2.1+1,0))
def lo25(out:Array Keyed)(ia ib mg k k1:Nat):StateT SortSt Sem (ForInStep T7):=do
 let x <-elem' a ia
 if ia+1+1==a.size then pure (.done (some (a6i a b (out.push x) (ia+1) ib),out.push x,ia+1,ib,mg,k,k1))
 else if k<7&&k1<7 then pure (.done (none,out.push x,ia+1,ib,mg,k,k1))
 else pure (.yield (none,out.push x,ia+1,ib,mg,k,k1))
def lo24(out:Array Keyed)(ia ib mg k bc:Nat):StateT SortSt Sem (ForInStep T7):=do
 let y <-elem' b ib
 if ib+1==b.size then pure (.done (some (a3m a b (out.push y) ia (ib+1)),out.push y,ia,ib+1,mg,k,bc))
 else do
  let some k1 <-a4w true (<-elem' a ia) b (ib+1) (b.size-(ib+1)) 0|pure (.done (some (a3m a b (out.push y) ia (ib+1)),out.push y,ia,ib+1,mg,k,bc))
  if k1>0 then
   if ib+1+k1==b.size then pure (.done (some (a3m a b (out.push y++b.extract (ib+1) (ib+1+k1)) ia (ib+1+k1)),out.push y++b.extract (ib+1) (ib+1+k1),ia,ib+1+k1,mg,k,k1))
   else lo25 a b (out.push y++b.extract (ib+1) (ib+1+k1)) ia (ib+1+k1) mg k k1
  else lo25 a b (out.push y) ia (ib+1) mg k k1
def lo22(c:T7)(mg:Nat):StateT SortSt Sem (ForInStep T7):=do
 a1n mg
 let some k <-a4w false (<-elem' b c.2.2.2.1) a c.2.2.1 (a.size-c.2.2.1) 0|pure (.done (some (a3m a b c.2.1 c.2.2.1 c.2.2.2.1),c.2.1,c.2.2.1,c.2.2.2.1,mg,c.2.2.2.2.2.1,c.2.2.2.2.2.2))
 if k>0 then
  if c.2.2.1+k+1==a.size then pure (.done (some (a6i a b (c.2.1++a.extract c.2.2.1 (c.2.2.1+k)) (c.2.2.1+k) c.2.2.2.1),c.2.1++a.extract c.2.2.1 (c.2.2.1+k),c.2.2.1+k,c.2.2.2.1,mg,k,c.2.2.2.2.2.2))
  else if c.2.2.1+k==a.size then pure (.done (some (a3m a b (c.2.1++a.extract c.2.2.1 (c.2.2.1+k)) (c.2.2.1+k) c.2.2.2.1),c.2.1++a.extract c.2.2.1 (c.2.2.1+k),c.2.2.1+k,c.2.2.2.1,mg,k,c.2.2.2.2.2.2))
  else lo24 a b (c.2.1++a.extract c.2.2.1 (c.2.2.1+k)) (c.2.2.1+k) c.2.2.2.1 mg k c.2.2.2.2.2.2
 else lo24 a b c.2.1 c.2.2.1 c.2.2.2.1 mg k c.2.2.2.2.2.2
def lo2(c:T7):StateT SortSt Sem (ForInStep T7):=if c.2.2.2.2.1>1 then lo22 a b c (c.2.2.2.2.1-1)else lo22 a b c c.2.2.2.2.1
def d1g(c:T5):StateT SortSt Sem (ForInStep T5):=do
 let c1 <-forIn [0:a.size+b.size] ((none,c.2.1,c.2.2.1,c.2.2.2.1,0,0):T6) fun _ c1=>lo1 a b c.2.2.2.2 c1
 match c1.1 with
 |some r=>pure (.done (some r,c1.2.1,c1.2.2.1,c1.2.2.2.1,c.2.2.2.2))
 | none=>do
  rule "list.sort.gallop"
  let c2 <-forIn [0:a.size+b.size] ((none,c1.2.1,c1.2.2.1,c1.2.2.2.1,c.2.2.2.2+1,c1.2.2.2.2.1,c1.2.2.2.2.2):T7) fun _ c2=>lo2 a b c2
  match c2.1 with
  |some r=>pure (.done (some r,c2.2.1,c2.2.2.1,c2.2.2.2.1,c2.2.2.2.2.1))
  |none=>do
   a1n (c2.2.2.2.2.1+1)
   pure (.yield (none,c2.2.1,c2.2.2.1,c2.2.2.2.1,c2.2.2.2.2.1+1))
def lo0:StateT SortSt Sem (Array Keyed):=do
 rule "list.sort.merge-lo"
 let x <-elem' b 0
 if 1==b.size then pure (a3m a b #[x] 0 1)
 else if 0+1==a.size then pure (a6i a b #[x] 0 1)
 else do
  let st <-get
  let c <-forIn [0:a.size+b.size] ((none,#[x],0,1,gallopOf st):T5) fun _ c=>d1g a b c
  match c.1 with
  |some r=>pure r
  |none=>unsupported "internal:list.sort.merge-bound"
theorem b5v:b1v a b=lo0 a b:=by
 refine a1Z (bind _) (funext fun _=>?_)
 refine a1Z (bind (elem' b 0)) (funext fun x=>?_)
 refine a9L rfl (fun _=>rfl) (fun _=>?_)
 refine a9L rfl (fun _=>rfl) (fun _=>?_)
 refine a1Z (bind get) (funext fun st=>?_)
 refine congr (a1Z bind (a1Z (forIn [0:a.size+b.size] _) (funext fun u=>funext fun c=>?_))) (funext fun c=>?_)
 ·refine congr (a1Z bind (a1Z (forIn [0:a.size+b.size] _) (funext fun u=>funext fun c1=>rfl))) (funext fun c1=>?_)
  obtain⟨r1,out1,ia1,ib1,ac1,bc1⟩:=c1
  cases r1 with
  |some r1=>rfl
  | none=>
   refine a1Z (bind _) (funext fun _=>?_);refine congr (a1Z bind (a1Z (forIn [0:a.size+b.size] _) (funext fun u=>funext fun c2=>?_))) (funext fun c2=>?_)
   ·refine a9L rfl (fun _=>?_) (fun _=>?_)
    ·rfl
    ·rfl
   ·obtain⟨r2,_⟩:=c2
    cases r2<;>rfl
 ·obtain⟨r,_⟩:=c
  cases r<;>rfl
end
abbrev Up(r:Keyed->Int)(l:List Keyed):Prop:=l.Pairwise fun x y=>r x<r y
structure Mg(r:Keyed->Int)(la lb out:List Keyed)(ia ib:Nat):Prop where
 perm:(out++la.drop ia++lb.drop ib).Perm (la++lb)
 so:Up r out
 oa: ∀x∈out,∀y∈la.drop ia,r x<r y
 ob: ∀x∈out,∀y∈lb.drop ib,r x<r y
section
variable{r:Keyed->Int}{la lb out:List Keyed}{ia ib:Nat}
theorem b1x{l:List Keyed}(h:Up r l)(i:Nat):Up r (l.drop i):=a4C (List.drop_sublist i l) h
theorem c3v{l:List Keyed}(h:Up r l)(i k:Nat):Up r ((l.drop i).take k)/\ ∀x∈(l.drop i).take k,∀y∈l.drop (i+k),r x<r y:=by
 have z:=b1x h i
 rw[<-a2R k (l.drop i)]at z
 obtain⟨h1,_,h3⟩:=a1P.mp z
 rw[List.drop_drop]at h3
 exact⟨h1,h3⟩
theorem Mg.len(m:Mg r la lb out ia ib)(h1:ia<=la.length)(h2:ib<=lb.length):out.length+(la.length-ia)+(lb.length-ib)=la.length+lb.length:=by
 have z:=m.perm.length_eq
 rw[a0M,a0M,a0M,a4P,a4P]at z
 exact z
theorem Mg.moveA(m:Mg r la lb out ia ib)(sa:Up r la)(k:Nat)(h: ∀x∈(la.drop ia).take k,∀y∈lb.drop ib,r x<r y):Mg r la lb (out++(la.drop ia).take k) (ia+k) ib:=by
 obtain⟨t1,t2⟩:=c3v sa ia k
 have e:(la.drop ia).take k++la.drop (ia+k)=la.drop ia:=by rw[<-List.drop_drop];exact a2R k _
 have sub: ∀y∈la.drop (ia+k),y∈la.drop ia:=fun y hy=>by rw[<-e];exact a0L.mpr (.inr hy)
 refine⟨?_,a1P.mpr ⟨m.so,t1,fun x hx y hy=>m.oa x hx y (a4K hy)⟩,fun x hx y hy=>?_,fun x hx y hy=>?_⟩
 ·have z:=m.perm
  rw[<-e,<-a1H]at z
  exact z
 ·rcases a0L.mp hx with z|z
  ·exact m.oa x z y (sub y hy)
  ·exact t2 x z y hy
 ·rcases a0L.mp hx with z|z
  ·exact m.ob x z y hy
  ·exact h x z y hy
theorem Mg.moveB(m:Mg r la lb out ia ib)(sb:Up r lb)(k:Nat)(h: ∀x∈(lb.drop ib).take k,∀y∈la.drop ia,r x<r y):Mg r la lb (out++(lb.drop ib).take k) ia (ib+k):=by
 obtain⟨t1,t2⟩:=c3v sb ib k
 have e:(lb.drop ib).take k++lb.drop (ib+k)=lb.drop ib:=by rw[<-List.drop_drop];exact a2R k _
 have sub: ∀y∈lb.drop (ib+k),y∈lb.drop ib:=fun y hy=>by rw[<-e];exact a0L.mpr (.inr hy)
 refine⟨?_,a1P.mpr ⟨m.so,t1,fun x hx y hy=>m.ob x hx y (a4K hy)⟩,fun x hx y hy=>?_,fun x hx y hy=>?_⟩
 ·have z:=m.perm
  rw[<-e]at z
  refine List.Perm.trans ?_ z
  rw[a1H,a1H,a1H]
  refine a4U _ ?_
  rw[<-a1H,<-a1H]
  exact a5T _ a6D
 ·rcases a0L.mp hx with z|z
  ·exact m.oa x z y hy
  ·exact h x z y hy
 ·rcases a0L.mp hx with z|z
  ·exact m.ob x z y (sub y hy)
  ·exact t2 x z y hy
def a8b(r:Keyed->Int)(la lb out:List Keyed):Prop:=out.Perm (la++lb)/\Up r out
theorem Mg.endB(m:Mg r la lb out ia ib)(sa:Up r la)(h:lb.length<=ib):a8b r la lb (out++la.drop ia++lb.drop ib):=by
 refine⟨m.perm,?_⟩
 rw[List.drop_of_length_le h,a2K]
 exact a1P.mpr ⟨m.so,b1x sa ia,m.oa⟩
theorem Mg.endA(m:Mg r la lb out ia ib)(sb:Up r lb)(h:la.length<=ia):a8b r la lb (out++la.drop ia++lb.drop ib):=by
 refine⟨m.perm,?_⟩
 rw[List.drop_of_length_le h,a2K]
 exact a1P.mpr ⟨m.so,b1x sb ib,m.ob⟩
theorem Mg.last(m:Mg r la lb out ia ib)(sb:Up r lb)(h:ia+1=la.length)(top: ∀y∈lb,∀x∈la.drop ia,r y<r x):a8b r la lb (out++lb.drop ib++la.drop ia):=by
 refine⟨List.Perm.trans ?_ m.perm,?_⟩
 ·rw[a1H,a1H]
  exact a4U _ a6D
 ·obtain⟨x,ex⟩: ∃x,la.drop ia=[x]:=List.length_eq_one_iff.mp (by rw[a4P];lia)
  refine a1P.mpr ⟨a1P.mpr ⟨m.so,b1x sb ib,m.ob⟩,by rw[ex];exact a3J _ _,fun y hy x hx=>?_⟩
  rcases a0L.mp hy with z|z
  ·exact m.oa y z x hx
  ·exact top y (a8D z) x hx
end
structure Eqv(st st':SortSt):Prop where
 kind:kindOf st'=kindOf st
 arr:arrOf st'=arrOf st
 pend:pendingOf st'=pendingOf st
 ok:failedOf st'=failedOf st
theorem Eqv.refl(st:SortSt):Eqv st st:=⟨rfl,rfl,rfl,rfl⟩
theorem Eqv.trans{a b c:SortSt}(h:Eqv a b)(h':Eqv b c):Eqv a c:=⟨h'.kind.trans h.kind,h'.arr.trans h.arr,h'.pend.trans h.pend,h'.ok.trans h.ok⟩
section
variable{M:Model}{A:Ar}{E:VP}{s:Sh}{κ:SortKind}{r:Keyed->Int}{a₀ a b out:Array Keyed}{ia ib:Nat}
theorem a5g{g:Nat}{st:SortSt}{Q:Unit->SortSt->Prop}(h: ∀st',Eqv st st'->Q () st'):wpS M A E s (a1n g) Q st:=by
 rw[a8a]
 exact a6F (h _ ⟨rfl,rfl,rfl,rfl⟩)
theorem b8d(a:Array Keyed)(i:Nat):(a.extract i a.size).toList=a.toList.drop i:=by
 rw[a6H,a4W,a5S (by rw[a4P,a0K];exact a0J _)]
theorem d4f(a:Array Keyed)(i k:Nat):(a.extract i (i+k)).toList=(a.toList.drop i).take k:=by
 rw[a6H,a4W,a5N]
theorem a4x:(a3m a b out ia ib).toList=out.toList++a.toList.drop ia++b.toList.drop ib:=by
 rw[a2M,a2M,b8d,b8d]
theorem a6j:(a6i a b out ia ib).toList=out.toList++b.toList.drop ib++a.toList.drop ia:=by
 rw[a2M,a2M,b8d,b8d]
theorem b5w{i:Nat}(h:i<a.size):a.toList.drop i=a.getD i d0::a.toList.drop (i+1):=by
 have z:=a4v h
 rw[<-a1X]at z
 obtain⟨h1,h2⟩:=a0B.mp z
 rw[a4V h1,h2]
theorem a8j{i:Nat}{x:Keyed}(h:x∈a.toList.drop i): ∃j,i<=j/\j<a.size/\a.getD j d0=x:=by
 obtain⟨j,hj⟩:=a4X h
 rw[a6W,a1X]at hj
 exact⟨i+j,by lia,(a3T.mp hj).1,a7g hj⟩
theorem b1y{i k:Nat}{x:Keyed}(h:x∈(a.toList.drop i).take k): ∃j,j<k/\i+j<a.size/\a.getD (i+j) d0=x:=by
 obtain⟨j,hj⟩:=a4X h
 rw[a8U]at hj
 split at hj
 ·next l=>
  rw[a6W,a1X]at hj
  exact⟨j,l,(a3T.mp hj).1,a7g hj⟩
 ·cases hj
theorem b0w{lo hi:Nat}(h:Up r a.toList)(hh:hi<=a.size):Ris r a lo hi:=fun i j _ h2 h3=>by
 have e: ∀k,k<a.size->a.toList[k]? =some (a.getD k d0):=fun k hk=>by rw[a1X];exact a4v hk
 obtain⟨l1,e1⟩:=a0B.mp (e i (by lia))
 obtain⟨l2,e2⟩:=a0B.mp (e j (by lia))
 have z:=a2S.mp h i j l1 l2 h2
 rw[e1,e2]at z
 exact z
theorem a2a{i:Nat}(h:i<a.size):a.getD i d0∈a.toList:=by
 rw[a8B]
 exact a7Q (a4v h)
structure Two(κ:SortKind)(r:Keyed->Int)(a₀ a b:Array Keyed):Prop where
 ma: ∀x∈a.toList,x∈a₀
 mb: ∀x∈b.toList,x∈a₀
 sa:Up r a.toList
 sb:Up r b.toList
 ap: ∀x∈a.toList,∀y∈b.toList,r x≠r y
 a1:0<a.size
 b1:0<b.size
 lo: ∀x∈a.toList,r (b.getD 0 d0)<r x
 top: ∀y∈b.toList,r y<r (a.getD (a.size-1) d0)
abbrev Gd(r:Keyed->Int)(a b m:Array Keyed):Prop:=a8b r a.toList b.toList m.toList
theorem Two.tops(t:Two κ r a₀ a b){i:Nat}(h:i+1=a.size): ∀y∈b.toList,∀x∈a.toList.drop i,r y<r x:=fun y hy x hx=>by
 obtain⟨j,h1,h2,rfl⟩:=a8j hx
 have e:j=a.size-1:=by lia
 subst e
 exact t.top y hy
theorem a6k{x:Keyed}:(out.push x).toList=out.toList++[x]:=a5D
theorem d4g(t:Two κ r a₀ a b)(m:Mg r a.toList b.toList out.toList ia ib)(ha:ia<a.size)(h: ∀y∈b.toList.drop ib,r (a.getD ia d0)<r y):Mg r a.toList b.toList (out.push (a.getD ia d0)).toList (ia+1) ib:=by
 have e:(a.toList.drop ia).take 1=[a.getD ia d0]:=by rw[b5w ha];rfl
 have z:=m.moveA t.sa 1 (by rw[e];intro x hx;rw[a0H.mp hx];exact h)
 rw[e]at z
 rw[a6k]
 exact z
theorem d1h(t:Two κ r a₀ a b)(m:Mg r a.toList b.toList out.toList ia ib)(hb:ib<b.size)(h: ∀y∈a.toList.drop ia,r (b.getD ib d0)<r y):Mg r a.toList b.toList (out.push (b.getD ib d0)).toList ia (ib+1):=by
 have e:(b.toList.drop ib).take 1=[b.getD ib d0]:=by rw[b5w hb];rfl
 have z:=m.moveB t.sb 1 (by rw[e];intro x hx;rw[a0H.mp hx];exact h)
 rw[e]at z
 rw[a6k]
 exact z
theorem below{x:Int}{i:Nat}(sa:Up r a.toList)(ha:i<a.size)(h:x<r (a.getD i d0)): ∀y∈a.toList.drop i,x<r y:=fun y hy=>by
 obtain⟨j,h1,h2,rfl⟩:=a8j hy
 by_cases e:j=i
 ·subst e
  exact h
 ·have:=b0w (lo:=0) sa (a0J _) i j (a3E _) (by lia) h2
  show x<kx r a j
  have:x<kx r a i:=h
  lia
theorem d1i{st0:SortSt}{mg old t:Nat}{c:T6}{st:SortSt}{Q:ForInStep T6->SortSt->Prop}(K:Asks M A s κ r a₀)(T:Two κ r a₀ a b)(e0:Eqv st0 st)(hk:kindOf st0=κ)(ec:c=(none,out,ia,ib,c.2.2.2.2.1,c.2.2.2.2.2))(m:Mg r a.toList b.toList out.toList ia ib)(ha:ia+1<a.size)(hb:ib<b.size)(hz:old+t<=out.size)
  (q1: ∀w rest,Gd r a b w->Q (.done (some w,rest)) st) (q2: ∀out ia ib x y,Mg r a.toList b.toList out.toList ia ib->ia+1<a.size->ib<b.size->old+t+1<=out.size->Q (.done (none,out,ia,ib,x,y)) st/\Q (.yield (none,out,ia,ib,x,y)) st):wpS M A E s (lo1 a b mg c) Q st:=by
 have hk':=e0.kind.trans hk
 unfold lo1
 rw[ec]
 dsimp only
 have la:=T.ma _ (a2a (show ia<a.size by lia))
 have lb:=T.mb _ (a2a hb)
 refine a0W (a0v hb (a0W (a0v (by lia) (a0W (b4n K hk' lb la ?_)))))
 by_cases w:r (b.getD ib d0)<r (a.getD ia d0)
 ·rw[a1E w]
  refine a0W (a0v hb ?_)
  have m2:=d1h T m hb (below T.sa (by lia) w)
  by_cases z:ib+1=b.size
  ·rw[if_pos (by simpa using z)]
   refine a1D (q1 _ _ ?_);show a8b r _ _ (a3m a b _ _ _).toList
   rw[a4x];exact m2.endB T.sa (by rw[a0K];lia)
  ·rw[if_neg (by simpa using z)]
   obtain⟨h1,h2⟩:=q2 _ _ _ 0 (c.2.2.2.2.2+1) m2 ha (by lia) (by rw[a4D];lia);by_cases g:c.2.2.2.2.2+1≥mg
   ·rw[if_pos g]
    exact a1D h1
   ·rw[if_neg g]
    exact a1D h2
 ·rw[a1L w]
  refine a0W (a0v (by lia) ?_)
  have ne:=T.ap _ (a2a (show ia<a.size by lia)) _ (a2a hb)
  have m2:=d4g T m (by lia) (below T.sb hb (by lia))
  by_cases z:ia+1+1=a.size
  ·rw[if_pos (by simpa using z)]
   refine a1D (q1 _ _ ?_);show a8b r _ _ (a6i a b _ _ _).toList
   rw[a6j];exact m2.last T.sb (by rw[a0K];lia) (T.tops (by lia))
  ·rw[if_neg (by simpa using z)]
   obtain⟨h1,h2⟩:=q2 _ _ _ (c.2.2.2.2.1+1) 0 m2 (by lia) hb (by rw[a4D];lia);by_cases g:c.2.2.2.2.1+1≥mg
   ·rw[if_pos g]
    exact a1D h1
   ·rw[if_neg g]
    exact a1D h2
end
section
variable{M:Model}{A:Ar}{E:VP}{s:Sh}{κ:SortKind}{r:Keyed->Int}{a₀ a b out:Array Keyed}{ia ib:Nat}
structure Rnd(r:Keyed->Int)(a b:Array Keyed)(st0:SortSt)(old:Nat)(Q:ForInStep T7->SortSt->Prop):Prop where
 q1: ∀st w rest,Eqv st0 st->Gd r a b w->Q (.done (some w,rest)) st
 q2: ∀st (out:Array Keyed) ia ib x y z,Eqv st0 st->Mg r a.toList b.toList out.toList ia ib->ia+1<a.size->ib<b.size->old<=out.size->Q (.done (none,out,ia,ib,x,y,z)) st/\Q (.yield (none,out,ia,ib,x,y,z)) st
theorem b8e{st0 st:SortSt}{mg k k1 old:Nat}{Q:ForInStep T7->SortSt->Prop}(T:Two κ r a₀ a b)(e0:Eqv st0 st)(m:Mg r a.toList b.toList out.toList ia ib)(ha:ia+1<a.size)(hb:ib<b.size)(hz:old<=out.size)(lt: ∀y∈b.toList.drop ib,r (a.getD ia d0)<r y)(q:Rnd r a b st0 old Q):wpS M A E s (lo25 a b out ia ib mg k k1) Q st:=by
 unfold lo25
 refine a0W (a0v (by lia) ?_)
 have m2:=d4g T m (by lia) lt
 by_cases z:ia+1+1=a.size
 ·rw[if_pos (by simpa using z)]
  refine a1D (q.q1 _ _ _ e0 ?_)
  show a8b r _ _ (a6i a b _ _ _).toList
  rw[a6j]
  exact m2.last T.sb (by rw[a0K];lia) (T.tops (by lia))
 ·rw[if_neg (by simpa using z)]
  obtain⟨h1,h2⟩:=q.q2 st _ _ _ mg k k1 e0 m2 (by lia) hb (by rw[a4D];lia)
  by_cases g:(decide (k<7)&&decide (k1<7))=true
  ·rw[if_pos g]
   exact a1D h1
  ·rw[if_neg g]
   exact a1D h2
theorem b8f{st0 st:SortSt}{mg k bc old:Nat}{Q:ForInStep T7->SortSt->Prop}(K:Asks M A s κ r a₀)(hk:kindOf st0=κ)(T:Two κ r a₀ a b)(e0:Eqv st0 st)(m:Mg r a.toList b.toList out.toList ia ib)(ha:ia+1<a.size)(hb:ib<b.size)(hz:old<=out.size)(lt: ∀y∈a.toList.drop ia,r (b.getD ib d0)<r y)(q:Rnd r a b st0 old Q):wpS M A E s (lo24 a b out ia ib mg k bc) Q st:=by
 have hk':=e0.kind.trans hk
 unfold lo24
 refine a0W (a0v hb ?_)
 have m1:=d1h T m hb lt
 have hz1:old<=(out.push (b.getD ib d0)).size:=by rw[a4D];lia
 generalize out.push (b.getD ib d0)=out1 at m1 hz1
 by_cases z:ib+1=b.size
 ·rw[if_pos (by simpa using z)]
  refine a1D (q.q1 _ _ _ e0 ?_)
  show a8b r _ _ (a3m a b _ _ _).toList
  rw[a4x]
  exact m1.endB T.sa (by rw[a0K];lia)
 rw[if_neg (by simpa using z)]
 have la:=a2a (show ia<a.size by lia)
 refine a0W (a0v (by lia) (a0W (a3a K hk' (by lia) (fun i hi=>T.mb _ (a2a (by lia))) (T.ma _ la) (fun i hi=>(T.ap _ la _ (a2a (show ib+1+i<b.size by lia))).symm) (b0w T.sb (by lia)) (by lia) fun k1 kn k2 k3=>?_)))
 dsimp only
 have ab: ∀y∈b.toList.drop (ib+1+k1),r (a.getD ia d0)<r y:=fun y hy=>by
  obtain⟨j,h1,h2,rfl⟩:=a8j hy
  have:=k3 (j-(ib+1)) (a8C (a9E .. ▸h1)) (Nat.sub_lt_sub_right (a0Y (a3R ..) h1) h2)
  rw[a3G (a0Y (a3R ..) h1)]at this
  exact this
 by_cases g:k1>0
 ·rw[if_pos g]
  have m2:=m1.moveB T.sb k1 (fun x hx y hy=>by
   obtain⟨j,h1,h2,rfl⟩:=b1y hx;exact below T.sa (by lia) (k2 j h1) y hy)
  rw[<-d4f,<-a2M]at m2
  have hz2:old<=(out1++b.extract (ib+1) (ib+1+k1)).size:=by rw[a7J];lia
  by_cases z2:ib+1+k1=b.size
  ·rw[if_pos (by simpa using z2)]
   refine a1D (q.q1 _ _ _ e0 ?_);show a8b r _ _ (a3m a b _ _ _).toList
   rw[a4x];exact m2.endB T.sa (by rw[a0K];lia)
  ·rw[if_neg (by simpa using z2)]
   exact b8e T e0 m2 ha (by lia) hz2 ab q
 ·rw[if_neg g]
  have e:k1=0:=Nat.eq_zero_of_not_pos g
  subst e
  exact b8e T e0 m1 ha (by lia) hz1 ab q
theorem b8g{st0 st:SortSt}{c:T7}{mg old:Nat}{Q:ForInStep T7->SortSt->Prop}(K:Asks M A s κ r a₀)(hk:kindOf st0=κ)(T:Two κ r a₀ a b)(e0:Eqv st0 st)(ec:c.2.1=out/\c.2.2.1=ia/\c.2.2.2.1=ib)(m:Mg r a.toList b.toList out.toList ia ib)(ha:ia+1<a.size)(hb:ib<b.size)(hz:old<=out.size)(q:Rnd r a b st0 old Q):wpS M A E s (lo22 a b c mg) Q st:=by
 obtain⟨e1,e2,e3⟩:=ec
 unfold lo22
 rw[e1,e2,e3]
 refine a0W (a5g fun st1 x1=>?_)
 have e4:=e0.trans x1
 have hk':=e4.kind.trans hk
 have lb:=a2a hb
 refine a0W (a0v hb (a0W (a3a K hk' (by lia) (fun i hi=>T.ma _ (a2a (by lia))) (T.mb _ lb) (fun i hi=>T.ap _ (a2a (show ia+i<a.size by lia)) _ lb) (b0w T.sa (by lia)) (by lia) fun k kn k2 k3=>?_)))
 dsimp only
 have ab: ∀y∈a.toList.drop (ia+k),r (b.getD ib d0)<r y:=fun y hy=>by
  obtain⟨j,h1,h2,rfl⟩:=a8j hy
  have:=k3 (j-ia) (a8C (a9E .. ▸h1)) (Nat.sub_lt_sub_right (a0Y (a3R ..) h1) h2)
  rw[a3G (a0Y (a3R ..) h1)]at this
  exact this
 by_cases g:k>0
 ·rw[if_pos g]
  have m2:=m.moveA T.sa k (fun x hx y hy=>by
   obtain⟨j,h1,h2,rfl⟩:=b1y hx;exact below T.sb hb (k2 j h1) y hy)
  rw[<-d4f,<-a2M]at m2
  have hz2:old<=(out++a.extract ia (ia+k)).size:=by rw[a7J];lia
  by_cases z1:ia+k+1=a.size
  ·rw[if_pos (by simpa using z1)]
   refine a1D (q.q1 _ _ _ e4 ?_);show a8b r _ _ (a6i a b _ _ _).toList
   rw[a6j];exact m2.last T.sb (by rw[a0K];lia) (T.tops (by lia))
  rw[if_neg (by simpa using z1)]
  by_cases z2:ia+k=a.size
  ·rw[if_pos (by simpa using z2)]
   refine a1D (q.q1 _ _ _ e4 ?_);show a8b r _ _ (a3m a b _ _ _).toList
   rw[a4x];exact m2.endA T.sb (by rw[a0K];lia)
  rw[if_neg (by simpa using z2)]
  exact b8f K hk T e4 m2 (by lia) hb hz2 ab q
 ·rw[if_neg g]
  have e:k=0:=Nat.eq_zero_of_not_pos g
  subst e
  exact b8f K hk T e4 m ha hb hz ab q
theorem d1j{st0 st:SortSt}{c:T7}{old:Nat}{Q:ForInStep T7->SortSt->Prop}(K:Asks M A s κ r a₀)(hk:kindOf st0=κ)(T:Two κ r a₀ a b)(e0:Eqv st0 st)(ec:c.2.1=out/\c.2.2.1=ia/\c.2.2.2.1=ib)(m:Mg r a.toList b.toList out.toList ia ib)(ha:ia+1<a.size)(hb:ib<b.size)(hz:old<=out.size)(q:Rnd r a b st0 old Q):wpS M A E s (lo2 a b c) Q st:=by
 unfold lo2
 split
 ·exact b8g K hk T e0 ec m ha hb hz q
 ·exact b8g K hk T e0 ec m ha hb hz q
theorem c3w{st0 st:SortSt}{c:T5}{Q:ForInStep T5->SortSt->Prop}{mg:Nat}(K:Asks M A s κ r a₀)(hk:kindOf st0=κ)(T:Two κ r a₀ a b)(e0:Eqv st0 st)(ec:c=(none,out,ia,ib,mg))(m:Mg r a.toList b.toList out.toList ia ib)(ha:ia+1<a.size)(hb:ib<b.size)
  (q1: ∀st w rest,Eqv st0 st->Gd r a b w->Q (.done (some w,rest)) st) (q2: ∀st (out':Array Keyed) ia ib g,Eqv st0 st->Mg r a.toList b.toList out'.toList ia ib->ia+1<a.size->ib<b.size->out.size+1<=out'.size->Q (.yield (none,out',ia,ib,g)) st):wpS M A E s (d1g a b c) Q st:=by
 subst ec
 unfold d1g
 dsimp only
 have tot:0<a.size+b.size:=by lia
 refine a0W (a5M (a3A (I:=fun x (c1:T6) st'=>Eqv st0 st'/\ ∃(o:Array Keyed) (i j u v:Nat),c1=(none,o,i,j,u,v)/\Mg r a.toList b.toList o.toList i j/\i+1<a.size/\j<b.size/\out.size+x<=o.size)
  (Q:=fun c1 st'=>Eqv st0 st'/\((∃w rest,c1=(some w,rest)/\Gd r a b w)∨ ∃(o:Array Keyed) (i j u v:Nat),c1=(none,o,i,j,u,v)/\Mg r a.toList b.toList o.toList i j/\i+1<a.size/\j<b.size/\out.size+1<=o.size)) ?step ?stop ⟨e0,out,ia,ib,0,0,rfl,m,ha,hb,a0J _⟩) ?post)
 case step=>
  rintro x c1 st' _ hx ⟨e1,o,i,j,u,v,rfl,m1,h1,h2,h3⟩
  refine d1i (old:=out.size) (t:=x) K T e1 hk rfl m1 h1 h2 h3 (fun w rest g=>⟨e1,.inl ⟨w,rest,rfl,g⟩⟩) fun o' i' j' u' v' m' h1' h2' h3'=>⟨⟨e1,.inr ⟨o',i',j',u',v',rfl,m',h1',h2',by lia⟩⟩,⟨e1,o',i',j',u',v',rfl,m',h1',h2',by lia⟩⟩
 case stop=>
  rintro c1 st' ⟨e1,o,i,j,u,v,rfl,m1,h1,h2,h3⟩
  exact⟨e1,.inr ⟨o,i,j,u,v,rfl,m1,h1,h2,by lia⟩⟩
 case post=>
  rintro c1 st' ⟨e1,h⟩
  rcases h with⟨w,rest,rfl,g⟩|⟨o,i,j,u,v,rfl,m1,h1,h2,h3⟩
  ·exact a1D (q1 _ _ _ e1 g)
  dsimp only
  refine a0W (a9P (a5R ⟨rfl,?_⟩))
  refine a0W (a5M (a3A (I:=fun x (c2:T7) st'=>Eqv st0 st'/\ ∃(o:Array Keyed) (i j u v w:Nat),c2=(none,o,i,j,u,v,w)/\Mg r a.toList b.toList o.toList i j/\i+1<a.size/\j<b.size/\out.size+1<=o.size)
   (Q:=fun c2 st'=>Eqv st0 st'/\((∃w rest,c2=(some w,rest)/\Gd r a b w)∨ ∃(o:Array Keyed) (i j u v w:Nat),c2=(none,o,i,j,u,v,w)/\Mg r a.toList b.toList o.toList i j/\i+1<a.size/\j<b.size/\out.size+1<=o.size)) ?step2 ?stop2 ⟨e1,o,i,j,mg+1,u,v,rfl,m1,h1,h2,h3⟩) ?post2)
  case step2=>
   rintro x c2 st2 _ hx ⟨e2,o,i,j,u,v,w,rfl,m2,g1,g2,g3⟩;exact d1j K hk T e2 ⟨rfl,rfl,rfl⟩ m2 g1 g2 g3 ⟨fun st w rest e g=>⟨e,.inl ⟨w,rest,rfl,g⟩⟩,fun st o' i' j' x' y' z' e m' h1' h2' h3'=>⟨⟨e,.inr ⟨o',i',j',x',y',z',rfl,m',h1',h2',h3'⟩⟩,⟨e,o',i',j',x',y',z',rfl,m',h1',h2',h3'⟩⟩⟩
  case stop2=>
   rintro c2 st2 ⟨e2,o,i,j,u,v,w,rfl,m2,g1,g2,g3⟩;exact⟨e2,.inr ⟨o,i,j,u,v,w,rfl,m2,g1,g2,g3⟩⟩
  case post2=>
   rintro c2 st2 ⟨e2,h⟩
   rcases h with⟨w,rest,rfl,g⟩|⟨o,i,j,u,v,w,rfl,m2,g1,g2,g3⟩
   ·exact a1D (q1 _ _ _ e2 g)
   ·dsimp only
    exact a0W (a5g fun st3 x3=>a1D (q2 _ _ _ _ _ (e2.trans x3) m2 g1 g2 g3))
theorem b5x{st:SortSt}{Q:Array Keyed->SortSt->Prop}(K:Asks M A s κ r a₀)(hk:kindOf st=κ)(T:Two κ r a₀ a b)(q: ∀m st',Eqv st st'->Gd r a b m->Q m st'):wpS M A E s (b1v a b) Q st:=by
 rw[b5v]
 unfold lo0
 refine a0W (a9P (a5R ⟨rfl,a0W (a0v T.b1 ?_)⟩))
 have m0:Mg r a.toList b.toList (#[]:Array Keyed).toList 0 0:=⟨by simp,List.Pairwise.nil,fun x hx=>(nomatch hx),fun x hx=>(nomatch hx)⟩
 have m1:Mg r a.toList b.toList (#[b.getD 0 d0]:Array Keyed).toList 0 1:=d1h (out:= #[]) T m0 T.b1 (fun y hy=>T.lo y hy)
 have a1:=T.a1
 have b1:=T.b1
 by_cases z1:1=b.size
 ·rw[if_pos (by simpa using z1)]
  refine a1D (q _ _ (Eqv.refl _) ?_)
  show a8b r _ _ (a3m a b _ _ _).toList
  rw[a4x]
  exact m1.endB T.sa (by rw[a0K];lia)
 rw[if_neg (by simpa using z1)]
 by_cases z2:0+1=a.size
 ·rw[if_pos (by simpa using z2)]
  refine a1D (q _ _ (Eqv.refl _) ?_)
  show a8b r _ _ (a6i a b _ _ _).toList
  rw[a6j]
  exact m1.last T.sb (by rw[a0K];lia) (T.tops (by lia))
 rw[if_neg (by simpa using z2)]
 refine a0W (a8M (a0W (a5M (a3A (I:=fun x (c:T5) st'=>Eqv st st'/\ ∃(o:Array Keyed) (i j g:Nat),c=(none,o,i,j,g)/\Mg r a.toList b.toList o.toList i j/\i+1<a.size/\j<b.size/\x+1<=o.size)
  (Q:=fun c st'=>Eqv st st'/\ ∃w rest,c=(some w,rest)/\Gd r a b w) ?step ?stop ⟨Eqv.refl _,_,0,1,_,rfl,m1,by lia,by lia,a0J _⟩) ?post)))
 case step=>
  rintro x c st' _ hx ⟨e1,o,i,j,g,rfl,m2,h1,h2,h3⟩
  exact c3w K hk T e1 rfl m2 h1 h2 (fun st w rest e g=>⟨e,w,rest,rfl,g⟩) fun st' o' i' j' g' e m' h1' h2' h3'=>⟨e,o',i',j',g',rfl,m',h1',h2',by lia⟩
 case stop=>
  rintro c st' ⟨e1,o,i,j,g,rfl,m2,h1,h2,h3⟩
  have z:=m2.len (by rw[a0K];lia) (by rw[a0K];lia)
  rw[a0K,a0K,a0K]at z
  exfalso
  lia
 case post=>
  rintro c st' ⟨e1,w,rest,rfl,g⟩
  exact a1D (q _ _ e1 g)
end
abbrev U5:Type:=Option (Array Keyed)×Nat×Nat×Array Keyed×Nat
abbrev U6:Type:=Option (Array Keyed)×Nat×Nat×Array Keyed×Nat×Nat
abbrev U7:Type:=Option (Array Keyed)×Nat×Nat×Array Keyed×Nat×Nat×Nat
section
variable(a b:Array Keyed)
abbrev a3n(out:Array Keyed)(na nb:Nat):Array Keyed:=a.extract 0 na++b.extract 0 nb++out.reverse
abbrev a4b(out:Array Keyed)(na nb:Nat):Array Keyed:=b.extract 0 nb++a.extract 0 na++out.reverse
def hi1(mg:Nat)(c:U6):StateT SortSt Sem (ForInStep U6):=do
 let some aWins <-lt' (<-elem' b (c.2.2.1-1)) (<-elem' a (c.2.1-1))|pure (.done (some (a3n a b c.2.2.2.1 c.2.1 c.2.2.1),c.2.1,c.2.2.1,c.2.2.2.1,c.2.2.2.2.1,c.2.2.2.2.2))
 if aWins then
  let x <-elem' a (c.2.1-1)
  if c.2.1-1==0 then pure (.done (some (a3n a b (c.2.2.2.1.push x) (c.2.1-1) c.2.2.1),c.2.1-1,c.2.2.1,c.2.2.2.1.push x,c.2.2.2.2.1+1,0))
  else if c.2.2.2.2.1+1≥mg then pure (.done (none,c.2.1-1,c.2.2.1,c.2.2.2.1.push x,c.2.2.2.2.1+1,0))
  else pure (.yield (none,c.2.1-1,c.2.2.1,c.2.2.2.1.push x,c.2.2.2.2.1+1,0))
 else
  let x <-elem' b (c.2.2.1-1)
  if c.2.2.1-1==1 then pure (.done (some (a4b a b (c.2.2.2.1.push x) c.2.1 (c.2.2.1-1)),c.2.1,c.2.2.1-1,c.2.2.2.1.push x,0,c.2.2.2.2.2+1))
  else if c.2.2.2.2.2+1≥mg then pure (.done (none,c.2.1,c.2.2.1-1,c.2.2.2.1.push x,0,c.2.2.2.2.2+1))
  else pure (.yield (none,c.2.1,c.2.2.1-1,c.2.2.2.1.push x,0,c.2.2.2.2.2+1))
def hi25(na nb:Nat)(out:Array Keyed)(mg k k1:Nat):StateT SortSt Sem (ForInStep U7):=do
 let x <-elem' a (na-1)
 if na-1==0 then pure (.done (some (a3n a b (out.push x) (na-1) nb),na-1,nb,out.push x,mg,k,k1))
 else if k<7&&k1<7 then pure (.done (none,na-1,nb,out.push x,mg,k,k1))
 else pure (.yield (none,na-1,nb,out.push x,mg,k,k1))
def hi24(na nb:Nat)(out:Array Keyed)(mg k bc:Nat):StateT SortSt Sem (ForInStep U7):=do
 let y <-elem' b (nb-1)
 if nb-1==1 then pure (.done (some (a4b a b (out.push y) na (nb-1)),na,nb-1,out.push y,mg,k,bc))
 else do
  let some t <-a4w true (<-elem' a (na-1)) b 0 (nb-1) (nb-1-1)|pure (.done (some (a3n a b (out.push y) na (nb-1)),na,nb-1,out.push y,mg,k,bc))
  if nb-1-t>0 then
   if t==1 then pure (.done (some (a4b a b (out.push y++(b.extract t (nb-1)).reverse) na t),na,t,out.push y++(b.extract t (nb-1)).reverse,mg,k,nb-1-t))
   else if t==0 then pure (.done (some (a3n a b (out.push y++(b.extract t (nb-1)).reverse) na t),na,t,out.push y++(b.extract t (nb-1)).reverse,mg,k,nb-1-t))
   else hi25 a b na t (out.push y++(b.extract t (nb-1)).reverse) mg k (nb-1-t)
  else hi25 a b na (nb-1) (out.push y) mg k (nb-1-t)
def hi22(c:U7)(mg:Nat):StateT SortSt Sem (ForInStep U7):=do
 a1n mg
 let some t <-a4w false (<-elem' b (c.2.2.1-1)) a 0 c.2.1 (c.2.1-1)|pure (.done (some (a3n a b c.2.2.2.1 c.2.1 c.2.2.1),c.2.1,c.2.2.1,c.2.2.2.1,mg,c.2.2.2.2.2.1,c.2.2.2.2.2.2))
 if c.2.1-t>0 then
  if t==0 then pure (.done (some (a3n a b (c.2.2.2.1++(a.extract t c.2.1).reverse) t c.2.2.1),t,c.2.2.1,c.2.2.2.1++(a.extract t c.2.1).reverse,mg,c.2.1-t,c.2.2.2.2.2.2))
  else hi24 a b t c.2.2.1 (c.2.2.2.1++(a.extract t c.2.1).reverse) mg (c.2.1-t) c.2.2.2.2.2.2
 else hi24 a b c.2.1 c.2.2.1 c.2.2.2.1 mg (c.2.1-t) c.2.2.2.2.2.2
def hi2(c:U7):StateT SortSt Sem (ForInStep U7):=if c.2.2.2.2.1>1 then hi22 a b c (c.2.2.2.2.1-1)else hi22 a b c c.2.2.2.2.1
def d1k(c:U5):StateT SortSt Sem (ForInStep U5):=do
 let c1 <-forIn [0:a.size+b.size] ((none,c.2.1,c.2.2.1,c.2.2.2.1,0,0):U6) fun _ c1=>hi1 a b c.2.2.2.2 c1
 match c1.1 with
 |some r=>pure (.done (some r,c1.2.1,c1.2.2.1,c1.2.2.2.1,c.2.2.2.2))
 | none=>do
  rule "list.sort.gallop"
  let c2 <-forIn [0:a.size+b.size] ((none,c1.2.1,c1.2.2.1,c1.2.2.2.1,c.2.2.2.2+1,c1.2.2.2.2.1,c1.2.2.2.2.2):U7) fun _ c2=>hi2 a b c2
  match c2.1 with
  |some r=>pure (.done (some r,c2.2.1,c2.2.2.1,c2.2.2.2.1,c2.2.2.2.2.1))
  |none=>do
   a1n (c2.2.2.2.2.1+1)
   pure (.yield (none,c2.2.1,c2.2.2.1,c2.2.2.2.1,c2.2.2.2.2.1+1))
def hi0:StateT SortSt Sem (Array Keyed):=do
 rule "list.sort.merge-hi"
 let x <-elem' a (a.size-1)
 if a.size-1==0 then pure (a3n a b #[x] (a.size-1) b.size)
 else if b.size==1 then pure (a4b a b #[x] (a.size-1) b.size)
 else do
  let st <-get
  let c <-forIn [0:a.size+b.size] ((none,a.size-1,b.size,#[x],gallopOf st):U5) fun _ c=>d1k a b c
  match c.1 with
  |some r=>pure r
  |none=>unsupported "internal:list.sort.merge-bound"
theorem b5y:b1w a b=hi0 a b:=by
 refine a1Z (bind _) (funext fun _=>?_)
 refine a1Z (bind (elem' a (a.size-1))) (funext fun x=>?_)
 refine a9L rfl (fun _=>rfl) (fun _=>?_)
 refine a9L rfl (fun _=>rfl) (fun _=>?_)
 refine a1Z (bind get) (funext fun st=>?_)
 refine congr (a1Z bind (a1Z (forIn [0:a.size+b.size] _) (funext fun u=>funext fun c=>?_))) (funext fun c=>?_)
 ·refine congr (a1Z bind (a1Z (forIn [0:a.size+b.size] _) (funext fun u=>funext fun c1=>rfl))) (funext fun c1=>?_)
  obtain⟨r1,out1,ia1,ib1,ac1,bc1⟩:=c1
  cases r1 with
  |some r1=>rfl
  | none=>
   refine a1Z (bind _) (funext fun _=>?_);refine congr (a1Z bind (a1Z (forIn [0:a.size+b.size] _) (funext fun u=>funext fun c2=>?_))) (funext fun c2=>?_)
   ·refine a9L rfl (fun _=>?_) (fun _=>?_)
    ·rfl
    ·rfl
   ·obtain⟨r2,_⟩:=c2
    cases r2<;>rfl
 ·obtain⟨r,_⟩:=c
  cases r<;>rfl
end
structure Mh(r:Keyed->Int)(la lb out:List Keyed)(na nb:Nat):Prop where
 perm:(la.take na++lb.take nb++out.reverse).Perm (la++lb)
 so:Up r out.reverse
 ao: ∀x∈la.take na,∀y∈out,r x<r y
 bo: ∀x∈lb.take nb,∀y∈out,r x<r y
section
variable{r:Keyed->Int}{la lb out:List Keyed}{na nb:Nat}
theorem c9k{l:List Keyed}(h:Up r l){n t:Nat}(ht:t<=n):l.take t++(l.take n).drop t=l.take n/\Up r ((l.take n).drop t)/\ ∀x∈l.take t,∀y∈(l.take n).drop t,r x<r y:=by
 have e:l.take t++(l.take n).drop t=l.take n:=by
  have z:=a2R t (l.take n)
  rwa[List.take_take,a6B ht]at z
 have z:Up r (l.take n):=a4C (a5A n l) h
 rw[<-e]at z
 obtain⟨_,h2,h3⟩:=a1P.mp z
 exact⟨e,h2,h3⟩
theorem Mh.len(m:Mh r la lb out na nb)(h1:na<=la.length)(h2:nb<=lb.length):na+nb+out.length=la.length+lb.length:=by
 have z:=m.perm.length_eq
 rw[a0M,a0M,a0M,a1N,a1N,List.length_reverse]at z
 lia
theorem Mh.moveA(m:Mh r la lb out na nb)(sa:Up r la){t:Nat}(ht:t<=na)(h: ∀x∈lb.take nb,∀y∈(la.take na).drop t,r x<r y):Mh r la lb (out++((la.take na).drop t).reverse) t nb:=by
 obtain⟨e,u,c⟩:=c9k sa ht
 have sub: ∀x∈la.take t,x∈la.take na:=fun x hx=>by rw[<-e];exact a0L.mpr (.inl hx)
 have sub2: ∀x∈(la.take na).drop t,x∈la.take na:=fun x hx=>a8D hx
 have er:(out++((la.take na).drop t).reverse).reverse=(la.take na).drop t++out.reverse:=by rw[List.reverse_append,List.reverse_reverse]
 refine⟨?_,?_,fun x hx y hy=>?_,fun x hx y hy=>?_⟩
 ·rw[er]
  refine List.Perm.trans ?_ m.perm
  conv=>rhs;rw[<-e]
  rw[a1H,a1H,a1H]
  refine a4U _ ?_
  rw[<-a1H,<-a1H]
  exact a5T _ a6D
 ·rw[er]
  exact a1P.mpr ⟨u,m.so,fun x hx y hy=>m.ao x (sub2 x hx) y (a3H.mp hy)⟩
 ·rcases a0L.mp hy with z|z
  ·exact m.ao x (sub x hx) y z
  ·exact c x hx y (a3H.mp z)
 ·rcases a0L.mp hy with z|z
  ·exact m.bo x hx y z
  ·exact h x hx y (a3H.mp z)
theorem Mh.moveB(m:Mh r la lb out na nb)(sb:Up r lb){t:Nat}(ht:t<=nb)(h: ∀x∈la.take na,∀y∈(lb.take nb).drop t,r x<r y):Mh r la lb (out++((lb.take nb).drop t).reverse) na t:=by
 obtain⟨e,u,c⟩:=c9k sb ht
 have sub: ∀x∈lb.take t,x∈lb.take nb:=fun x hx=>by rw[<-e];exact a0L.mpr (.inl hx)
 have sub2: ∀x∈(lb.take nb).drop t,x∈lb.take nb:=fun x hx=>a8D hx
 have er:(out++((lb.take nb).drop t).reverse).reverse=(lb.take nb).drop t++out.reverse:=by rw[List.reverse_append,List.reverse_reverse]
 refine⟨?_,?_,fun x hx y hy=>?_,fun x hx y hy=>?_⟩
 ·rw[er]
  refine List.Perm.trans ?_ m.perm
  conv=>rhs;rw[<-e]
  rw[a1H,a1H,a1H]
 ·rw[er]
  exact a1P.mpr ⟨u,m.so,fun x hx y hy=>m.bo x (sub2 x hx) y (a3H.mp hy)⟩
 ·rcases a0L.mp hy with z|z
  ·exact m.ao x hx y z
  ·exact h x hx y (a3H.mp z)
 ·rcases a0L.mp hy with z|z
  ·exact m.bo x (sub x hx) y z
  ·exact c x hx y (a3H.mp z)
theorem Mh.endA(m:Mh r la lb out na nb)(sb:Up r lb)(h:na=0):a8b r la lb (la.take na++lb.take nb++out.reverse):=by
 refine⟨m.perm,?_⟩
 subst h
 rw[List.take_zero,a9F]
 exact a1P.mpr ⟨a4C (a5A nb lb) sb,m.so,fun x hx y hy=>m.bo x hx y (a3H.mp hy)⟩
theorem Mh.endB(m:Mh r la lb out na nb)(sa:Up r la)(h:nb=0):a8b r la lb (la.take na++lb.take nb++out.reverse):=by
 refine⟨m.perm,?_⟩
 subst h
 rw[List.take_zero,a2K]
 exact a1P.mpr ⟨a4C (a5A na la) sa,m.so,fun x hx y hy=>m.ao x hx y (a3H.mp hy)⟩
theorem Mh.first(m:Mh r la lb out na nb)(sa:Up r la)(sb:Up r lb)(bot: ∀y∈lb.take nb,∀x∈la,r y<r x):a8b r la lb (lb.take nb++la.take na++out.reverse):=by
 refine⟨List.Perm.trans (a5T _ a6D) m.perm,?_⟩
 refine a1P.mpr ⟨a1P.mpr ⟨a4C (a5A nb lb) sb,a4C (a5A na la) sa,fun y hy x hx=>bot y hy x (a4K hx)⟩,m.so,fun x hx y hy=>?_⟩
 rcases a0L.mp hx with z|z
 ·exact m.bo x z y (a3H.mp hy)
 ·exact m.ao x z y (a3H.mp hy)
end
section
variable{M:Model}{A:Ar}{E:VP}{s:Sh}{κ:SortKind}{r:Keyed->Int}{a₀ a b out:Array Keyed}{na nb:Nat}
theorem c7s(a:Array Keyed)(i:Nat):(a.extract 0 i).toList=a.toList.take i:=by
 rw[a6H,a4W,List.drop_zero,Nat.sub_zero]
theorem d1l(a:Array Keyed)(t n:Nat):(a.extract t n).toList=(a.toList.take n).drop t:=by
 rw[a6H,a4W,List.drop_take]
theorem a3g:(a3n a b out na nb).toList=a.toList.take na++b.toList.take nb++out.toList.reverse:=by
 rw[a2M,a2M,c7s,c7s,a6I]
theorem a3o:(a4b a b out na nb).toList=b.toList.take nb++a.toList.take na++out.toList.reverse:=by
 rw[a2M,a2M,c7s,c7s,a6I]
theorem a6l{n:Nat}{x:Keyed}(h:x∈a.toList.take n): ∃j,j<n/\j<a.size/\a.getD j d0=x:=by
 obtain⟨j,h1,h2,h3⟩:=b1y (i:=0) (k:=n) (by rw[List.drop_zero];exact h)
 rw[a7R]at h2 h3
 exact⟨j,h1,h2,h3⟩
theorem b1z{t n:Nat}{x:Keyed}(h:x∈(a.toList.take n).drop t): ∃j,t<=j/\j<n/\j<a.size/\a.getD j d0=x:=by
 obtain⟨j,hj⟩:=a4X h
 rw[a6W,a8U]at hj
 split at hj
 ·next l=>
  rw[a1X]at hj
  exact⟨t+j,by lia,l,(a3T.mp hj).1,a7g hj⟩
 ·cases hj
theorem b2a{n:Nat}(h:n<a.size):(a.toList.take (n+1)).drop n=[a.getD n d0]:=by
 rw[List.drop_take,b5w h,a5N]
 rfl
theorem b8h{x:Int}{n:Nat}(sa:Up r a.toList)(ha:n<a.size)(h:r (a.getD n d0)<x): ∀y∈a.toList.take (n+1),r y<x:=fun y hy=>by
 obtain⟨j,h1,h2,rfl⟩:=a6l hy
 by_cases e:j=n
 ·subst e
  exact h
 ·have:=b0w (lo:=0) sa (a0J _) j n (a3E _) (by lia) ha
  show kx r a j<x
  have:kx r a n<x:=h
  lia
theorem c3x(t:Two κ r a₀ a b)(m:Mh r a.toList b.toList out.toList (na+1) nb)(ha:na<a.size)(h: ∀y∈b.toList.take nb,r y<r (a.getD na d0)):Mh r a.toList b.toList (out.push (a.getD na d0)).toList na nb:=by
 have z:=m.moveA t.sa (t:=na) (a6M _) (by rw[b2a ha];intro x hx y hy;rw[a0H.mp hy];exact h x hx)
 rw[b2a ha]at z
 rw[a6k]
 exact z
theorem c9l(t:Two κ r a₀ a b)(m:Mh r a.toList b.toList out.toList na (nb+1))(hb:nb<b.size)(h: ∀y∈a.toList.take na,r y<r (b.getD nb d0)):Mh r a.toList b.toList (out.push (b.getD nb d0)).toList na nb:=by
 have z:=m.moveB t.sb (t:=nb) (a6M _) (by rw[b2a hb];intro x hx y hy;rw[a0H.mp hy];exact h x hx)
 rw[b2a hb]at z
 rw[a6k]
 exact z
theorem Two.bot(t:Two κ r a₀ a b): ∀y∈b.toList.take 1,∀x∈a.toList,r y<r x:=fun y hy x hx=>by
 obtain⟨j,h1,h2,rfl⟩:=a6l hy
 have e:j=0:=by lia
 subst e
 exact t.lo x hx
theorem d1m{st0:SortSt}{mg old t:Nat}{c:U6}{st:SortSt}{Q:ForInStep U6->SortSt->Prop}(K:Asks M A s κ r a₀)(T:Two κ r a₀ a b)(e0:Eqv st0 st)(hk:kindOf st0=κ)(ec:c=(none,na+1,nb+2,out,c.2.2.2.2.1,c.2.2.2.2.2))(m:Mh r a.toList b.toList out.toList (na+1) (nb+2))(ha:na<a.size)(hb:nb+1<b.size)(hz:old+t<=out.size)
  (q1: ∀w rest,Gd r a b w->Q (.done (some w,rest)) st) (q2: ∀na nb (out:Array Keyed) x y,Mh r a.toList b.toList out.toList (na+1) (nb+2)->na<a.size->nb+1<b.size->old+t+1<=out.size->Q (.done (none,na+1,nb+2,out,x,y)) st/\Q (.yield (none,na+1,nb+2,out,x,y)) st):wpS M A E s (hi1 a b mg c) Q st:=by
 have hk':=e0.kind.trans hk
 unfold hi1
 rw[ec]
 dsimp only
 have la:=T.ma _ (a2a ha)
 have lb:=T.mb _ (a2a hb)
 rw[show nb+2-1=nb+1 by lia,show na+1-1=na by lia]
 refine a0W (a0v hb (a0W (a0v ha (a0W (b4n K hk' lb la ?_)))))
 by_cases w:r (b.getD (nb+1) d0)<r (a.getD na d0)
 ·rw[a1E w]
  refine a0W (a0v ha ?_)
  have m2:=c3x T m ha (b8h T.sb hb w)
  by_cases z:na=0
  ·rw[if_pos (by simpa using z)]
   refine a1D (q1 _ _ ?_);show a8b r _ _ (a3n a b _ _ _).toList
   rw[a3g];exact m2.endA T.sb z
  ·rw[if_neg (by simpa using z)]
   obtain⟨n',rfl⟩: ∃n',na=n'+1:=a2A (by first|assumption|lia);obtain⟨h1,h2⟩:=q2 n' nb _ (c.2.2.2.2.1+1) 0 m2 (by lia) hb (by rw[a4D];lia);by_cases g:c.2.2.2.2.1+1≥mg
   ·rw[if_pos g]
    exact a1D h1
   ·rw[if_neg g]
    exact a1D h2
 ·rw[a1L w]
  refine a0W (a0v hb ?_)
  have ne:=T.ap _ (a2a ha) _ (a2a hb)
  have m2:=c9l T m hb (b8h T.sa ha (by lia))
  by_cases z:nb+1=1
  ·rw[if_pos (by simpa using z)]
   refine a1D (q1 _ _ ?_);show a8b r _ _ (a4b a b _ _ _).toList
   rw[a3o];exact m2.first T.sa T.sb (by rw[z];exact T.bot)
  ·rw[if_neg (by simpa using z)]
   obtain⟨n',rfl⟩: ∃n',nb=n'+1:=a2A (by first|assumption|lia);obtain⟨h1,h2⟩:=q2 na n' _ 0 (c.2.2.2.2.2+1) m2 ha (by lia) (by rw[a4D];lia);by_cases g:c.2.2.2.2.2+1≥mg
   ·rw[if_pos g]
    exact a1D h1
   ·rw[if_neg g]
    exact a1D h2
structure RndH(r:Keyed->Int)(a b:Array Keyed)(st0:SortSt)(old:Nat)(Q:ForInStep U7->SortSt->Prop):Prop where
 q1: ∀st w rest,Eqv st0 st->Gd r a b w->Q (.done (some w,rest)) st
 q2: ∀st na nb (out:Array Keyed) x y z,Eqv st0 st->Mh r a.toList b.toList out.toList (na+1) (nb+2)->na<a.size->nb+1<b.size->old<=out.size->Q (.done (none,na+1,nb+2,out,x,y,z)) st/\Q (.yield (none,na+1,nb+2,out,x,y,z)) st
theorem b8i{st0 st:SortSt}{mg k k1 old:Nat}{Q:ForInStep U7->SortSt->Prop}(T:Two κ r a₀ a b)(e0:Eqv st0 st)(m:Mh r a.toList b.toList out.toList (na+1) (nb+2))(ha:na<a.size)(hb:nb+1<b.size)(hz:old<=out.size)(lt: ∀y∈b.toList.take (nb+2),r y<r (a.getD na d0))(q:RndH r a b st0 old Q):wpS M A E s (hi25 a b (na+1) (nb+2) out mg k k1) Q st:=by
 unfold hi25
 rw[show na+1-1=na by lia]
 refine a0W (a0v ha ?_)
 have m2:=c3x T m ha lt
 by_cases z:na=0
 ·rw[if_pos (by simpa using z)]
  refine a1D (q.q1 _ _ _ e0 ?_)
  show a8b r _ _ (a3n a b _ _ _).toList
  rw[a3g]
  exact m2.endA T.sb z
 ·rw[if_neg (by simpa using z)]
  obtain⟨n',rfl⟩: ∃n',na=n'+1:=a2A (by first|assumption|lia)
  obtain⟨h1,h2⟩:=q.q2 st n' nb _ mg k k1 e0 m2 (by lia) hb (by rw[a4D];lia)
  by_cases g:(decide (k<7)&&decide (k1<7))=true
  ·rw[if_pos g]
   exact a1D h1
  ·rw[if_neg g]
   exact a1D h2
theorem b8j{st0 st:SortSt}{mg k bc old:Nat}{Q:ForInStep U7->SortSt->Prop}(K:Asks M A s κ r a₀)(hk:kindOf st0=κ)(T:Two κ r a₀ a b)(e0:Eqv st0 st)(m:Mh r a.toList b.toList out.toList (na+1) (nb+2))(ha:na<a.size)(hb:nb+1<b.size)(hz:old<=out.size)(lt: ∀y∈a.toList.take (na+1),r y<r (b.getD (nb+1) d0))(q:RndH r a b st0 old Q):wpS M A E s (hi24 a b (na+1) (nb+2) out mg k bc) Q st:=by
 have hk':=e0.kind.trans hk
 unfold hi24
 rw[show nb+2-1=nb+1 by lia,show na+1-1=na by lia]
 refine a0W (a0v hb ?_)
 have m1:=c9l T m hb lt
 have hz1:old<=(out.push (b.getD (nb+1) d0)).size:=by rw[a4D];lia
 generalize out.push (b.getD (nb+1) d0)=out1 at m1 hz1
 by_cases z:nb+1=1
 ·rw[if_pos (by simpa using z)]
  refine a1D (q.q1 _ _ _ e0 ?_)
  show a8b r _ _ (a4b a b _ _ _).toList
  rw[a3o]
  exact m1.first T.sa T.sb (by rw[z];exact T.bot)
 rw[if_neg (by simpa using z)]
 have la:=a2a ha
 refine a0W (a0v ha (a0W (a3a K hk' (by lia) (fun i hi=>T.mb _ (a2a (by lia))) (T.ma _ la) (fun i hi=>(T.ap _ la _ (a2a (show 0+i<b.size by lia))).symm) (b0w T.sb (by lia)) (by lia) fun t kn k2 k3=>?_)))
 dsimp only
 have bl: ∀y∈b.toList.take t,r y<r (a.getD na d0):=fun y hy=>by
  obtain⟨j,h1,h2,rfl⟩:=a6l hy
  have:=k2 j h1
  rw[a7R]at this
  exact this
 by_cases g:nb+1-t>0
 ·rw[if_pos g]
  have m2:=m1.moveB T.sb (t:=t) (by lia) (fun x hx y hy=>by
   obtain⟨j,h1,h2,h3,rfl⟩:=b1z hy;have:=k3 j h1 (by lia)
   rw[a7R]at this;exact b8h T.sa ha this x hx)
  rw[<-d1l,<-a6I,<-a2M]at m2
  have hz2:old<=(out1++(b.extract t (nb+1)).reverse).size:=by rw[a7J];lia
  by_cases z1:t=1
  ·rw[if_pos (by simpa using z1)]
   refine a1D (q.q1 _ _ _ e0 ?_);show a8b r _ _ (a4b a b _ _ _).toList
   rw[a3o];exact m2.first T.sa T.sb (by rw[z1];exact T.bot)
  rw[if_neg (by simpa using z1)]
  by_cases z2:t=0
  ·rw[if_pos (by simpa using z2)]
   refine a1D (q.q1 _ _ _ e0 ?_);show a8b r _ _ (a3n a b _ _ _).toList
   rw[a3g];exact m2.endB T.sa z2
  rw[if_neg (by simpa using z2)]
  obtain⟨n',rfl⟩: ∃n',t=n'+2:=⟨t-2,by lia⟩
  exact b8i T e0 m2 ha (by lia) hz2 bl q
 ·rw[if_neg g]
  have e:t=nb+1:=by lia
  obtain⟨n',rfl⟩: ∃n',nb=n'+1:=a2A (by first|assumption|lia)
  subst e
  exact b8i T e0 m1 ha (by lia) hz1 bl q
theorem b8k{st0 st:SortSt}{c:U7}{mg old:Nat}{Q:ForInStep U7->SortSt->Prop}(K:Asks M A s κ r a₀)(hk:kindOf st0=κ)(T:Two κ r a₀ a b)(e0:Eqv st0 st)(ec:c.2.1=na+1/\c.2.2.1=nb+2/\c.2.2.2.1=out)(m:Mh r a.toList b.toList out.toList (na+1) (nb+2))(ha:na<a.size)(hb:nb+1<b.size)(hz:old<=out.size)(q:RndH r a b st0 old Q):wpS M A E s (hi22 a b c mg) Q st:=by
 obtain⟨e1,e2,e3⟩:=ec
 unfold hi22
 rw[e1,e2,e3]
 rw[show nb+2-1=nb+1 by lia,show na+1-1=na by lia]
 refine a0W (a5g fun st1 x1=>?_)
 have e4:=e0.trans x1
 have hk':=e4.kind.trans hk
 have lb:=a2a hb
 refine a0W (a0v hb (a0W (a3a K hk' (by lia) (fun i hi=>T.ma _ (a2a (by lia))) (T.mb _ lb) (fun i hi=>T.ap _ (a2a (show 0+i<a.size by lia)) _ lb) (b0w T.sa (by lia)) (by lia) fun t kn k2 k3=>?_)))
 dsimp only
 have bl: ∀y∈a.toList.take t,r y<r (b.getD (nb+1) d0):=fun y hy=>by
  obtain⟨j,h1,h2,rfl⟩:=a6l hy
  have:=k2 j h1
  rw[a7R]at this
  exact this
 by_cases g:na+1-t>0
 ·rw[if_pos g]
  have m2:=m.moveA T.sa (t:=t) (by lia) (fun x hx y hy=>by
   obtain⟨j,h1,h2,h3,rfl⟩:=b1z hy;have:=k3 j h1 (by lia)
   rw[a7R]at this;exact b8h T.sb hb this x hx)
  rw[<-d1l,<-a6I,<-a2M]at m2
  have hz2:old<=(out++(a.extract t (na+1)).reverse).size:=by rw[a7J];lia
  by_cases z2:t=0
  ·rw[if_pos (by simpa using z2)]
   refine a1D (q.q1 _ _ _ e4 ?_);show a8b r _ _ (a3n a b _ _ _).toList
   rw[a3g];exact m2.endA T.sb z2
  rw[if_neg (by simpa using z2)]
  obtain⟨n',rfl⟩: ∃n',t=n'+1:=a2A (by first|assumption|lia)
  exact b8j K hk T e4 m2 (by lia) hb hz2 bl q
 ·rw[if_neg g]
  have e:t=na+1:=by lia
  subst e
  exact b8j K hk T e4 m ha hb hz bl q
theorem d1n{st0 st:SortSt}{c:U7}{old:Nat}{Q:ForInStep U7->SortSt->Prop}(K:Asks M A s κ r a₀)(hk:kindOf st0=κ)(T:Two κ r a₀ a b)(e0:Eqv st0 st)(ec:c.2.1=na+1/\c.2.2.1=nb+2/\c.2.2.2.1=out)(m:Mh r a.toList b.toList out.toList (na+1) (nb+2))(ha:na<a.size)(hb:nb+1<b.size)(hz:old<=out.size)(q:RndH r a b st0 old Q):wpS M A E s (hi2 a b c) Q st:=by
 unfold hi2
 split
 ·exact b8k K hk T e0 ec m ha hb hz q
 ·exact b8k K hk T e0 ec m ha hb hz q
theorem c3y{st0 st:SortSt}{c:U5}{Q:ForInStep U5->SortSt->Prop}{mg:Nat}(K:Asks M A s κ r a₀)(hk:kindOf st0=κ)(T:Two κ r a₀ a b)(e0:Eqv st0 st)(ec:c=(none,na+1,nb+2,out,mg))(m:Mh r a.toList b.toList out.toList (na+1) (nb+2))(ha:na<a.size)(hb:nb+1<b.size)
  (q1: ∀st w rest,Eqv st0 st->Gd r a b w->Q (.done (some w,rest)) st) (q2: ∀st na nb (out':Array Keyed) g,Eqv st0 st->Mh r a.toList b.toList out'.toList (na+1) (nb+2)->na<a.size->nb+1<b.size->out.size+1<=out'.size->Q (.yield (none,na+1,nb+2,out',g)) st):wpS M A E s (d1k a b c) Q st:=by
 subst ec
 unfold d1k
 dsimp only
 have tot:0<a.size+b.size:=by lia
 refine a0W (a5M (a3A (I:=fun x (c1:U6) st'=>Eqv st0 st'/\ ∃(i j:Nat) (o:Array Keyed) (u v:Nat),c1=(none,i+1,j+2,o,u,v)/\Mh r a.toList b.toList o.toList (i+1) (j+2)/\i<a.size/\j+1<b.size/\out.size+x<=o.size)
  (Q:=fun c1 st'=>Eqv st0 st'/\((∃w rest,c1=(some w,rest)/\Gd r a b w)∨ ∃(i j:Nat) (o:Array Keyed) (u v:Nat),c1=(none,i+1,j+2,o,u,v)/\Mh r a.toList b.toList o.toList (i+1) (j+2)/\i<a.size/\j+1<b.size/\out.size+1<=o.size)) ?step ?stop ⟨e0,na,nb,out,0,0,rfl,m,ha,hb,a0J _⟩) ?post)
 case step=>
  rintro x c1 st' _ hx ⟨e1,i,j,o,u,v,rfl,m1,h1,h2,h3⟩
  refine d1m (old:=out.size) (t:=x) K T e1 hk rfl m1 h1 h2 h3 (fun w rest g=>⟨e1,.inl ⟨w,rest,rfl,g⟩⟩) fun i' j' o' u' v' m' h1' h2' h3'=>⟨⟨e1,.inr ⟨i',j',o',u',v',rfl,m',h1',h2',by lia⟩⟩,⟨e1,i',j',o',u',v',rfl,m',h1',h2',by lia⟩⟩
 case stop=>
  rintro c1 st' ⟨e1,i,j,o,u,v,rfl,m1,h1,h2,h3⟩
  exact⟨e1,.inr ⟨i,j,o,u,v,rfl,m1,h1,h2,by lia⟩⟩
 case post=>
  rintro c1 st' ⟨e1,h⟩
  rcases h with⟨w,rest,rfl,g⟩|⟨i,j,o,u,v,rfl,m1,h1,h2,h3⟩
  ·exact a1D (q1 _ _ _ e1 g)
  dsimp only
  refine a0W (a9P (a5R ⟨rfl,?_⟩))
  refine a0W (a5M (a3A (I:=fun x (c2:U7) st'=>Eqv st0 st'/\ ∃(i j:Nat) (o:Array Keyed) (u v w:Nat),c2=(none,i+1,j+2,o,u,v,w)/\Mh r a.toList b.toList o.toList (i+1) (j+2)/\i<a.size/\j+1<b.size/\out.size+1<=o.size)
   (Q:=fun c2 st'=>Eqv st0 st'/\((∃w rest,c2=(some w,rest)/\Gd r a b w)∨ ∃(i j:Nat) (o:Array Keyed) (u v w:Nat),c2=(none,i+1,j+2,o,u,v,w)/\Mh r a.toList b.toList o.toList (i+1) (j+2)/\i<a.size/\j+1<b.size/\out.size+1<=o.size)) ?step2 ?stop2 ⟨e1,i,j,o,mg+1,u,v,rfl,m1,h1,h2,h3⟩) ?post2)
  case step2=>
   rintro x c2 st2 _ hx ⟨e2,i,j,o,u,v,w,rfl,m2,g1,g2,g3⟩;exact d1n K hk T e2 ⟨rfl,rfl,rfl⟩ m2 g1 g2 g3 ⟨fun st w rest e g=>⟨e,.inl ⟨w,rest,rfl,g⟩⟩,fun st i' j' o' x' y' z' e m' h1' h2' h3'=>⟨⟨e,.inr ⟨i',j',o',x',y',z',rfl,m',h1',h2',h3'⟩⟩,⟨e,i',j',o',x',y',z',rfl,m',h1',h2',h3'⟩⟩⟩
  case stop2=>
   rintro c2 st2 ⟨e2,i,j,o,u,v,w,rfl,m2,g1,g2,g3⟩;exact⟨e2,.inr ⟨i,j,o,u,v,w,rfl,m2,g1,g2,g3⟩⟩
  case post2=>
   rintro c2 st2 ⟨e2,h⟩
   rcases h with⟨w,rest,rfl,g⟩|⟨i,j,o,u,v,w,rfl,m2,g1,g2,g3⟩
   ·exact a1D (q1 _ _ _ e2 g)
   ·dsimp only
    exact a0W (a5g fun st3 x3=>a1D (q2 _ _ _ _ _ (e2.trans x3) m2 g1 g2 g3))
theorem b5z{st:SortSt}{Q:Array Keyed->SortSt->Prop}(K:Asks M A s κ r a₀)(hk:kindOf st=κ)(T:Two κ r a₀ a b)(q: ∀m st',Eqv st st'->Gd r a b m->Q m st'):wpS M A E s (b1w a b) Q st:=by
 rw[b5y]
 unfold hi0
 have a1:=T.a1
 have b1:=T.b1
 obtain⟨n,hn⟩: ∃n,a.size=n+1:=a2A (by first|assumption|lia)
 have en:a.size-1=n:=by lia
 rw[en]
 refine a0W (a9P (a5R ⟨rfl,a0W (a0v (by lia) ?_)⟩))
 have m0:Mh r a.toList b.toList (#[]:Array Keyed).toList (n+1) b.size:=⟨by rw[a5S (by rw[a0K];lia),a5S (by rw[a0K];exact a0J _)];simp,List.Pairwise.nil,fun x _ y hy=>(nomatch hy),fun x _ y hy=>(nomatch hy)⟩
 have m1:Mh r a.toList b.toList (#[a.getD n d0]:Array Keyed).toList n b.size:=c3x (out:= #[]) T m0 (by lia) (fun y hy=>by have:=T.top y (a4K hy);rw[en]at this;exact this)
 by_cases z1:n=0
 ·rw[if_pos (by simpa using z1)]
  refine a1D (q _ _ (Eqv.refl _) ?_)
  show a8b r _ _ (a3n a b _ _ _).toList
  rw[a3g]
  exact m1.endA T.sb z1
 rw[if_neg (by simpa using z1)]
 by_cases z2:b.size=1
 ·rw[if_pos (by simpa using z2)]
  refine a1D (q _ _ (Eqv.refl _) ?_)
  show a8b r _ _ (a4b a b _ _ _).toList
  rw[a3o]
  exact m1.first T.sa T.sb (by rw[z2];exact T.bot)
 rw[if_neg (by simpa using z2)]
 obtain⟨n',rfl⟩: ∃n',n=n'+1:=a2A (by first|assumption|lia)
 obtain⟨k',hk'⟩: ∃k',b.size=k'+2:=⟨b.size-2,by lia⟩
 rw[hk']at m1
 refine a0W (a8M (a0W (a5M (a3A (I:=fun x (c:U5) st'=>Eqv st st'/\ ∃(i j:Nat) (o:Array Keyed) (g:Nat),c=(none,i+1,j+2,o,g)/\Mh r a.toList b.toList o.toList (i+1) (j+2)/\i<a.size/\j+1<b.size/\x+1<=o.size)
  (Q:=fun c st'=>Eqv st st'/\ ∃w rest,c=(some w,rest)/\Gd r a b w) ?step ?stop ⟨Eqv.refl _,n',k',_,_,by rw[hk'],m1,by lia,by lia,a0J _⟩) ?post)))
 case step=>
  rintro x c st' _ hx ⟨e1,i,j,o,g,rfl,m2,h1,h2,h3⟩
  exact c3y K hk T e1 rfl m2 h1 h2 (fun st w rest e g=>⟨e,w,rest,rfl,g⟩) fun st' i' j' o' g' e m' h1' h2' h3'=>⟨e,i',j',o',g',rfl,m',h1',h2',by lia⟩
 case stop=>
  rintro c st' ⟨e1,i,j,o,g,rfl,m2,h1,h2,h3⟩
  have z:=m2.len (by rw[a0K];lia) (by rw[a0K];lia)
  rw[a0K,a0K,a0K]at z
  exfalso
  lia
 case post=>
  rintro c st' ⟨e1,w,rest,rfl,g⟩
  exact a1D (q _ _ e1 g)
end
theorem b6a(i:Nat):mergeAt' i=(do
 let s <-get
 let(some (sa,na,power),some (sb,nb,_)):=((pendingOf s)[i]?,(pendingOf s)[i+1]?)|unsupported "internal:list.sort.pending"
 set (setPending s (((pendingOf s).setIfInBounds i (sa,na+nb,power)).eraseIdxIfInBounds (i+1)))
 let some k <-a4w false (<-elem' (arrOf s) sb) (arrOf s) sa na 0|return false
 let(sa,na):=(sa+k,na-k)
 if na==0 then return true
 let some nb <-a4w true (<-elem' (arrOf s) (sa+na-1)) (arrOf s) sb nb (nb-1)|return false
 if nb==0 then return true
 let x:=(arrOf s).extract sa sb
 let y:=(arrOf s).extract sb (sb+nb)
 let merged <-if na<=nb then b1v x y else b1w x y
 modify fun s=>setArr s (merged.toList.zipIdx.foldl (fun a (p,j)=>a.setIfInBounds (sa+j) p) (arrOf s))
 return (failedOf (<-get)).isNone):=rfl
section
variable{M:Model}{A:Ar}{E:VP}{s:Sh}{κ:SortKind}{r:Keyed->Int}{a₀ xs ys:Array Keyed}
theorem d1o{st st':SortSt}{Q:PUnit->SortSt->Prop}(h:Q ⟨⟩ st'):wpS M A E s (set st':StateT SortSt Sem PUnit) Q st:=by
 unfold wpS
 rw[StateT.run_set]
 exact a0F ⟨rfl,h⟩
theorem laid: ∀(ms:List Keyed) (j b:Nat) (xs:Array Keyed),b+j+ms.length<=xs.size->((ms.zipIdx j).foldl (fun a (p,j)=>a.setIfInBounds (b+j) p) xs).toList=xs.toList.take (b+j)++ms++xs.toList.drop (b+j+ms.length)
 | [],j,b,xs,_=>by
  rw[a2K,List.length_nil,a8R]
  exact(a2R _ _).symm
 | m::ms,j,b,xs,h=>by
  rw[a2W]at h
  rw[List.zipIdx_cons,a9D,laid ms (j+1) b _ (by rw[Array.size_setIfInBounds];lia),a8P,a2W]
  have hl:b+j<xs.toList.length:=by rw[a0K];lia
  have e1:(xs.toList.set (b+j) m).take (b+(j+1))=xs.toList.take (b+j)++[m]:=by
   rw[show b+(j+1)=b+j+1 by lia,List.take_succ_eq_append_getElem (by rw[a5B];exact hl),List.getElem_set_self,List.take_set_of_le (a0J _)]
  have e2:(xs.toList.set (b+j) m).drop (b+(j+1)+ms.length)=xs.toList.drop (b+j+(ms.length+1)):=by
   rw[List.drop_set_of_lt (by lia)]
   congr 1
   lia
  rw[e1,e2,a1H,a1H,a1H]
  rfl
theorem b2b(xs:Array Keyed)(t n:Nat):(xs.extract t n).toList=(xs.toList.take n).drop t:=d1l xs t n
theorem a8k{t n:Nat}(h:n<=xs.size):(xs.extract t n).size=n-t:=by rw[Array.size_extract];lia
theorem b2c{t n i:Nat}(h:n<=xs.size)(hi:t+i<n):(xs.extract t n).getD i d0=xs.getD (t+i) d0:=by
 refine a2j ?_
 rw[Array.getElem?_extract,if_pos (by lia)]
theorem a6m{l:List Keyed}{ys:Array Keyed}(h:ys.toList=l)(i:Nat):ys[i]? =l[i]? :=by rw[<-h,a1X]
theorem b6b{st:SortSt}{i sa na pw sb nb pw2:Nat}{Q:Bool->SortSt->Prop}(K:Asks M A s κ r a₀)(B:StOk κ a₀ st)(h1:(pendingOf st)[i]? =some (sa,na,pw))(h2:(pendingOf st)[i+1]? =some (sb,nb,pw2))(es:sb=sa+na)(na1:1<=na)(nb1:1<=nb)(hz:sb+nb<=a₀.size)
  (ua:Ris r (arrOf st) sa (sa+na)) (ub:Ris r (arrOf st) sb (sb+nb))
  (q: ∀st',StOk κ a₀ st'->pendingOf st'=((pendingOf st).setIfInBounds i (sa,na+nb,pw)).eraseIdxIfInBounds (i+1)->Out (arrOf st) (arrOf st') sa (sb+nb)->Ris r (arrOf st') sa (sb+nb)->Q true st'):wpS M A E s (mergeAt' i) Q st:=by
 have sz:=a2s B.perm
 subst es
 rw[b6a]
 refine a0W (a8M ?_)
 rw[h1,h2]
 dsimp only
 refine a0W (d1o ?_)
 generalize hP:((pendingOf st).setIfInBounds i (sa,na+nb,pw)).eraseIdxIfInBounds (i+1)=P at q⊢
 have B1:StOk κ a₀ (setPending st P):=⟨B.kind,B.perm,B.ok⟩
 generalize hx:arrOf st=xs at ua ub q sz⊢
 have pm:xs.Perm a₀:=hx▸B.perm
 have mem: ∀j,j<a₀.size->xs.getD j d0∈a₀:=fun j hj=>a8i pm hj
 have ap: ∀i j,i<a₀.size->j<a₀.size->i≠j->kx r xs i≠kx r xs j:=fun i j hi hj ij=>K.apart pm hi hj ij
 refine a0W (a0v (by lia) (a0W (a3a K B1.kind (by lia) (fun j hj=>mem _ (by lia)) (mem _ (by lia)) (fun j hj=>ap _ _ (by lia) (by lia) (by lia)) ua (by lia) fun k kn k2 k3=>?_)))
 dsimp only
 by_cases z0:na-k=0
 ·rw[if_pos (by simpa using z0)]
  refine a1D (q _ B1 rfl (by show Out xs (arrOf st) _ _;rw[hx];exact Out.refl _ _ _) ?_)
  show Ris r (arrOf st) _ _
  rw[hx]
  intro i j g1 g2 g3
  by_cases c1:j<sa+na
  ·exact ua i j g1 g2 c1
  by_cases c2:sa+na<=i
  ·exact ub i j c2 g2 g3
  have l1:=k2 (i-sa) (by lia)
  rw[a3G g1]at l1
  have l1:kx r xs i<kx r xs (sa+na):=l1
  by_cases c3:j=sa+na
  ·rw[c3]
   exact l1
  ·exact a8T l1 (ub (sa+na) j (a0J _) (a5V (Nat.not_lt.mp c1) (a3K c3)) g3)
 rw[if_neg (by simpa using z0)]
 have kl:k<na:=by lia
 clear z0
 have dk: ∀_:Unit,sa+k+(na-k)=sa+na:=fun _=>by lia
 rw[dk ()]
 refine a0W (a0v (by lia) (a0W (a3a K B1.kind (by lia) (fun j hj=>mem _ (by lia)) (mem _ (by lia)) (fun j hj=>ap _ _ (by lia) (by lia) (by lia)) ub (by lia) fun n2 nn n2a n2b=>?_)))
 dsimp only
 have bk:kx r xs (sa+na)<kx r xs (sa+k):=by
  have:=k3 k (a0J _) (by lia)
  exact this
 have klast:kx r xs (sa+k)<=kx r xs (sa+na-1):=by
  by_cases c:sa+k=sa+na-1
  ·rw[c]
   exact Int.le_refl _
  ·exact Int.le_of_lt (ua (sa+k) (sa+na-1) (by lia) (by lia) (by lia))
 have n20:n2≠0:=fun z=>by
  subst z
  have:=n2b 0 (a0J _) (by lia)
  rw[a8R]at this
  exact absurd this (Int.not_lt.mpr (Int.le_trans (Int.le_of_lt bk) klast))
 rw[if_neg (by simpa using n20)]
 have sx:(xs.extract (sa+k) (sa+na)).size=na-k:=by rw[a8k (by lia)];exact Nat.add_sub_add_left ..
 have sy:(xs.extract (sa+na) (sa+na+n2)).size=n2:=by rw[a8k (by lia)];exact a5N ..
 have mx: ∀x∈(xs.extract (sa+k) (sa+na)).toList,∃j,sa+k<=j/\j<sa+na/\xs.getD j d0=x:=fun x hx=>by
  rw[b2b]at hx
  obtain⟨j,g1,g2,_,g3⟩:=b1z hx
  exact⟨j,g1,g2,g3⟩
 have my: ∀x∈(xs.extract (sa+na) (sa+na+n2)).toList,∃j,sa+na<=j/\j<sa+na+n2/\xs.getD j d0=x:=fun x hx=>by
  rw[b2b]at hx
  obtain⟨j,g1,g2,_,g3⟩:=b1z hx
  exact⟨j,g1,g2,g3⟩
 have upx: ∀(t n:Nat),n<=xs.size->Ris r xs t n->Up r (xs.extract t n).toList:=fun t n hn ur=>by
  refine a2S.mpr fun i j hi hj ij=>?_
  rw[a0K,a8k hn]at hi hj
  have e: ∀c (hc:c<(xs.extract t n).toList.length),(xs.extract t n).toList[c]=xs.getD (t+c) d0:=fun c hc=>by
   rw[a0K,a8k hn]at hc;rw[<-b2c hn (by lia),Array.getElem_toList];exact(a7g (a1R _)).symm
  rw[e,e]
  exact ur (t+i) (t+j) (by lia) (by lia) (by lia)
 have dk1: ∀_:Unit,sa+k+(na-k-1)=sa+na-1:=fun _=>by rw[<-dk ()];exact(Nat.add_sub_assoc (Nat.sub_pos_of_lt kl) _).symm
 have dk2: ∀_:Unit,sa+k+(na-k+n2)=sa+na+n2:=fun _=>by rw[<-Nat.add_assoc,dk ()]
 have T:Two κ r a₀ (xs.extract (sa+k) (sa+na)) (xs.extract (sa+na) (sa+na+n2)):=by
  refine⟨fun x hx=>?_,fun x hx=>?_,upx _ _ (by lia) fun i j g1 g2 g3=>ua i j (by lia) g2 g3,upx _ _ (by lia) fun i j g1 g2 g3=>ub i j g1 g2 (by lia),fun x hx y hy=>?_,by lia,by lia,fun x hx=>?_,fun y hy=>?_⟩
  ·obtain⟨j,g1,g2,rfl⟩:=mx x hx
   exact mem j (by lia)
  ·obtain⟨j,g1,g2,rfl⟩:=my x hx
   exact mem j (by lia)
  ·obtain⟨j,g1,g2,rfl⟩:=mx x hx
   obtain⟨l,g3,g4,rfl⟩:=my y hy;exact ap j l (by lia) (by lia) (by lia)
  ·obtain⟨j,g1,g2,rfl⟩:=mx x hx
   rw[b2c (by lia) (by lia),a8R];show kx r xs (sa+na)<kx r xs j
   by_cases c:j=sa+k
   ·rw[c]
    exact bk
   ·exact a8T bk (ua (sa+k) j (a3R ..) (a5V g1 (a3K c)) g2)
  ·obtain⟨j,g1,g2,rfl⟩:=my y hy
   rw[sx,b2c (by lia) (by lia),show sa+k+(na-k-1)=sa+na-1 from dk1 ()];have:=n2a (j-(sa+na)) (a3Z g1 g2)
   rw[a3G g1]at this;exact this
 have fin: ∀m st',Eqv (setPending st P) st'->Gd r (xs.extract (sa+k) (sa+na)) (xs.extract (sa+na) (sa+na+n2)) m->wpS M A E s (do
   modify fun s=>setArr s (m.toList.zipIdx.foldl (fun a (p,j)=>a.setIfInBounds (sa+k+j) p) (arrOf s))
   return (failedOf (<-get)).isNone) Q st':=fun m st' ev gd=>by
  have ea:arrOf st'=xs:=ev.arr.trans hx
  have ml:m.toList.length=na-k+n2:=by
   have:=gd.1.length_eq
   rw[a0M,a0K (xs:=xs.extract _ _),a0K (xs:=xs.extract _ _),sx,sy]at this;exact this
  refine a0W (a6F (a0W (a8M ?_)))
  rw[ea]
  have tl:=laid m.toList 0 (sa+k) xs (by rw[ml];lia)
  rw[a8R,ml]at tl
  generalize hys:m.toList.zipIdx.foldl (fun a (p,j)=>a.setIfInBounds (sa+k+j) p) xs=ys at tl⊢
  have okf:(failedOf (setArr st' ys)).isNone=true:=by
   show(failedOf st').isNone=true
   rw[ev.ok];show(failedOf st).isNone=true
   rw[B.ok];rfl
  rw[okf]
  have mid:xs.toList=xs.toList.take (sa+k)++((xs.extract (sa+k) (sa+na)).toList++(xs.extract (sa+na) (sa+na+n2)).toList)++xs.toList.drop (sa+k+(na-k+n2)):=by
   rw[b2b,b2b];have e1:xs.toList.take (sa+k)++(xs.toList.take (sa+na)).drop (sa+k)=xs.toList.take (sa+na):=by
    have z:=a2R (sa+k) (xs.toList.take (sa+na));rwa[List.take_take,a6B (by lia)]at z
   have e2:xs.toList.take (sa+na)++(xs.toList.take (sa+na+n2)).drop (sa+na)=xs.toList.take (sa+na+n2):=by
    have z:=a2R (sa+na) (xs.toList.take (sa+na+n2));rwa[List.take_take,a6B (by lia)]at z
   rw[<-a1H,e1,e2,dk2 (),a2R]
  have pys:ys.Perm xs:=by
   refine a2D.mpr ?_;rw[tl]
   conv=>rhs;rw[mid]
   exact a5T _ (a4U _ gd.1)
  have lx:xs.toList.length=a₀.size:=by rw[a0K];exact sz
  have mn:min (sa+k) xs.toList.length=sa+k:=a6B (by lia)
  have out1: ∀j,j<sa+k∨sa+na+n2<=j->ys[j]? =xs[j]? :=fun j hj=>by
   rw[a6m tl j,<-a1X]
   rcases hj with h|h
   ·rw[a0R (by rw[a0M,a1N,mn];exact Nat.lt_add_right _ h),a0R (by rw[a1N,mn];exact h),a8U,if_pos h]
   ·rw[a0P (by rw[a0M,a1N,ml,mn,dk2 ()];exact h),a6W]
    congr 1
    rw[a0M,a1N,ml,mn,dk2 ()];exact a3G h
  have inn: ∀j,sa+k<=j->j<sa+na+n2-> ∃h:j-(sa+k)<m.toList.length,ys.getD j d0=m.toList[j-(sa+k)]:=fun j g1 g2=>by
   have hl:j-(sa+k)<m.toList.length:=by rw[ml];exact a3Z g1 (by rw[dk2 ()];exact g2)
   refine⟨hl,a7g ?_⟩;rw[a6m tl j,a0R (by rw[a0M,a1N,ml,mn,dk2 ()];exact g2),a0P (by rw[a1N,mn];exact g1),a1N,mn,a0A hl]
  have from1: ∀j,sa+k<=j->j<sa+na+n2-> ∃l,sa+k<=l/\l<sa+na+n2/\ys.getD j d0=xs.getD l d0:=fun j g1 g2=>by
   obtain⟨hl,e⟩:=inn j g1 g2;have mm:ys.getD j d0∈(xs.extract (sa+k) (sa+na)).toList++(xs.extract (sa+na) (sa+na+n2)).toList:=by
    rw[e];exact(List.Perm.mem_iff gd.1).mp (a2O hl)
   rcases a0L.mp mm with z|z
   ·obtain⟨l,l1,l2,l3⟩:=mx _ z
    exact⟨l,l1,by lia,l3.symm⟩
   ·obtain⟨l,l1,l2,l3⟩:=my _ z
    exact⟨l,by lia,l2,l3.symm⟩
  refine a1D (q _ ⟨ev.kind.trans B1.kind,pys.trans pm,by show failedOf st'=none;rw[ev.ok];exact B.ok⟩ ev.pend (fun j hj=>out1 j (by lia)) fun i j g1 g2 g3=>?_)
  show kx r ys i<kx r ys j
  have oe: ∀c,c<sa+k∨sa+na+n2<=c->kx r ys c=kx r xs c:=fun c hc=>a1Z r (a2j (out1 c hc))
  have hd: ∀c l,sa<=c->c<sa+k->sa+k<=l->l<sa+na+nb->kx r xs c<kx r xs l:=fun c l c1 c2 c3 c4=>by
   by_cases c5:l<sa+na
   ·exact ua c l c1 (by lia) c5
   ·have l1:=k2 (c-sa) (a3Z c1 c2)
    rw[a3G c1]at l1;have l1:kx r xs c<kx r xs (sa+na):=l1;by_cases c6:l=sa+na
    ·rw[c6]
     exact l1
    ·exact a8T l1 (ub (sa+na) l (a0J _) (a5V (Nat.not_lt.mp c5) (a3K c6)) c4)
  have tlb: ∀l c,sa+k<=l->l<sa+na+n2->sa+na+n2<=c->c<sa+na+nb->kx r xs l<kx r xs c:=fun l c c1 c2 c3 c4=>by
   by_cases c5:sa+na<=l
   ·exact ub l c c5 (by lia) c4
   ·have c0:=a0Y (a3R ..) c3
    have l1:=n2b (c-(sa+na)) (Nat.le_sub_of_add_le' c3) (a3Z c0 c4);rw[a3G c0]at l1;have l1:kx r xs (sa+na-1)<kx r xs c:=l1;by_cases c6:l=sa+na-1
    ·rw[c6]
     exact l1
    ·exact a8T (ua l (sa+na-1) (by lia) (by lia) (by lia)) l1
  by_cases i1:i<sa+k
  ·rw[oe i (.inl i1)]
   by_cases j1:j<sa+k
   ·rw[oe j (.inl j1)]
    exact ua i j g1 g2 (by lia)
   ·by_cases j2:j<sa+na+n2
    ·obtain⟨l,l1,l2,l3⟩:=from1 j (by lia) j2
     show kx r xs i<r (ys.getD j d0)
     rw[l3];exact hd i l g1 i1 l1 (by lia)
    ·rw[oe j (.inr (by lia))]
     exact hd i j g1 i1 (by lia) g3
  ·by_cases i2:i<sa+na+n2
   ·by_cases j2:j<sa+na+n2
    ·obtain⟨h1',e1⟩:=inn i (by lia) i2
     obtain⟨h2',e2⟩:=inn j (by lia) j2;show r (ys.getD i d0)<r (ys.getD j d0)
     rw[e1,e2];exact a2S.mp gd.2 _ _ h1' h2' (by lia)
    ·obtain⟨l,l1,l2,l3⟩:=from1 i (by lia) i2
     rw[oe j (.inr (by lia))];show r (ys.getD i d0)<kx r xs j
     rw[l3];exact tlb l j l1 l2 (by lia) g3
   ·rw[oe i (.inr (by lia)),oe j (.inr (by lia))]
    exact ub i j (by lia) g2 g3
 by_cases c:na-k<=n2
 ·rw[if_pos c]
  exact a0W (b5x K B1.kind T fin)
 ·rw[if_neg c]
  exact a0W (b5z K B1.kind T fin)
end
def a7u(r:Keyed->Int)(xs:Array Keyed):Nat->List (Nat×Nat×Nat)->Nat->Prop
 |s,[],e=>s=e
 |s,u::l,e=>u.1=s/\1<=u.2.1/\Ris r xs s (s+u.2.1)/\a7u r xs (s+u.2.1) l e
section
variable{r:Keyed->Int}{xs ys:Array Keyed}
theorem b2d: ∀{l:List (Nat×Nat×Nat)} {s e:Nat},a7u r xs s l e->s+l.length<=e
 | [],s,e,h=>by
  have:s=e:=h
  simp
  lia
 |u::l,s,e,h=>by
  have:=b2d h.2.2.2
  have:=h.2.1
  rw[a2W]
  lia
theorem runs_app: ∀{l l':List (Nat×Nat×Nat)} {s e:Nat},a7u r xs s (l++l') e↔ ∃m,a7u r xs s l m/\a7u r xs m l' e
 | [],l',s,e=>⟨fun h=>⟨s,rfl,h⟩,fun⟨m,h1,h2⟩=>by have:s=m:=h1;subst this;exact h2⟩
 | u::l,l',s,e=>by
  constructor
  ·rintro⟨h1,h2,h3,h4⟩
   obtain⟨m,g1,g2⟩:=runs_app.mp h4;exact⟨m,⟨h1,h2,h3,g1⟩,g2⟩
  ·rintro⟨m,⟨h1,h2,h3,g1⟩,g2⟩
   exact⟨h1,h2,h3,runs_app.mpr ⟨m,g1,g2⟩⟩
theorem a6n{lo hi:Nat}(o:Out xs ys lo hi): ∀{l:List (Nat×Nat×Nat)} {s e:Nat},a7u r xs s l e->e<=lo∨hi<=s->a7u r ys s l e
 | [],_,_,h,_=>h
 |u::l,s,e,h,d=>by
  have:=b2d h.2.2.2
  exact⟨h.1,h.2.1,o.ris h.2.2.1 (by lia),a6n o h.2.2.2 (by lia)⟩
theorem c7t{p:Array (Nat×Nat×Nat)}{i:Nat}(h:i+1<p.size): ∃l1 u v l2,p.toList=l1++u::v::l2/\l1.length=i/\p[i]? =some u/\p[i+1]? =some v:=by
 have hl:p.toList.length=p.size:=a0K
 refine⟨p.toList.take i,p[i]'(by lia),p[i+1],p.toList.drop (i+2),?_,by rw[a1N];lia,a1R _,a1R _⟩
 have e1:p.toList.drop i=p.toList[i]'(by lia)::p.toList.drop (i+1):=a4V (by lia)
 have e2:p.toList.drop (i+1)=p.toList[i+1]'(by lia)::p.toList.drop (i+2):=a4V (by lia)
 rw[Array.getElem_toList]at e1 e2
 rw[<-e2,<-e1,a2R]
theorem c7u{p:Array (Nat×Nat×Nat)}{i:Nat}{l1 l2:List (Nat×Nat×Nat)}{u v w:Nat×Nat×Nat}(h:p.toList=l1++u::v::l2)(hl:l1.length=i):((p.setIfInBounds i w).eraseIdxIfInBounds (i+1)).toList=l1++w::l2:=by
 rw[Array.toList_eraseIdxIfInBounds,a8P,h,List.set_append_right _ _ (by lia),hl,a6C,List.eraseIdx_append_of_length_le (by lia),hl,a5N]
 rfl
variable{M:Model}{A:Ar}{E:VP}{s:Sh}{κ:SortKind}{a₀:Array Keyed}
theorem a4c{st:SortSt}{i lo:Nat}{Q:Bool->SortSt->Prop}(K:Asks M A s κ r a₀)(B:StOk κ a₀ st)(hi:i+1<(pendingOf st).size)(R:a7u r (arrOf st) 0 (pendingOf st).toList lo)(hlo:lo<=a₀.size)
  (q: ∀st',StOk κ a₀ st'->(pendingOf st').size+1=(pendingOf st).size->Out (arrOf st) (arrOf st') 0 lo->a7u r (arrOf st') 0 (pendingOf st').toList lo->Q true st'):wpS M A E s (mergeAt' i) Q st:=by
 obtain⟨l1,u,v,l2,e,hl,eu,ev⟩:=c7t hi
 rw[e]at R
 obtain⟨m,R1,R2⟩:=runs_app.mp R
 obtain⟨u1,u2,u3,v1,v2,v3,R3⟩:=R2
 obtain⟨sa,na,pw⟩:=u
 obtain⟨sb,nb,pw2⟩:=v
 dsimp only at u1 u2 u3 v1 v2 v3 R3
 subst u1
 have le:=b2d R3
 refine b6b K B eu ev v1 u2 v2 (by lia) u3 (by rw[v1];exact v3) fun st' B' ep o up=>?_
 have el:=c7u (w:=(sa,na+nb,pw)) e hl
 rw[<-ep]at el
 refine q st' B' ?_ (o.wide (a3E _) (by lia)) ?_
 ·have l3:(pendingOf st').toList.length+1=(pendingOf st).toList.length:=by
   rw[el,e]
   simp
   lia
  rwa[a0K,a0K]at l3
 ·rw[el]
  refine runs_app.mpr ⟨sa,a6n o R1 (.inl (a0J _)),rfl,by show 1<=na+nb;lia,?_,?_⟩
  ·show Ris r (arrOf st') sa (sa+(na+nb))
   rw[show sa+(na+nb)=sb+nb by lia];exact up
  ·show a7u r (arrOf st') (sa+(na+nb)) l2 lo
   rw[show sa+(na+nb)=sa+na+nb by lia];exact a6n o R3 (.inr (by lia))
theorem b6c{f:Nat->Nat}: ∀{l:List (Nat×Nat×Nat)} {s e i:Nat},a7u r xs s l e->a7u r xs s (l.modify i fun u=>(u.1,u.2.1,f u.2.2)) e
 | [],_,_,_,h=>by simpa using h
 |u::l,s,e,0,h=>h
 |u::l,s,e,i+1,h=>⟨h.1,h.2.1,h.2.2.1,b6c h.2.2.2⟩
theorem b6d{st:SortSt}{Q:Unit->SortSt->Prop}(K:Asks M A s κ r a₀)(B:StOk κ a₀ st)(hp:pendingOf st= #[])(h1:1<=a₀.size)
  (q: ∀st',StOk κ a₀ st'->Ris r (arrOf st') 0 a₀.size->Q () st'):wpS M A E s sortRuns' Q st:=by
 have sz:=a2s B.perm
 rw[sortRuns'_eq]
 refine a0W (a8M ?_)
 dsimp only
 rw[sz]
 refine a0W (a5M (a3A (I:=fun x c st'=> ∃lo,c=(none,lo)/\x<=lo/\lo<=a₀.size/\StOk κ a₀ st'/\a7u r (arrOf st') 0 (pendingOf st').toList lo)
  (Q:=fun c st'=>c=(none,a₀.size)/\StOk κ a₀ st'/\a7u r (arrOf st') 0 (pendingOf st').toList a₀.size) ?step ?stop ⟨0,rfl,a0J _,a3E _,B,by rw[hp];rfl⟩) ?post)
 case stop=>
  rintro c st' ⟨lo,rfl,h1,h2,B',R⟩
  have e:lo=a₀.size:=by lia
  subst e
  exact⟨rfl,B',R⟩
 case step=>
  rintro x c st1 _ hx ⟨lo,rfl,hxl,hlo,B1,R1⟩
  dsimp only
  by_cases z:lo≥a₀.size
  ·rw[if_pos z]
   have e:lo=a₀.size:=by lia
   subst e;exact a1D ⟨rfl,B1,R1⟩
  rw[if_neg z]
  refine a0W (c3u K B1 (by lia) (by lia) fun n st2 B2 p2 g2 o2 n1 nn up2=>?_)
  dsimp only
  have R2:a7u r (arrOf st2) 0 (pendingOf st2).toList lo:=by rw[p2];exact a6n o2 R1 (.inl (a0J _))
  by_cases mr:n<minRun' a₀.size a₀.size 0
  ·rw[if_pos mr]
   refine a0W (a9P (a5R ⟨rfl,?_⟩));refine a0W (c0b K B2 (by lia) (by lia) up2 fun st3 B3 p3 g3 o3 up3=>?_);rw[if_neg (by decide)];have R3:a7u r (arrOf st3) 0 (pendingOf st3).toList lo:=by rw[p3];exact a6n o3 R2 (.inl (a0J _))
   have n1:1<=min (a₀.size-lo) (minRun' a₀.size a₀.size 0):=by lia
   have nn:lo+min (a₀.size-lo) (minRun' a₀.size a₀.size 0)<=a₀.size:=by lia
   generalize min (a₀.size-lo) (minRun' a₀.size a₀.size 0)=m0 at up3 n1 nn⊢;refine a0W (a8M ?_);cases eb:(pendingOf st3).back? with
   |none=>
    dsimp only;refine a0W (a6F (a1D ⟨lo+m0,rfl,by lia,by lia,⟨B3.kind,B3.perm,B3.ok⟩,?_⟩));show a7u r (arrOf st3) 0 ((pendingOf st3).push (lo,m0,0)).toList (lo+m0)
    rw[a5D];exact runs_app.mpr ⟨lo,R3,rfl,n1,up3,rfl⟩
   | some u=>
    obtain⟨s1,m1,w1⟩:=u;dsimp only;refine a0W (a5M (a3A (I:=fun x c st'=>c=(none,())/\StOk κ a₀ st'/\a7u r (arrOf st') 0 (pendingOf st').toList lo/\Ris r (arrOf st') lo (lo+m0))
     (Q:=fun c st'=>c=(none,())/\StOk κ a₀ st'/\a7u r (arrOf st') 0 (pendingOf st').toList lo/\Ris r (arrOf st') lo (lo+m0)) ?step2 ?stop2 ⟨rfl,B3,R3,up3⟩) ?post2)
    case stop2=>
     rintro c st4 h;exact h
    case step2=>
     rintro y c st4 _ _ ⟨rfl,B4,R4,up4⟩;refine a0W (a8M ?_);by_cases g:(pendingOf st4).size>1
     ·rw[if_pos g,a1R (by lia)]
      generalize(pendingOf st4)[(pendingOf st4).size-2]=u2;obtain⟨a2,b2,older⟩:=u2;dsimp only;by_cases g2:older<=power' a₀.size (2 * s1+m1) (2 * s1+m1+m1+m0) a₀.size
      ·rw[if_pos g2]
       exact a1D ⟨rfl,B4,R4,up4⟩
      ·rw[if_neg g2]
       refine a0W (a4c K B4 (by lia) R4 hlo fun st5 B5 _ o5 R5=>?_);exact a1D ⟨rfl,B5,R5,o5.ris up4 (.inr (a0J _))⟩
     ·rw[if_neg g]
      exact a1D ⟨rfl,B4,R4,up4⟩
    case post2=>
     rintro c st4 ⟨rfl,B4,R4,up4⟩;dsimp only;refine a0W (a6F (a0W (a6F (a1D ⟨lo+m0,rfl,by lia,by lia,⟨B4.kind,B4.perm,B4.ok⟩,?_⟩))));show a7u r (arrOf st4) 0 (((pendingOf st4).modify ((pendingOf st4).size-1) fun x=>(x.fst,x.2.fst,power' a₀.size (2 * s1+m1) (2 * s1+m1+m1+m0) a₀.size)).push (lo,m0,0)).toList (lo+m0)
     rw[a5D,Array.toList_modify];exact runs_app.mpr ⟨lo,b6c (f:=fun _=>power' a₀.size (2 * s1+m1) (2 * s1+m1+m1+m0) a₀.size) R4,rfl,n1,up4,rfl⟩
  ·rw[if_neg mr]
   have B3:=B2;have R3:=R2;have up3:=up2;refine a0W (a8M ?_);cases eb:(pendingOf st2).back? with
   |none=>
    dsimp only;refine a0W (a6F (a1D ⟨lo+n,rfl,by lia,by lia,⟨B3.kind,B3.perm,B3.ok⟩,?_⟩));show a7u r (arrOf st2) 0 ((pendingOf st2).push (lo,n,0)).toList (lo+n)
    rw[a5D];exact runs_app.mpr ⟨lo,R3,rfl,n1,up3,rfl⟩
   | some u=>
    obtain⟨s1,m1,w1⟩:=u;dsimp only;refine a0W (a5M (a3A (I:=fun x c st'=>c=(none,())/\StOk κ a₀ st'/\a7u r (arrOf st') 0 (pendingOf st').toList lo/\Ris r (arrOf st') lo (lo+n))
     (Q:=fun c st'=>c=(none,())/\StOk κ a₀ st'/\a7u r (arrOf st') 0 (pendingOf st').toList lo/\Ris r (arrOf st') lo (lo+n)) ?step2 ?stop2 ⟨rfl,B3,R3,up3⟩) ?post2)
    case stop2=>
     rintro c st4 h;exact h
    case step2=>
     rintro y c st4 _ _ ⟨rfl,B4,R4,up4⟩;refine a0W (a8M ?_);by_cases g:(pendingOf st4).size>1
     ·rw[if_pos g,a1R (by lia)]
      generalize(pendingOf st4)[(pendingOf st4).size-2]=u2;obtain⟨a2,b2,older⟩:=u2;dsimp only;by_cases g2:older<=power' a₀.size (2 * s1+m1) (2 * s1+m1+m1+n) a₀.size
      ·rw[if_pos g2]
       exact a1D ⟨rfl,B4,R4,up4⟩
      ·rw[if_neg g2]
       refine a0W (a4c K B4 (by lia) R4 hlo fun st5 B5 _ o5 R5=>?_);exact a1D ⟨rfl,B5,R5,o5.ris up4 (.inr (a0J _))⟩
     ·rw[if_neg g]
      exact a1D ⟨rfl,B4,R4,up4⟩
    case post2=>
     rintro c st4 ⟨rfl,B4,R4,up4⟩;dsimp only;refine a0W (a6F (a0W (a6F (a1D ⟨lo+n,rfl,by lia,by lia,⟨B4.kind,B4.perm,B4.ok⟩,?_⟩))));show a7u r (arrOf st4) 0 (((pendingOf st4).modify ((pendingOf st4).size-1) fun x=>(x.fst,x.2.fst,power' a₀.size (2 * s1+m1) (2 * s1+m1+m1+n) a₀.size)).push (lo,n,0)).toList (lo+n)
     rw[a5D,Array.toList_modify];exact runs_app.mpr ⟨lo,b6c (f:=fun _=>power' a₀.size (2 * s1+m1) (2 * s1+m1+m1+n) a₀.size) R4,rfl,n1,up4,rfl⟩
 case post=>
  rintro c st1 ⟨rfl,B1,R1⟩
  dsimp only
  refine a0W (a5M (a3A (I:=fun x c st'=>c=(none,())/\StOk κ a₀ st'/\a7u r (arrOf st') 0 (pendingOf st').toList a₀.size/\(pendingOf st').size+x<=a₀.size)
   (Q:=fun c st'=>c=(none,())/\StOk κ a₀ st'/\a7u r (arrOf st') 0 (pendingOf st').toList a₀.size/\(pendingOf st').size<=1) ?step3 ?stop3 ⟨rfl,B1,R1,by have:=b2d R1;rw[a0K]at this;lia⟩) ?post3)
  case stop3=>
   rintro c st2 ⟨hc,B2,R2,hz⟩;exact⟨hc,B2,R2,by lia⟩
  case step3=>
   rintro x c st2 _ hx ⟨rfl,B2,R2,hz⟩;refine a0W (a8M ?_);by_cases g:(pendingOf st2).size<=1
   ·rw[if_pos g]
    exact a1D ⟨rfl,B2,R2,g⟩
   ·rw[if_neg g]
    refine a0W (a4c K B2 ?_ R2 (a0J _) fun st3 B3 z3 o3 R3=>?_)
    ·have key: ∀(c:Prop) [Decidable c],(if c then(pendingOf st2).size-2-1 else(pendingOf st2).size-2)+1<(pendingOf st2).size:=fun c _=>by
      by_cases h:c
      ·rw[if_pos h]
       lia
      ·rw[if_neg h]
       lia
     exact key _
    ·exact a1D ⟨rfl,B3,R3,by lia⟩
  case post3=>
   rintro c st2 ⟨rfl,B2,R2,hz⟩;refine a1D (q st2 B2 ?_);have hl:(pendingOf st2).toList.length<=1:=by rw[a0K];exact hz
   generalize(pendingOf st2).toList=l at R2 hl
   match l,R2,hl with
   | [],R2,_=>
    have:0=a₀.size:=R2
    lia
   | [u],R2,_=>
    have e:0+u.2.1=a₀.size:=R2.2.2.2;rw[<-e];exact R2.2.2.1
end
section
variable{P:Pg}{w:World}{A:Ar}{E:VP}{s:Sh}{a:Addr}{vs ks:Vs}{k:Nat->Int}{κ:SortKind}
noncomputable def ixOf (ks:Vs) (x:Keyed):Nat:=Classical.epsilon fun i=>ks[i]? =some x.1
theorem ix_at(nd:ks.Nodup){i:Nat}{x:Keyed}(h:ks[i]? =some x.1):ixOf ks x=i:=by
 have z:ks[ixOf ks x]? =some x.1:=Classical.epsilon_spec (p:=fun i=>ks[i]? =some x.1) ⟨i,h⟩
 exact(a2G (a0B.mp z).1 nd).mp (z.trans h.symm)
theorem c3z{Q:SortSt->Sh->Prop}(hl:ks.length=vs.length)(h1:1<=vs.length)(nd:ks.Nodup)(inj: ∀i j,i<vs.length->j<vs.length->k i=k j->i=j)
  (ask: ∀i j (C:Bool->Sh->Prop),i<ks.length->j<ks.length->C (decide (k i<k j)) s->kas_ask P w A κ ks i j C s)
  (hG: ∀p st',Arr vs.length p->SUp k p vs.length->(arrOf st').map (·.2)=(a1q vs p).toArray->failedOf st'=none->Q st' s):
  wpAny (model P w) A ((sortRuns').run (SortSt.mk' κ (ks.toArray.zip vs.toArray) #[] 7 none)) (fun r s'=>Q r.2 s') E s:=by
 have sz:(ks.toArray.zip vs.toArray).size=vs.length:=by simp[hl]
 have el: ∀i,i<vs.length->(ks.toArray.zip vs.toArray).getD i d0=(ks.getD i Value.none,vs.getD i Value.none):=fun i hi=>kat_item hl i
 have kat: ∀i,i<vs.length->ks[i]? =some (ks.getD i Value.none):=fun i hi=>by
  rw[a0N,a0A (by lia)]
  rfl
 have ix: ∀i,i<vs.length->ixOf ks ((ks.toArray.zip vs.toArray).getD i d0)=i:=fun i hi=>ix_at nd (by rw[el i hi];exact kat i hi)
 have at0: ∀x∈ks.toArray.zip vs.toArray,∃i,i<vs.length/\x=(ks.toArray.zip vs.toArray).getD i d0:=fun x hx=>by
  obtain⟨i,hi,e⟩:=Array.getElem_of_mem hx
  exact⟨i,by lia,(a7g (a3T.mpr ⟨hi,e⟩)).symm⟩
 have K:Asks (model P w) A s κ (fun x=>k (ixOf ks x)) (ks.toArray.zip vs.toArray):=by
  refine⟨fun x y C hx hy hC=>?_,fun i j hi hj ij z=>?_⟩
  ·obtain⟨i,hi,rfl⟩:=at0 x hx
   obtain⟨j,hj,rfl⟩:=at0 y hy;have z:=ask i j C (by lia) (by lia) (by rw[ix i hi,ix j hj]at hC;exact hC);unfold kas_ask at z;rw[el i hi,el j hj];exact z
  ·rw[sz]at hi hj
   rw[ix i hi,ix j hj]at z;exact ij (inj i j hi hj z)
 have run:=b6d (E:=E) (st:=SortSt.mk' κ (ks.toArray.zip vs.toArray) #[] 7 none) (Q:=fun _ st'=>Q st' s) K ⟨rfl,a9M _,rfl⟩ rfl (by lia) fun st' B up=>?_
 ·unfold wpS at run
  exact a3I run (fun r s' h=>by obtain⟨rfl,h⟩:=h;exact h) fun _ _ e=>e
 ·have psz:=a2s B.perm
  rw[sz]at up psz
  have mem: ∀i,i<vs.length->(arrOf st').getD i d0∈ks.toArray.zip vs.toArray:=fun i hi=>a8i B.perm (by lia)
  have ar:Arr vs.length ((arrOf st').map (ixOf ks)):=by
   refine a2D.mpr ?_;rw[a7Z];refine((a2D.mp B.perm).map (ixOf ks)).trans (.of_eq ?_);refine a3X fun i=>?_
   rw[a0G,a1X,a6N];by_cases hi:i<vs.length
   ·rw[a4v (by lia),a3V hi]
    exact a1Z some (ix i hi)
   ·rw[a7C (by lia),a1Y (by simp;lia)]
    rfl
  have pat: ∀i,i<vs.length->((arrOf st').map (ixOf ks)).getD i 0=ixOf ks ((arrOf st').getD i d0):=fun i hi=>by
   rw[a2L,Array.getElem?_map,a4v (by lia)];rfl
  refine hG ((arrOf st').map (ixOf ks)) st' ar (fun x y xy yn=>?_) ?_ B.ok
  ·rw[pat x (by lia),pat y yn]
   exact up x y (a3E _) xy yn
  ·apply Array.toList_inj.mp
   rw[a7Z];show _=a1q vs _
   unfold a1q;rw[a7Z,a3O];refine a4O fun x hx=>?_
   obtain⟨i,hi,rfl⟩:=at0 x ((a8S B.perm).mp (a8B.mp hx));show((ks.toArray.zip vs.toArray).getD i d0).2=vs.getD (ixOf ks ((ks.toArray.zip vs.toArray).getD i d0)) Value.none
   rw[ix i hi,el i hi]
theorem c7v{n:Nat}{R:PySem.Fin->Sh->Prop}(ho:s.heap.get? a=some (seqObj "list" vs.toArray n))(few:vs.length<=4000)(nd:vs.Nodup)(inj: ∀i j,i<vs.length->j<vs.length->k i=k j->i=j)
  (ask: ∀h',(∀b o,b≠a->s.heap.get? b=some o->h'.get? b=some o)->2<=vs.length->d1f P w A vs (fun i j=>decide (k i<k j)) {s with heap:=h'})
  (q: ∀p h' c,Arr vs.length p->SUp k p vs.length->h'.get? a=some (seqObj "list" (a1q vs p).toArray c)->(∀b o,b≠a->s.heap.get? b=some o->h'.get? b=some o)->R (.done (.ret .none)) {s with heap:=h'}):
  wpAny (model P w) A (Builtin.«list.sort» ⟨[.ref a],[]⟩) R E s:=by
 have la:a<s.heap.objs.size:=a0T ho
 let h1:=s.heap.update a (Obj.mapSeq fun _=>(#[]:AV))
 obtain⟨e1,ho1⟩: ∃e1,h1.get? a=some (seqObj "list" #[] e1):=⟨_,a6X ho fun _=> #[]⟩
 let h3:=(h1.push (seqObj "tuple" vs.toArray 0)).push (seqObj "list" #[] 0)
 have k1: ∀b o,b≠a->s.heap.get? b=some o->h1.get? b=some o:=fun b o nb e=>(a1S _ _ (a3K nb)).trans e
 have k3: ∀b o,b≠a->s.heap.get? b=some o->h3.get? b=some o:=fun b o nb e=>b7y (k1 b o nb e) _ _
 have ho3:h3.get? a=some (seqObj "list" #[] e1):=b7y ho1 _ _
 rw[list_sort_plain]
 refine a0C (listItems_at ho rfl ?_)
 refine a0C (a6Y ho rfl ?_ (by rw[a0U,a1B];lia) (a3E _))
 refine a0C (a9R ho1 rfl ?_)
 refine a0C (wpAny_newTuple ?_ (by show vs.length<=_;rw[a1B];lia))
 refine a0C (a8E ?_ (a3E _))
 refine a2P ?_
 show wpAny (model P w) A _ R E {s with heap:=h3}
 dsimp only
 have fin: ∀(st:SortSt) (p:Array Nat),Arr vs.length p->SUp k p vs.length->(arrOf st).map (·.2)=(a1q vs p).toArray->failedOf st=none-> ∀h4,h4=h3->
   wpAny (model P w) A (do
    let touched:=(<-seqEpoch a) != e1
    Builtin.List.listUpdate (.ref a) fun _=>(arrOf st).map (·.2)
    if let some e:=failedOf st then rule "list.sort.comparison-raised";throw e
    if touched then rule "list.sort.modified";raiseError "ValueError" "list modified during sort"
    ret .none) R E {s with heap:=h4}:=fun st p ar up hout hf h4 e4=>by
  subst e4
  rw[hout]
  have sz:(a1q vs p).toArray.size=vs.length:=by
   rw[a0U,a0D,a0K,ar.size]
  obtain⟨c2,hc2⟩: ∃c2,(h3.update a (Obj.mapSeq fun _=>(a1q vs p).toArray)).get? a=some (seqObj "list" (a1q vs p).toArray c2):=⟨_,a6X ho3 fun _=>(a1q vs p).toArray⟩
  refine a0C (a9R ho3 rfl ?_)
  refine a0C (a6Y ho3 rfl ?_ (a3E _) (a0Y (a6P sz) (by rw[a1B];lia)))
  rw[hf]
  simp only[bne_self_eq_false,Bool.false_eq_true,if_false]
  exact a0F (q p _ c2 ar up hc2 fun b o nb e=>(a1S _ _ (a3K nb)).trans (k3 b o nb e))
 by_cases h2:2<=vs.length
 ·have n2: ¬vs.toArray.size<2:=by rw[a0U];lia
  rw[if_neg n2,if_neg n2]
  refine a0C (a3I (ask h3 k3 h2) (fun κ s0 hk=>?_) fun _ _ x=>x.elim)
  obtain⟨rfl,hk⟩:=hk
  refine a0C (a3I (c3z (ks:=vs) (vs:=vs) (k:=k) (Q:=fun st' s'=>s'={s with heap:=h3}/\ ∃p:Array Nat,Arr vs.length p/\SUp k p vs.length/\(arrOf st').map (·.2)=(a1q vs p).toArray/\failedOf st'=none) rfl (by lia) nd inj hk fun p st' a1 a2 a3 a4=>⟨rfl,p,a1,a2,a3,a4⟩) ?_ fun _ _ x=>x)
  rintro⟨⟨⟩,st⟩ s' ⟨rfl,p,ar,up,hout,hf⟩
  exact fin st p ar up hout hf _ rfl
 ·have n2:vs.toArray.size<2:=by rw[a0U];lia
  rw[if_pos n2,if_pos n2]
  refine a0C (a0F (a0C (a0F ?_)))
  refine fin _ (List.range vs.length).toArray (a9M _) (fun x y xy yn=>by lia) ?_ rfl _ rfl
  rw[a7s]
  exact c3s rfl
end
theorem d1p{H:Hp}{as:As}{ts:LN}(at0:TupsAt H as ts)(nd:ts.Nodup):(as.map Value.ref).Nodup:=by
 refine a2S.mpr fun i j hi hj ij z=>?_
 rw[a5Q,a5Q]at z
 rw[a0D]at hi hj
 have z:=Value.ref.inj z
 have la:=at0.len
 have e1:=at0.is i as[i] (ts[i]'(by lia)) (a0A hi) (a0A _)
 have e2:=at0.is j as[j] (ts[j]'(by lia)) (a0A hj) (a0A _)
 rw[z,e2]at e1
 have e3:ts[j]'(by lia)=ts[i]'(by lia):=by
  have y:=a1U e1
  injection y with y
  exact(List.map_inj_right (f:=nv) fun a b h=>a9B (V.int.inj h)).mp y
 have e4:=(a2G (i:=j) (j:=i) (by lia) nd).mp (by rw[a0A (by lia),a0A (by lia),e3])
 lia
def a4y(g:Nsq->Int)(t u:Nsq):Bool:=plt (g t) t (g u) u
theorem a2t(g:Nsq->Int)(xs:LN):Total (a4y g) xs:=by
 refine⟨fun x=>?_,fun x y z h1 h2=>?_,fun x _ y _ ne=>?_⟩
 ·unfold a4y plt
  rw[if_pos rfl,a5s]
 ·unfold a4y plt at h1 h2⊢
  by_cases e1:g x=g y
  ·rw[if_pos e1]at h1
   by_cases e2:g y=g z
   ·rw[if_pos e2]at h2
    rw[if_pos (by lia)];exact b7z _ _ _ h1 h2
   ·rw[if_neg e2]at h2
    have:=a2F h2
    rw[if_neg (by lia)];exact a1E (by lia)
  ·rw[if_neg e1]at h1
   have l1:=a2F h1;by_cases e2:g y=g z
   ·rw[if_neg (by lia)]
    exact a1E (by lia)
   ·rw[if_neg e2]at h2
    have l2:=a2F h2;rw[if_neg (by lia)];exact a1E (by lia)
 ·unfold a4y plt
  by_cases e:g x=g y
  ·rw[if_pos e,if_pos e.symm]
   exact a9l x y ne
  ·rw[if_neg e,if_neg fun z=>e z.symm]
   rcases Int.lt_or_gt_of_ne e with q|q
   ·exact .inl (a1E q)
   ·exact .inr (a1E q)
def c4a(H:Hp)(g:Nsq->Int)(κ a:Addr)(t:Nsq):Prop:=H κ=some (.tup [.int (g t),.ref a])/\H a=some (.tup (t.map nv))
structure KeysAt(H:Hp)(g:Nsq->Int)(κs as:As)(ts:LN):Prop where
 l1:κs.length=ts.length
 l2:as.length=ts.length
 is: ∀(i:Nat) κ a t,κs[i]? =some κ->as[i]? =some a->ts[i]? =some t->c4a H g κ a t
section
variable{X:Cx}{pins:AO}{σ:St}{H:Hp}{s:Sh}{g:Nsq->Int}
theorem b6e{κ a:Addr}{t:Nsq}(I:Inv X pins σ H s)(h:c4a H g κ a t): ∃o tk its n,s.heap.get? κ=some o/\o.cls= .type "tuple"/\o.data= .seq #[.int (g t) tk,.ref a] n/\Vals (t.map nv) its/\SeqObj "tuple" s.heap a its:=by
 obtain⟨_,its,r,o,h1,h2,c,h3,_⟩:=(show ObjOk X.prog X.w H s.heap κ (.tup [.int (g t),.ref a])from I.hok κ _ h.1)
 obtain⟨u1,us,rfl,⟨tk,rfl⟩,r2⟩: ∃u1 us,its=u1::us/\RelV (.int (g t)) u1/\Vals [.ref a] us:=by
  cases r with
  |cons x y=>exact⟨_,_,rfl,x,y⟩
 obtain⟨u2,rfl,ru⟩:=a5q r2
 cases ru
 obtain⟨its2,r3,p3,_⟩:=I.tuple (SqT.of (K:=X.K) h.2)
 exact⟨o,tk,its2,c,h1,h2,h3,r3,b9s p3⟩
theorem d4h{A:Ar}{κ a κ' a':Addr}{t u:Nsq}{Q:Bool->Sh->Prop}{E:VP}(hu:A.units+8<cLine)(I:Inv X pins σ H s)(h1:c4a H g κ a t)(h2:c4a H g κ' a' u)(q:Q (a4y g t u) s):
  wpAny (model X.prog X.w) A (keyLt' (tuples' true) (.ref κ) (.ref κ')) Q E s:=by
 obtain⟨o1,k1,xs,n1,x1,x2,x3,x4,x5⟩:=b6e I h1
 obtain⟨o2,k2,ys,n2,y1,y2,y3,y4,y5⟩:=b6e I h2
 refine kat_lt x1 x3 y1 y3 ?_
 show KatLex _ _ _ _ _ _ [(Value.int (g t) k1,Value.int (g u) k2),(Value.ref a,Value.ref a')] 0 s
 have z:=eqAt_int (A:=A) (s:=s) (i:=g t) (j:=g u) (t:=k1) (u:=k2)
 refine kat_cons ?_
 unfold a4y plt at q
 by_cases e:g t=g u
 ·rw[a1E e]at z
  rw[if_pos e]at q
  refine z _ _ _ _ (kat_yes (kat_cons ?_))
  obtain⟨b1,e1,e2⟩:=b3x I 1 (A:=A) (by lia) (a7c (SqT.of (K:=X.K) h1.2)) (a7c (SqT.of (K:=X.K) h2.2)) rfl rfl
  refine e1 _ _ _ _ ?_
  cases b1 with
  |true=>
   have eq:=dt_natsT.mp (e2.mp rfl);subst eq;rw[a5s]at q;refine kat_yes (kat_nil ?_);exact q
  |false=>
   refine kat_no (kat_one _ _ ?_);have l1:t.length=xs.length:=by simpa using x4.length
   have l2:u.length=ys.length:=by simpa using y4.length
   have rc:=c6z (A:=A) x5 y5 (by lia) (d3o x4 y4);rw[<-l1,<-l2]at rc;exact show wpAny _ _ (richCompare .Lt _ _) _ _ _ from rc _ _ _ _ q
 ·rw[a1L e]at z
  rw[if_neg e]at q
  exact z _ _ _ _ (kat_no (c9i _ q))
theorem b0x{g:Nsq->Int}(I:Inv X pins σ H s): ∀{κs as:As} {ts:LN},KeysAt H g κs as ts-> ∃fs:Vs,KatTups s.heap (κs.map Value.ref) fs/\fs.length=κs.length/\ ∀f∈fs,∃i t,f= .int i t
 | [],as,ts,_=>⟨[],.nil,rfl,fun _ z=>nomatch z⟩
 |κ::κs,[],ts,h=>by have:=h.l1;have:=h.l2;simp at *;lia
 |κ::κs,a::as,[],h=>by have:=h.l1;simp at this
 | κ::κs,a::as,t::ts,h=>by
  obtain⟨fs,k1,k2,k3⟩:=b0x I (κs:=κs) (as:=as) (ts:=ts) ⟨by simpa using h.l1,by simpa using h.l2,fun i κ a t e1 e2 e3=>h.is (i+1) κ a t (by simpa using e1) (by simpa using e2) (by simpa using e3)⟩
  obtain⟨o,tk,its,n,h1,h2,h3,_⟩:=b6e I (h.is 0 κ a t rfl rfl rfl)
  exact⟨_::fs,.cons h1 h2 h3 rfl k1,by simp[k2],fun f hf=>by
   rcases a1C.mp hf with e|hf
   ·exact⟨_,_,e⟩
   ·exact k3 f hf⟩
theorem c7w{A:Ar}{κs as:As}{ts:LN}(hu:A.units+8<cLine)(I:Inv X pins σ H s)(n1:1<=ts.length)(h:KeysAt H g κs as ts):d1f X.prog X.w A (κs.map Value.ref) (fun i j=>a4y g (ts.getD i []) (ts.getD j [])) s:=by
 obtain⟨fs,k1,k2,k3⟩:=b0x I h
 have l1:=h.l1
 have l2:=h.l2
 refine kat_kind (T:= .type "int") k1 (by lia) (fun f hf=>?_) (by decide) ⟨rfl,fun i j C li lj hC=>?_⟩
 ·obtain⟨i,t,rfl⟩:=k3 f hf
  exact .now
 ·rw[a0D]at li lj
  have at0: ∀{i:Nat},i<κs.length-> ∃κ a,(κs.map Value.ref).getD i Value.none= .ref κ/\c4a H g κ a (ts.getD i []):=fun {i} li=>by
   obtain⟨κ,e1⟩: ∃κ,κs[i]? =some κ:=⟨_,a0A li⟩;obtain⟨a,e2⟩: ∃a,as[i]? =some a:=⟨_,a0A (by lia)⟩;refine⟨κ,a,?_,h.is i κ a _ e1 e2 (a4a (by lia)).1⟩;rw[a0N,a0G,e1];rfl
  obtain⟨κ,a,e1,h1⟩:=at0 li
  obtain⟨κ',a',e2,h2⟩:=at0 lj
  show wpAny (model X.prog X.w) A (keyLt' _ ((κs.map Value.ref).getD i Value.none) ((κs.map Value.ref).getD j Value.none)) C _ s
  rw[e1,e2]
  exact d4h hu I h1 h2 hC
end
def c0d(g:Nsq->Int):Sp:=fun vs H Q _=> ∃(a:Addr) (t:Nsq),vs=[.ref a]/\H a=some (.tup (t.map nv))/\ ∀κ H',Same H H'->H' κ=some (.tup [.int (g t),.ref a])->Q (.ref κ) H'
section
variable{X:Cx}{pins:AO}{σ:St}{kk:Nat}{f:Addr}{fd:Fd}{ps:Ss}{g:Nsq->Int}
theorem d1q{sp:Sp}{H:Hp}{s:Sh}{Q:VK}{us:Vs}{vs:List V}(F:FnOk X.prog X.w X.K X.mg X.base CX0 kk f fd ps sp)(hr:Room kk X.A.in1.in1)(hb:Binds X.K fd ps [])(I:Inv X pins σ H s)(r:Vals vs us)(h:sp vs H Q E0):
  wpAny (model X.prog X.w) X.A.in1.in1 (call (.ref f) us) (EP X pins σ Q) (fun _ _=>False) s:=by
 have hl:(us++[]).length=ps.length:=by rw[a2K,<-r.length];exact F.len _ _ _ _ h
 have b:=hb s us I.kIn hl
 rw[a2K]at b
 refine a9N (a5G (F.run X.A.in1.in1 X.stack s H ⟨us,[]⟩ us vs Q E0 hr I.env0.in1.in1 b r h) fun r s' hq=>?_)
 cases r with
 |error e=>exact hq.elim
 |ok fl=>
  cases fl with
  |ret u=>exact I.after hq
  |next=>exact False.elim hq
  |brk=>exact False.elim hq
  |cont=>exact False.elim hq
theorem Inv.pin2{H:Hp}{s:Sh}{b c:Addr}{o u:Obj}(I:Inv X pins σ H s)(f1:FpOk X pins H b)(f2:FpOk X pins H c)(e1:s.heap.get? b=some o)(e2:s.heap.get? c=some u)(n1: ∀v,o.data≠ .cell v)(n2: ∀v,u.data≠ .cell v):Inv X ((b,o)::(c,u)::pins) σ H s:=
 I.pins_of fun p hp=>by
  rcases a1C.mp hp with rfl|hp
  ·exact⟨e1,f1.1,f1.2.1,f1.2.2.1,n1⟩
  ·rcases a1C.mp hp with rfl|hp
   ·exact⟨e2,f2.1,f2.2.1,f2.2.2.1,n2⟩
   ·exact I.pin p (a0Z _ hp)
theorem Inv.unpin2{H:Hp}{s:Sh}{b c:Addr}{o u:Obj}(I:Inv X ((b,o)::(c,u)::pins) σ H s):Inv X pins σ H s:=
 I.pins_of fun p hp=>I.pin p (a0Z _ (a0X _ (a0X _ hp)))
theorem FpOk.to{H H':Hp}{b:Addr}(h:FpOk X pins H b)(e:H' b=none):FpOk X pins H' b:=⟨e,h.2⟩
theorem c4b{E:VP}{kS D:Addr}{e1:Nat}{body:Vl->PUnit->Sem (ForInStep PUnit)}{Q:Sh->Prop}(F:FnOk X.prog X.w X.K X.mg X.base CX0 kk f fd ps (c0d g))(hr:Room kk X.A.in1.in1)(hb:Binds X.K fd ps [])(ne:kS≠D)
  (hbody: ∀x (s:Sh) (C:VP) (Qy:Sh->Prop),wpAny (model X.prog X.w) X.A.in1.in1 (call (.ref f) [x]) C (fun _ _=>False) s->
   (∀k s',C k s'-> ∃its c,s'.heap.get? kS=some (seqObj "list" its c)/\its.size<64/\Qy {s' with heap:=s'.heap.update kS (Obj.mapSeq (·.push k))})->wpAny (model X.prog X.w) X.A.in1.in1 (body x ⟨⟩) (fun r s'=>r= .yield ⟨⟩/\Qy s') E s):
  ∀(r:As) (rt:LN) (H:Hp) (κs:As) (c:Nat) (s:Sh),Inv X pins σ H s->TupsAt H r rt->s.heap.get? kS=some (seqObj "list" (κs.map Value.ref).toArray c)->s.heap.get? D=some (seqObj "list" #[] e1)->FpOk X pins H kS->FpOk X pins H D->κs.length+r.length<64->
   (∀H2 κ2 c2 s2,Inv X pins σ H2 s2->Same H H2->KeysAt H2 g κ2 r rt->s2.heap.get? kS=some (seqObj "list" ((κs++κ2).map Value.ref).toArray c2)->s2.heap.get? D=some (seqObj "list" #[] e1)->FpOk X pins H2 kS->FpOk X pins H2 D->Q s2)->
   wpAny (model X.prog X.w) X.A.in1.in1 (forIn (r.map Value.ref) PUnit.unit body) (fun _ s'=>Q s') E s
 | [],[],H,κs,c,s,I,T,eS,eD,f1,f2,_,q=>by
  rw[List.map_nil,List.forIn_nil]
  exact a0F (q H [] c s I (Same.refl _) ⟨rfl,rfl,fun i κ a t e=>by simp at e⟩ (by rw[List.append_nil];exact eS) eD f1 f2)
 | [],_::_,H,κs,c,s,I,T,eS,eD,f1,f2,_,q=>by have:=T.len;simp at this
 |_::_,[],H,κs,c,s,I,T,eS,eD,f1,f2,_,q=>by have:=T.len;simp at this
 | a::r,t::rt,H,κs,c,s,I,T,eS,eD,f1,f2,l64,q=>by
  rw[a2W]at l64
  rw[a2I,List.forIn_cons]
  have ha:H a=some (.tup (t.map nv)):=T.is 0 a t rfl rfl
  have I1:=I.pin2 f1 f2 eS eD (fun _ z=>nomatch z) (fun _ z=>nomatch z)
  have go:=d1q (Q:=fun v H'=> ∃κ,v= .ref κ/\Same H H'/\H' κ=some (.tup [.int (g t),.ref a])) F hr hb I1 (us:=[.ref a]) (vs:=[.ref a]) (.cons rfl .nil) ⟨a,t,rfl,ha,fun κ H' gg e=>⟨κ,rfl,gg,e⟩⟩
  refine a0C (a3I (hbody _ s _ (fun s'=> ∃κ H' c',Inv X pins σ H' s'/\Same H H'/\H' κ=some (.tup [.int (g t),.ref a])/\s'.heap.get? kS=some (seqObj "list" ((κs++[κ]).map Value.ref).toArray c')/\s'.heap.get? D=some (seqObj "list" #[] e1)/\FpOk X pins H' kS/\FpOk X pins H' D) go fun k s' hk=>?_) (fun x s' hx=>?_) fun _ _ z=>z)
  ·obtain⟨v,H',I',rv,κ,rfl,gg,eκ⟩:=hk
   cases rv;obtain⟨p1,p2,p3,p4,_⟩:=I'.pin (kS,_) (a0Z _ (a0S ..));obtain⟨d1,d2,d3,d4,_⟩:=I'.pin (D,_) (a0Z _ (a0X _ (a0S ..)));obtain⟨c',hc'⟩: ∃c',(s'.heap.update kS (Obj.mapSeq (·.push (Value.ref κ)))).get? kS=some (seqObj "list" ((κs++[κ]).map Value.ref).toArray c'):=by
    have ea:(List.map Value.ref κs).toArray.push (.ref κ)=((κs++[κ]).map Value.ref).toArray:=by simp
    rw[<-ea];exact⟨_,a6X p1 (·.push (Value.ref κ))⟩
   refine⟨_,_,p1,by rw[a0U,a0D];lia,κ,H',c',?_,gg,eκ,hc',?_,f1.to p2,f2.to d2⟩
   ·obtain⟨_,w1,w2,w3,w4,w5⟩:=f1
    exact I'.unpin2.turned (t':=s'.toks) (fun b o nb e=>(a1S _ _ (a3K nb)).trans e) p2 w1 w3 w4 w5
   ·exact(a1S _ _ ne).trans d1
  ·obtain⟨rfl,κ,H',c',I',gg,eκ,eS',eD',g1,g2⟩:=hx
   show wpAny _ _ (forIn (r.map Value.ref) PUnit.unit body) _ E s'
   refine c4b F hr hb ne hbody r rt H' (κs++[κ]) c' s' I' ⟨by simpa using T.len,fun i b u e1 e2=>gg _ _ (T.is (i+1) b u (by simpa using e1) (by simpa using e2))⟩ eS' eD' g1 g2 (by rw[List.length_append];show κs.length+1+r.length<64;lia) fun H2 κ2 c2 s2 I2 gg2 K2 eS2 eD2 h1 h2=>?_
   refine q H2 (κ::κ2) c2 s2 I2 (gg.trans gg2) ⟨by simp[K2.l1],by simp[K2.l2],fun i κ' b u e1 e2 e3=>?_⟩ (by rw[List.append_assoc]at eS2;exact eS2) eD2 h1 h2;cases i with
   |zero=>
    cases e1;cases e2;cases e3;exact⟨gg2 _ _ eκ,(gg.trans gg2) _ _ ha⟩
   |succ i=>exact K2.is i κ' b u (by simpa using e1) (by simpa using e2) (by simpa using e3)
end
section
variable{X:Cx}{pins:AO}{σ:St}{H:Hp}{s:Sh}{kk:Nat}{f D:Addr}{fd:Fd}{ps:Ss}{g:Nsq->Int}{as:As}{ts:LN}{E:VP}
theorem c0e{R:PySem.Fin->Sh->Prop}{n:Nat}(F:FnOk X.prog X.w X.K X.mg X.base CX0 kk f fd ps (c0d g))(hr:Room kk X.A.in1.in1)(hb:Binds X.K fd ps [])(hu:X.A.units+64<cLine)(I:Inv X pins σ H s)(T:TupsAt H as ts)(nd:ts.Nodup)(h64:ts.length<64)
  (ho:s.heap.get? D=some (seqObj "list" (as.map Value.ref).toArray n)) (fD:FpOk X pins H D)
  (q: ∀H2 p s2 c,Inv X pins σ H2 s2->Same H H2->Arr ts.length p->SUp (fun i=>a3f (a4y g) ts (ts.getD i [])) p ts.length->s2.heap.get? D=some (seqObj "list" (a1q (as.map Value.ref) p).toArray c)->FpOk X pins H2 D->R (.done (.ret .none)) s2):
  wpAny (model X.prog X.w) X.A.in1.in1 (ksk_tree D (.ref f) false) R E s:=by
 have la:=T.len
 have lv:(as.map Value.ref).length=ts.length:=by rw[a0D,la]
 have lD:D<s.heap.objs.size:=a0T ho
 obtain⟨d0,d1,d2,d3,d4,d5⟩:=fD
 let h1:=s.heap.update D (Obj.mapSeq fun _=>(#[]:AV))
 obtain⟨e1,ho1⟩: ∃e1,h1.get? D=some (seqObj "list" #[] e1):=⟨_,a6X ho fun _=> #[]⟩
 have I1:Inv X pins σ H {s with heap:=h1}:=I.turned (t':=s.toks) (fun b o nb e=>(a1S _ _ (a3K nb)).trans e) d0 d1 d3 d4 d5
 let h2:=h1.push (seqObj "tuple" (as.map Value.ref).toArray 0)
 have I3:Inv X pins σ H {s with heap:=h2.push (seqObj "list" #[] 0)}:=I1.kept (t':=s.toks) fun b o e=>b7y e _ _
 have ho3:(h2.push (seqObj "list" #[] 0)).get? D=some (seqObj "list" #[] e1):=b7y ho1 _ _
 have hk3:(h2.push (seqObj "list" #[] 0)).get? h2.objs.size=some (seqObj "list" ((([]:As)).map Value.ref).toArray 0):=a0V _ rfl
 have lk:s.heap.objs.size<=h2.objs.size:=by
  show _<=(h1.push _).objs.size
  rw[size_push']
  show _<=(s.heap.update D _).objs.size+1
  rw[Heap.size_update]
  exact a6M _
 have fk:FpOk X pins H h2.objs.size:=I.fpOk lk (I.hok.fresh lk)
 have ne:h2.objs.size≠D:=a4R (a1I lD lk)
 unfold ksk_tree
 refine a0C (listItems_at ho rfl ?_)
 refine a0C (a6Y ho rfl ?_ (by rw[a0U,a1B];lia) (a3E _))
 refine a0C (a9R ho1 rfl ?_)
 refine a0C (wpAny_newTuple ?_ (by show(as.map Value.ref).length<=_;rw[a1B];lia))
 refine a0C (a8E ?_ (a3E _))
 refine a2P ?_
 show wpAny (model X.prog X.w) X.A.in1.in1 (ksk_rest D (.ref f) false (as.map Value.ref).toArray e1 (.ref h2.objs.size)) R E {s with heap:=h2.push (seqObj "list" #[] 0)}
 unfold ksk_rest
 refine a0C (a5R ?_)
 rw[List.forIn_toArray]
 refine a0C (c4b F hr hb ne (fun x s0 C Qy hx hC=>?_) as ts H [] 0 _ I3 T hk3 ho3 fk ⟨d0,d1,d2,d3,d4,d5⟩ (by simp;lia) fun H2 κs c2 s2 I2 gg K2 eS eD f1 f2=>?_)
 ·refine a0C (a5K (a3I hx (fun k s' hk=>?_) fun _ _ z=>z.elim))
  obtain⟨its,c,e,l,qy⟩:=hC k s' hk
  refine a0C (a6Y e rfl ?_ (by rw[a1B];lia) (by show(its.push k).size<=_;rw[a4D,a1B];lia))
  exact a0F ⟨rfl,qy⟩
 rw[a9F]at eS
 have lκ:(κs.map Value.ref).length=(as.map Value.ref).length:=by rw[a0D,lv,K2.l1]
 refine a0C (listItems_at eS rfl ?_)
 have fin: ∀(st:SortSt) (p:Array Nat),Arr ts.length p->SUp (fun i=>a3f (a4y g) ts (ts.getD i [])) p ts.length->(arrOf st).map (·.2)=(a1q (as.map Value.ref) p).toArray->failedOf st=none->
   wpAny (model X.prog X.w) X.A.in1.in1 (ksk_tail D false e1 (.ref h2.objs.size) st) R E s2:=fun st p ar up hout hf=>by
  have sz:(a1q (as.map Value.ref) p).toArray.size=ts.length:=by
   rw[a0U,a0D,a0K,ar.size]
  unfold ksk_tail
  try dsimp only
  rw[hout]
  have I4:Inv X pins σ H2 {s2 with heap:=s2.heap.update h2.objs.size (Obj.mapSeq fun _=>(#[]:AV))}:=by
   obtain⟨w0,w1,w2,w3,w4,w5⟩:=f1;exact I2.turned (t':=s2.toks) (fun b o nb e=>(a1S _ _ (a3K nb)).trans e) w0 w1 w3 w4 w5
  have eD4:(s2.heap.update h2.objs.size (Obj.mapSeq fun _=>(#[]:AV))).get? D=some (seqObj "list" #[] e1):=(a1S _ _ ne).trans eD
  obtain⟨c5,hc5⟩: ∃c5,((s2.heap.update h2.objs.size (Obj.mapSeq fun _=>(#[]:AV))).update D (Obj.mapSeq fun _=>(a1q (as.map Value.ref) p).toArray)).get? D=some (seqObj "list" (a1q (as.map Value.ref) p).toArray c5):=⟨_,a6X eD4 fun _=>(a1q (as.map Value.ref) p).toArray⟩
  refine a0C (a6Y eS rfl ?_ (by rw[a0U,a1B];lia) (a3E _))
  refine a0C (wpAny_letGo ?_)
  refine a0C (a9R eD4 rfl ?_)
  refine a0C (a6Y eD4 rfl ?_ (a3E _) (by show(a1q (as.map Value.ref) p).toArray.size<=_;rw[sz,a1B];lia))
  rw[hf]
  simp only[bne_self_eq_false,Bool.false_eq_true,if_false]
  refine a0F (q H2 p _ c5 ?_ gg ar up hc5 f2)
  obtain⟨w0,w1,w2,w3,w4,w5⟩:=f2
  exact I4.turned (t':=s2.toks) (fun b o nb e=>(a1S _ _ (a3K nb)).trans e) w0 w1 w3 w4 w5
 unfold ksk_end
 simp only[Bool.false_eq_true,if_false]
 by_cases h2':2<=ts.length
 ·have n2: ¬(as.map Value.ref).toArray.size<2:=by rw[a0U];lia
  rw[if_neg n2,if_neg n2]
  have To:=a2t g ts
  have inj:=b8c (d:=([]:Nsq)) To nd
  refine a0C (a3I (c7w (A:=X.A.in1.in1) (by show X.A.units+1+1+8<cLine;lia) I2 (by lia) K2) (fun κ s0 hk=>?_) fun _ _ x=>x.elim)
  obtain⟨rfl,hk⟩:=hk
  have lκ':κs.length=ts.length:=K2.l1
  have ndκ:(κs.map Value.ref).Nodup:=by
   refine a2S.mpr fun i j hi hj ij z=>?_
   rw[a5Q,a5Q]at z;rw[a0D]at hi hj;have z:=Value.ref.inj z;have e1:=K2.is i κs[i] (as[i]'(by lia)) (ts[i]'(by lia)) (a0A hi) (a0A _) (a0A _);have e2:=K2.is j κs[j] (as[j]'(by lia)) (ts[j]'(by lia)) (a0A hj) (a0A _) (a0A _);obtain⟨e1,e1'⟩:=e1;obtain⟨e2,e2'⟩:=e2;rw[z,e2]at e1;have ea:as[j]'(by lia)=as[i]'(by lia):=by
    have y:=a1U e1;injection y with y
    injection y with _ y
    injection y with y
    exact V.ref.inj y
   rw[ea]at e2';have et:ts[j]'(by lia)=ts[i]'(by lia):=by
    have y:=a1U (e2'.symm.trans e1');injection y with y
    exact(List.map_inj_right (f:=nv) fun a b h=>a9B (V.int.inj h)).mp y
   have e4:=(a2G (i:=j) (j:=i) (by lia) nd).mp (by rw[a0A (by lia),a0A (by lia),et]);lia
  refine a0C (a3I (c3z (ks:=κs.map Value.ref) (vs:=as.map Value.ref) (k:=fun i=>a3f (a4y g) ts (ts.getD i [])) (Q:=fun st' s'=>s'=s0/\ ∃p:Array Nat,Arr ts.length p/\SUp (fun i=>a3f (a4y g) ts (ts.getD i [])) p ts.length/\(arrOf st').map (·.2)=(a1q (as.map Value.ref) p).toArray/\failedOf st'=none) lκ (by lia) ndκ (by rw[lv];exact inj) (fun i j C li lj hC=>hk i j C (by lia) (by lia) (by
   have e:=To.asks (a4a (d:=([]:Nsq)) (show i<ts.length by lia)).2 (a4a (d:=([]:Nsq)) (show j<ts.length by lia)).2;show C (a4y g (ts.getD i []) (ts.getD j [])) _
   rw[<-e];exact hC)) fun p st' a1 a2 a3 a4=>⟨rfl,p,by rw[<-lv];exact a1,by rw[<-lv];exact a2,a3,a4⟩) ?_ fun _ _ x=>x)
  rintro⟨⟨⟩,st⟩ s' ⟨rfl,p,ar,up,hout,hf⟩
  exact fin st p ar up hout hf
 ·have n2:(as.map Value.ref).toArray.size<2:=by rw[a0U];lia
  rw[if_pos n2,if_pos n2]
  refine a0C (a0F (a0C (a0F ?_)))
  refine fin _ (List.range ts.length).toArray (a9M _) (fun x y xy yn=>by lia) ?_ rfl
  rw[<-lv,a7s]
  exact c3s lκ
end
section
variable{X:Cx}{pins:AO}{σ:St}{H:Hp}{s:Sh}{d:Addr}{kvs:List (List Key×V)}{ts:LN}
theorem b4q(I:Inv X pins σ H s)(h:H d=some (.dT kvs))(e:kvs.map (·.1)=ts.map nk): ∃as es ep,Lies s.heap d es ep/\(d==sysModules)=false/\TupsAt H as ts/\(∀(i:Nat) (en:DictEntry),es[i]? =some en-> ∃a,as[i]? =some a/\en.key= .ref a)/\es.size=ts.length/\ts.Nodup/\ts.length<=sizeLine:=by
 obtain⟨z,nm,ys,rel,o,es,ep,e1,e2,e3,e4,nd⟩:=(show ObjOk X.prog X.w H s.heap d (.dT kvs)from I.hok d _ h)
 have l1:kvs.length=ys.length:=a4Q rel
 have l2:kvs.length=ts.length:=by rw[<-a0D (f:=(·.1)) (as:=kvs),e,a0D]
 have le:es.size=ys.length:=a8J e4
 have at1: ∀(i:Nat) (t:Nsq),ts[i]? =some t-> ∃k v y u,kvs[i]? =some (k,v)/\ys[i]? =some (k,y,u)/\k=nk t/\H y=some (.tup (t.map nv)):=fun i t et=>by
  have li:=(a0B.mp et).1
  obtain⟨⟨k,v⟩,ek⟩: ∃p,kvs[i]? =some p:=⟨_,a0A (by lia)⟩
  obtain⟨⟨k',y,u⟩,ey,p1,p2,p3⟩:=a6h rel ek
  have kk:k=nk t:=by
   have z1:(kvs.map (·.1))[i]? =some k:=by rw[a0G,ek];rfl
   rw[e,a0G,et]at z1;exact(a1U z1).symm
  have p1':k=k':=p1
  subst p1'
  refine⟨k,v,y,u,ek,ey,kk,?_⟩
  have p2':H y=some (.tup (k.map kV)):=p2
  rw[kk,a5r]at p2'
  exact p2'
 refine⟨ys.map (·.2.1),es,ep,⟨o,e1,e2,e3⟩,nm,⟨by rw[a0D];lia,fun i b t eb et=>?_⟩,fun i en ee=>?_,by lia,?_,by lia⟩
 ·obtain⟨k,v,y,u,_,ey,_,hy⟩:=at1 i t et
  rw[a0G,ey]at eb
  cases eb
  exact hy
 ·rw[entry_at e4]at ee
  obtain⟨q,eq,rfl⟩:=a0O.mp ee
  exact⟨q.2.1,by rw[a0G,eq];rfl,rfl⟩
 ·have z1:(ys.map (·.1))=ts.map nk:=by
   rw[<-e];refine a3X fun i=>?_
   rw[a0G,a0G];cases ek:kvs[i]? with
   |none=>rw[a1Y (by rw[<-l1];exact List.getElem?_eq_none_iff.mp ek)];rfl
   |some p=>
    obtain⟨q,ey,p1,_⟩:=a6h rel ek;rw[ey];exact a1Z some p1.symm
  rw[z1]at nd
  exact(a7G.mp nd).imp fun h z=>h (a1Z nk z)
theorem b0y{as:As}{es:Array DictEntry}{acc:AV}(is: ∀(i:Nat) (en:DictEntry),es[i]? =some en-> ∃a,as[i]? =some a/\en.key= .ref a)(ln:as.length=es.size)(it:ItemsOf (fun i v=> ∃en,es[i]? =some en/\v=en.key) acc es.size):acc.toList=as.map Value.ref:=by
 refine a3X fun i=>?_
 by_cases h:i<es.size
 ·obtain⟨v,ev⟩: ∃v,acc[i]? =some v:=⟨_,a1R (by rw[it.1];exact h)⟩
  obtain⟨en,e1,e2⟩:=it.2 i v ev
  obtain⟨a,ea,ek⟩:=is i en e1
  rw[a1X,ev,a0G,ea,e2,ek]
  rfl
 ·rw[a1Y (by rw[a0K,it.1];lia),a1Y (by rw[a0D];lia)]
theorem a4z: ∀l:As,Vals (l.map V.ref) (l.map Value.ref)
 | []=> .nil
 |x::l=> .cons rfl (a4z l)
end
section
variable{X:Cx}
def c4c(g:Nsq->Int):List V->Hp->VK->Prop:=fun xs H Q=> ∃d kvs ts,xs=[V.ref d]/\H d=some (.dT kvs)/\kvs.map (·.1)=ts.map nk/\ts.length<64/\
 ∀D bs us H',Same H H'->H D=none->H' D=some (.lst (bs.map V.ref))->TupsAt H' bs us->us.Perm ts->us.Pairwise (fun x y=>a4y g x y=true)->Q (.ref D) H'
theorem a9n{as:As}{p:Array Nat}(ar:Arr as.length p):a1q (as.map Value.ref) p=(p.toList.map fun i=>as.getD i 0).map Value.ref:=by
 unfold a1q
 rw[a3O]
 refine a4O fun i hi=>?_
 have li:i<as.length:=by
  have m:=(a2D.mp ar).mem_iff.mp hi
  simpa using m
 show(as.map Value.ref).getD i Value.none=Value.ref (as.getD i 0)
 rw[a0N,a0N,a0G,a0A li]
 rfl
theorem b4r{kk:Nat}{f:Addr}{fd:Fd}{ps:Ss}{g:Nsq->Int}{pins:AO}{σ:St}{H:Hp}{s:Sh}{Q:VK}{d:Addr}(hc:X.calm=true)(hu:X.A.units+64<cLine)(F:FnOk X.prog X.w X.K X.mg X.base CX0 kk f fd ps (c0d g))(hr:Room kk X.A.in1.in1)(hb:Binds X.K fd ps [])(I:Inv X pins σ H s)
  (h:c4c g [.ref d] H Q):wpAny (model X.prog X.w) X.A (call (.builtin "sorted") [.ref d] [(Str.ofString "key",.ref f)]) (EP X pins σ Q) X.xe s:=by
 obtain⟨d',kvs,ts,e0,hd,e,h64,q⟩:=h
 cases e0
 obtain⟨as,es,ep,L,nm,T,is,le,nd,fit⟩:=b4q I hd e
 refine call_function_entry_kw kind_sorted plain_sorted entry_sorted (ksk_s1 _ _) ?_
 unfold Builtin.«sorted»
 refine a0C (m:=checkCount "sorted" 1 1 _) (a0F ?_)
 refine a0C (kdu_collect (A:=X.A.in1) (srcK nm) (by simpa using I.ok.hd hc) L (by lia) fun h1 tk acc keep it=>?_)
 have ea:=b0y is (by rw[T.len,le]) it
 rw[ea]
 have I1:Inv X pins σ H {s with heap:=h1,toks:=tk}:=I.kept keep
 refine a0C (a8E ?_ (by rw[a0D,T.len,a1B];lia))
 have eD:(h1.push (seqObj "list" (as.map Value.ref).toArray 0)).get? h1.objs.size=some (seqObj "list" (as.map Value.ref).toArray 0):=a0V _ rfl
 have I2:Inv X pins σ H {s with heap:=h1.push (seqObj "list" (as.map Value.ref).toArray 0),toks:=tk}:=I1.kept (t':=tk) fun b o z=>a0I _ z
 have hD:H h1.objs.size=none:=I1.hok.fresh (a0J _)
 have fD:FpOk X pins H h1.objs.size:=I1.fpOk (a0J _) hD
 refine a0C (a2P (wpAny_call_entry_kw slot_list_sort ⟨_,eD,rfl⟩ a9J (c0e (s:={s with heap:=h1.push (seqObj "list" (as.map Value.ref).toArray 0),toks:=tk}) F hr hb hu I2 T nd h64 eD fD fun H2 p s2 c Iz gg ar up e2 f2=>⟨_,rfl,?_⟩) (ksk_l1 _ _)))
 have arA:Arr as.length p:=by rw[T.len];exact ar
 rw[a9n arA]at e2
 have T2:=(T.same gg).pick ar
 obtain⟨w0,w1,w2,w3,w4,w5⟩:=f2
 have few:((p.toList.map fun i=>as.getD i 0).map V.ref).length<=sizeLine:=by
  rw[a0D,a0D,a0K,ar.size]
  exact fit
 have I5:=Iz.track (o:= .lst ((p.toList.map fun i=>as.getD i 0).map V.ref)) w0 ⟨few,_,c,a4z _,e2⟩ (a0Y I1.sz (a0J _)) w1 w4 w5
 have k5:=a0d w0 (.lst ((p.toList.map fun i=>as.getD i 0).map V.ref))
 exact a0F ⟨_,rfl,.ref h1.objs.size,_,I5,rfl,q _ _ _ _ (gg.trans k5) hD a0a (T2.same k5) (b8b ar) (a7t (a2t g ts) ar up)⟩
def d4i(g:Nsq->Int)(te:TE):TE:=fun σ H Q=>te σ H fun x H1=> ∃d,x= .ref d/\c4c g [.ref d] H1 Q
theorem c7x{kk:Nat}{ps:Ss}{g:Nsq->Int}{fx:Str}{e:Expr}{te:TE}{p p2 kp pos:Pos}(hc:X.calm=true)(hu:X.A.units+64<cLine)(cl:a0q X.prog X.w X.K X.mg X.base fx kk ps (c0d g))(hr:Room (kk+2) X.A)(hg:Gl X "sorted")(hm:X.mg "sorted"=none)(hgf:Gl X fx)(he:PE X e te)
  (hdf:(fx==("__debug__":Str))=false:=by decide) (hs:starEach [e] X.env=[(false,eval e X.env)]:=by rfl):PE X (.Call (.Name "sorted" p) [e] [⟨some "key",.Name fx p2,kp⟩] pos) (d4i g te):=by
 intro pins s σ H Q I h
 obtain⟨f,fd,F,hmf,hk,hb⟩:=cl
 refine a4E (b0i I hg hm boot_sorted ?_)
 refine callWith_kw ?_ (by rw[hs];rfl) (by rw[hs];rfl)
 have ha:PA X [e] (a6w te b7j):=a0f he a0i hs
 refine thn (ha pos pins s σ H (fun vs H1=>match vs with| [x]=> ∃d,x= .ref d/\c4c g [.ref d] H1 Q|_=>False) I h) fun us s1 ⟨vs,H1,I1,r,q⟩=>?_
 match vs,r,q with
 | [x],r,q=>
  obtain⟨d,rfl,q⟩:=q
  obtain⟨u,rfl,ru⟩:=a5q r
  cases ru
  refine kws_cons (b1h I1 hgf hmf (kws_nil ?_) hdf)
  exact b4r hc hu F hr.in1.in1 hb I1 q
end
end L2
namespace L2
open PySem PySem.Spec PyProof.Rows
section
variable{X:Cx}{pins:AO}{σ:St}{H:Hp}{s:Sh}{d:Addr}{kvs:List (List Key×V)}{ts:LN}{o:Obj}
theorem Inv.freeze(I:Inv X pins σ H s)(h:H d=some (.dT kvs))(e:s.heap.get? d=some o):Inv X pins σ (upd H d (.frz o (.dT kvs))) s:=by
 obtain⟨z,nm,ys,rel,o',es,ep,e1,e2,e3,e4,nd⟩:=(show ObjOk X.prog X.w H s.heap d (.dT kvs)from I.hok d _ h)
 refine I.write (x:=d) (e:=d) (h':=s.heap) (t':=s.toks) (by rw[h];exact True.intro) (.inl rfl) (fun _ _ _ q=>q) ⟨o,e⟩ ⟨e,z,nm,ys,Paired.mapP rel fun p q r=>⟨r.1,?_,r.2.2⟩,o',es,ep,e1,e2,e3,e4,nd⟩
 rw[a0c (nE r.2.1 h)]
 exact r.2.1
theorem b2e(I:Inv X pins σ H s)(h:H d=some (.frz o (.dT kvs)))(e:kvs.map (·.1)=ts.map nk): ∃as es ep,s.heap.get? d=some o/\o.ExactDict/\o.data= .dict es ep/\(d==sysModules)=false/\TupsAt H as ts/\(∀(i:Nat) (en:DictEntry),es[i]? =some en-> ∃a,as[i]? =some a/\en.key= .ref a)/\es.size=ts.length:=by
 obtain⟨e0,z,nm,ys,rel,o',es,ep,e1,e2,e3,e4,nd⟩:=(show ObjOk X.prog X.w H s.heap d (.frz o (.dT kvs))from I.hok d _ h)
 rw[e0]at e1
 cases e1
 have l1:kvs.length=ys.length:=a4Q rel
 have l2:kvs.length=ts.length:=by rw[<-a0D (f:=(·.1)) (as:=kvs),e,a0D]
 have le:es.size=ys.length:=a8J e4
 refine⟨ys.map (·.2.1),es,ep,e0,e2,e3,nm,⟨by rw[a0D];lia,fun i b t eb et=>?_⟩,fun i en ee=>?_,by lia⟩
 ·have li:=(a0B.mp et).1
  obtain⟨⟨k,v⟩,ek⟩: ∃p,kvs[i]? =some p:=⟨_,a0A (by lia)⟩
  obtain⟨⟨k',y,u⟩,ey,p1,p2,p3⟩:=a6h rel ek
  have kk:k=nk t:=by
   have z1:(kvs.map (·.1))[i]? =some k:=by rw[a0G,ek];rfl
   rw[e,a0G,et]at z1;exact(a1U z1).symm
  rw[a0G,ey]at eb
  cases eb
  have p2':H y=some (.tup (k.map kV)):=p2
  rw[kk,a5r]at p2'
  exact p2'
 ·rw[entry_at e4]at ee
  obtain⟨q,eq,rfl⟩:=a0O.mp ee
  exact⟨q.2.1,by rw[a0G,eq];rfl,rfl⟩
end
def Itd(d:Addr)(o:Obj):It:=
  ⟨fun i H=> ∃(kvs:List (List Key×V)) (ts:LN) (t:Nsq),H d=some (.frz o (.dT kvs))/\kvs.map (·.1)=ts.map nk/\ts[i]? =some t,
   fun i H x H'=>H'=H/\ ∃a,x= .ref a/\ ∀(kvs:List (List Key×V)) (ts:LN),H d=some (.frz o (.dT kvs))->kvs.map (·.1)=ts.map nk-> ∃t:Nsq,ts[i]? =some t/\H a=some (.tup (t.map nv)),
   fun i H=> ∃kvs,∃ts:LN,H d=some (.frz o (.dT kvs))/\kvs.map (·.1)=ts.map nk/\ts.length<=i⟩
theorem d1r{ts us:LN}(h:ts.map nk=us.map nk):ts=us:=a7b (fun a b e=>b7t e) h
theorem c4d{P:Pg}{w:World}{K:W.Frag}{tg:Expr}{d it:Addr}{o:Obj}{es:Array DictEntry}{ep:Nat}(ne:d≠it)(od:o.data= .dict es ep)(ox:o.ExactDict):Turn P w K tg (Itd d o) [it] it (fun i h=>h.get? it=some (a4u d i es.size ep)) where
 mem:=by simp
 obj:=fun i h st b hb=>by
  have e:b=it:=by simpa using hb
  subst e
  exact⟨_,st,fun v z=>by
   have z':Data.fields _=Data.cell v:=z;cases z'⟩
 keep:=fun i h h' st k=>k it (by simp) _ st
 item:=by
  intro X hP hw hK hc i pins s σ H E I hf st hg
  subst hP hw hK
  obtain⟨kvs,ts,t,h1,h2,h3⟩:=hg
  obtain⟨as,es',ep',e1,e2,e3,nm,T,is,le⟩:=b2e I h1 h2
  rw[od]at e3
  cases e3
  obtain⟨f0,f1,f2,f3,f4,f5⟩:=hf it (by simp)
  have li:=(a0B.mp h3).1
  obtain⟨en,ee⟩: ∃en,es[i]? =some en:=⟨_,a1R (by lia)⟩
  obtain⟨a,ea,ek⟩:=is i en ee
  refine b4l st ⟨o,e1,ox,od⟩ ee fun h' st' sb=>?_
  have I1:Inv X pins σ H {s with heap:=h'}:=I.turned (t':=s.toks) (fun b o hb e=>(sb.2 b hb).trans e) f0 f1 f3 f4 f5
  refine⟨_,rfl,c6c (s:={s with heap:=h'}) (n:="dict_keyiterator") st' rfl rfl (by decide) ⟨.ref a,H,I1,ek,⟨rfl,a,rfl,fun kvs' ts' g1 g2=>?_⟩,st',fun b hb=>(hf b hb).1⟩⟩
  rw[h1]at g1
  cases g1
  have tt:=d1r (h2.symm.trans g2)
  subst tt
  exact⟨t,h3,T.is i a t ea h3⟩
 done:=by
  intro X hP hw hK hc i pins s σ H E I hf st hg
  subst hP hw hK
  obtain⟨kvs,ts,h1,h2,h3⟩:=hg
  obtain⟨as,es',ep',e1,e2,e3,nm,T,is,le⟩:=b2e I h1 h2
  rw[od]at e3
  cases e3
  obtain⟨f0,f1,f2,f3,f4,f5⟩:=hf it (by simp)
  exact b7x (I.ok.hd hc) st ⟨o,e1,ox,od⟩ (a7C (by lia)) fun h' eb=>⟨rfl,I.turned (t':=s.toks) (fun b o hb e=>eb b o hb e) f0 f1 f3 f4 f5⟩
 self:=fun _ i s Q E st q=>by
  have ty:s.TypeIs (.ref it) "dict_keyiterator":=⟨_,st,rfl⟩
  refine a5E ty a4L (a2H a4L ty a7Y ?_ (a7P _))
  exact show wpAny _ _ (ret (.ref it)) _ _ s from a0F ⟨_,rfl,"dict_keyiterator",_,ty,a2T.lookup,q⟩
section
variable{X:Cx}{tg:Expr}
def d4j(H:Hp)(d:Addr)(o:Obj)(kvs:List (List Key×V))(H2:Hp):Prop:=(H d=some (.frz o (.dT kvs))/\H2=H)∨(H d=some (.dT kvs)/\H2=upd H d (.frz o (.dT kvs)))
def iDict(td:TE):TI:=fun σ H R=>td σ H fun x H1=> ∃d kvs,∃ts:LN,x= .ref d/\kvs.map (·.1)=ts.map nk/\(H1 d=some (.dT kvs)∨ ∃o,H1 d=some (.frz o (.dT kvs)))/\ ∀o H2,d4j H1 d o kvs H2->R (Itd d o) H2
theorem c4e{l:Expr}{tl:TE}(hl:PE X l tl):PI X tg l (iDict tl):=by
 intro pins s σ H R I h
 refine thn (hl pins s σ H _ I h) fun v s1 ⟨x,H1,I1,r1,q1⟩=>?_
 obtain⟨d,kvs,ts,e,ek,w,q⟩:=q1
 subst e
 cases r1
 have go: ∀(H2:Hp) (o:Obj),Inv X pins σ H2 s1->H2 d=some (.frz o (.dT kvs))->R (Itd d o) H2->wpAny (model X.prog X.w) X.A (pyIter (.ref d)) (PIE X pins σ tg R) X.xe s1:=fun H2 o I2 hd r=>by
  obtain⟨as,es,ep,e1,e2,e3,nm,T,is,le⟩:=b2e I2 hd ek
  refine b4m nm ⟨o,e1,e2,e3⟩ ?_
  refine⟨s1.heap.objs.size,[s1.heap.objs.size],_,_,H2,rfl,I2.kept (t':=s1.toks) fun b o e=>a0I _ e,c4d (a1J (a0T e1)) e3 e2,a0V _ rfl,fun b hb=>?_,r⟩
  have e:b=s1.heap.objs.size:=by simpa using hb
  subst e
  exact I2.fpOk (a0J _) (I2.hok.fresh (a0J _))
 rcases w with hd|⟨o,hd⟩
 ·obtain⟨_,_,_,_,o,_,_,e1,_⟩:=(show ObjOk X.prog X.w H1 s1.heap d (.dT kvs)from I1.hok d _ hd)
  exact go _ o (I1.freeze hd e1) a0a (q o _ (.inr ⟨hd,rfl⟩))
 ·exact go H1 o I1 hd (q o _ (.inl ⟨hd,rfl⟩))
end
section
variable{d:Addr}{o:Obj}{kvs:List (List Key×V)}{ts:LN}{vs:Ss}{g:TG}{tt:TT}{te:TE}{σ:St}{H:Hp}{Fin:List V->Hp->Prop}
theorem c4f(hk:kvs.map (·.1)=ts.map nk)(Pv:Nat->List V->Hp->Prop)(hz:ts.length<=sizeLine)(h0:Pv 0 [] H)(hl: ∀i ys H,i<=ts.length->Pv i ys H->H d=some (.frz o (.dT kvs))/\ys.length<=i)
  (hs: ∀i a t ys H,ts[i]? =some t->H a=some (.tup (t.map nv))->Pv i ys H->g (.ref a) (a3c vs σ) H fun σ2 H2=>b5n (a3c vs σ) σ2/\tt σ2 H2 fun b H3=>if b=true then te σ2 H3 fun y H4=>Pv (i+1) (ys++[y]) H4 else Pv (i+1) ys H3)
  (hd: ∀ys H,Pv ts.length ys H->Fin ys H):b3v vs g tt te σ (Itd d o) H Fin:=by
 refine⟨fun i m ys H=>m=ts.length-i/\i<=ts.length/\Pv i ys H,⟨ts.length,by simp,Nat.zero_le _,h0⟩,?_⟩
 rintro i m ys H ⟨rfl,hi,p⟩
 obtain⟨q,hy⟩:=hl i ys H hi p
 by_cases hlt:i<ts.length
 ·refine .inr ⟨⟨kvs,ts,ts[i],q,hk,by simp[hlt]⟩,by lia,Pv (i+1),fun zs H' p'=>⟨ts.length-(i+1),Nat.sub_succ_lt_self _ _ hlt,rfl,hlt,p'⟩,fun v H' y=>?_⟩
  obtain⟨e,a,ea,y⟩:=y
  subst e ea
  obtain⟨t,et,ha⟩:=y kvs ts q hk
  exact hs i a t ys _ et ha p
 ·have e:i=ts.length:=by lia
  subst e
  exact .inl ⟨⟨kvs,ts,q,hk,a0J _⟩,by lia,hd ys H p⟩
end
section
variable{d:Addr}{o:Obj}{kvs:List (List Key×V)}{ts:LN}{g:TG}{tb:TS}{D:Ends}{σ:St}{H:Hp}
theorem c7y(hk:kvs.map (·.1)=ts.map nk)(Pv:Nat->St->Hp->Prop)(h0:Pv 0 σ H)(hl: ∀i σ H,i<=ts.length->Pv i σ H->H d=some (.frz o (.dT kvs)))
  (hs: ∀i a t σ H,ts[i]? =some t->H a=some (.tup (t.map nv))->Pv i σ H->g (.ref a) σ H fun σ2 H2=>tb {D with nx:=Pv (i+1),ct:=Pv (i+1),bk:=D.nx} σ2 H2) (hd: ∀σ H,Pv ts.length σ H->D.nx σ H):
  ∃W:Nat->Nat->St->Hp->Prop,(∃m,W 0 m σ H)/\ ∀i m σ H,W i m σ H->
   ((Itd d o).stop i H/\D.nx σ H)∨((Itd d o).go i H/\ ∃N:St->Hp->Prop,(∀σ' H',N σ' H'-> ∃m',m'<m/\W (i+1) m' σ' H')/\ ∀x H',(Itd d o).yld i H x H'->g x σ H' fun σ2 H2=>tb {D with nx:=N,ct:=N,bk:=D.nx} σ2 H2):=by
 refine⟨fun i m σ H=>m=ts.length-i/\i<=ts.length/\Pv i σ H,⟨ts.length,by simp,Nat.zero_le _,h0⟩,?_⟩
 rintro i m σ H ⟨rfl,hi,p⟩
 have q:=hl i σ H hi p
 by_cases hlt:i<ts.length
 ·refine .inr ⟨⟨kvs,ts,ts[i],q,hk,by simp[hlt]⟩,Pv (i+1),fun σ' H' p'=>⟨ts.length-(i+1),Nat.sub_succ_lt_self _ _ hlt,rfl,hlt,p'⟩,fun x H' y=>?_⟩
  obtain⟨e,a,ea,y⟩:=y
  subst e ea
  obtain⟨t,et,ha⟩:=y kvs ts q hk
  exact hs i a t σ _ et ha p
 ·have e:i=ts.length:=by lia
  subst e
  exact .inl ⟨⟨kvs,ts,q,hk,a0J _⟩,hd σ H p⟩
end
section
variable{X:Cx}{pins:AO}{σ:St}{H:Hp}{s:Sh}{h':Heap}{t':Nat}
theorem Inv.turnedN{ch:As}(I:Inv X pins σ H s)(k: ∀b o,b∉ch->s.heap.get? b=some o->h'.get? b=some o)(hf: ∀b∈ch,FpOk X pins H b):Inv X pins σ H {s with heap:=h',toks:=t'}:=by
 have nt: ∀b u,H b=some u->b∉ch:=fun b u e hb=>by rw[(hf b hb).1]at e;cases e
 refine I.step (h':=h') (H':=H) (g':=s.gens) (t':=t') (d':=s.drawn) (ch:=ch) (fun b hb=>?_) (fun b o _ _ nc e _=>k b o nc e) (fun b o _ _ nc e _=>⟨o.slots,k b o nc e⟩) (fun b o _ _ n=>n) (fun b o nc e=>⟨o,k b o nc e⟩)
  (fun b xs q=>q) (fun b o u q=>q) (fun b ps q=>⟨#[],by rw[q];simp⟩) (fun m hm=>?_) (fun b u q=>?_) I.bare
 ·obtain⟨_,f1,_,f3,f4,f5⟩:=hf b hb
  exact⟨f3,f1,f4,f5⟩
 ·exact hm.at' fun o e=>k _ o (fun hb=>(hf _ hb).2.1 rfl) e
 ·refine(I.hok b u q).stay (fun c o hc e=>k c o ?_ e) (fun _ z=>z) fun _ _ z=>z
  rcases hc with z|z
  ·rw[z];exact nt b u q
  ·exact nt c _ z
end
def Ite(K:W.Frag)(l:Addr):It:=
  ⟨fun i H=> ∃xs x,SqL K H l xs/\xs[i]? =some x,
   fun i H v H'=> ∃T x,v= .ref T/\H T=none/\H'=upd H T (.tup [.int (i:Nat),x])/\ ∀xs,SqL K H l xs->xs[i]? =some x,
   fun i H=> ∃xs,SqL K H l xs/\xs.length<=i⟩
def d4k(e it l:Addr)(i:Nat)(h:Heap):Prop:=(∃old,IsEnum h e it (i:Nat) old)/\h.IsListIter it l i
theorem c4g{P:Pg}{w:World}{K:W.Frag}{elts:List Expr}{x1:Nat}{pos:Pos}{e it l:Addr}(ne:e≠it):Turn P w K (.Tuple elts x1 pos) (Ite K l) [e,it] e (fun i h=>d4k e it l i h) where
 mem:=a0S ..
 obj:=fun i h Z b hb=>by
  obtain⟨⟨old,h1⟩,o,h2,h3,h4⟩:=Z
  simp only[List.mem_cons,List.not_mem_nil,or_false]at hb
  rcases hb with rfl|rfl
  ·exact⟨_,h1,fun v q=>by cases q⟩
  ·exact⟨_,h2,fun v q=>by rw[h4]at q;cases q⟩
 keep:=fun i h h' Z k=>by
  obtain⟨⟨old,h1⟩,o,h2,h3,h4⟩:=Z
  exact⟨⟨old,k e (by simp) _ h1⟩,o,k it (by simp) _ h2,h3,h4⟩
 item:=by
  intro X hP hw hK hc i pins s σ H E I hf Z hg
  subst hP hw hK
  obtain⟨xs,x,q1,hx⟩:=hg
  obtain⟨⟨old,h1⟩,h2⟩:=Z
  obtain⟨its,rv,pl,_⟩:=I.list q1
  obtain⟨u,hu,ru⟩:=rv.get hx
  refine wpAny_pyNext_enum_item h1 h2 pl.isList (x:=u) (by simpa using hu) ne fun h' ho hi' hT hs k=>?_
  have I1:Inv X pins σ H {s with heap:=h',toks:=s.toks+1}:=I.turnedN (ch:=[e,it]) (t':=s.toks+1) (fun b o nb eb=>k b o (fun z=>nb (by simp[z])) (fun z=>nb (by simp[z])) eb) hf
  have nT:H s.heap.objs.size=none:=I.hok.fresh (a0J _)
  have ok:ObjOk X.prog X.w (upd H s.heap.objs.size (.tup [.int (i:Nat),x])) h' s.heap.objs.size (.tup [.int (i:Nat),x]):=⟨by show 2<=sizeLine;decide,[_,u],.cons ⟨_,rfl⟩ (.cons ru .nil),⟨_,hT,rfl,_,rfl,rfl⟩⟩
  have I2:Inv X pins σ (upd H s.heap.objs.size (.tup [.int (i:Nat),x])) {s with heap:=h',toks:=s.toks+1}:=Inv.trackNew I I1 ok
  refine⟨_,rfl,wpAny_letOwnedTupleGo_enum ho fun h3 he3 sb=>?_⟩
  have le:e<s.heap.objs.size:=a0T h1
  have li:it<s.heap.objs.size:=by obtain⟨_,z,_⟩:=h2;exact a0T z
  have none2: ∀b∈[e,it],upd H s.heap.objs.size (.tup [.int (i:Nat),x]) b=none:=fun b hb=>by
   have nb:b≠s.heap.objs.size:=by
    simp only[List.mem_cons,List.not_mem_nil,or_false]at hb
    rcases hb with rfl|rfl
    ·exact a1J le
    ·exact a1J li
   rw[a0c nb];exact(hf b hb).1
  obtain⟨f0,f1,f2,f3,f4,f5⟩:=hf e (a0S ..)
  have I3:Inv X pins σ (upd H s.heap.objs.size (.tup [.int (i:Nat),x])) {s with heap:=h3,toks:=s.toks+1}:=I2.turned (t':=s.toks+1) (fun b o nb e=>sb.extBut b o nb e) (none2 e (a0S ..)) f1 f3 f4 f5
  refine⟨.ref s.heap.objs.size,_,I3,rfl,⟨_,x,rfl,nT,rfl,fun xs' h=>?_⟩,⟨⟨_,he3⟩,?_⟩,none2⟩
  ·rw[I.list_inj h q1];exact hx
  ·obtain⟨o,z1,z2,z3⟩:=hi'
   exact⟨o,sb.extBut _ _ (a3K ne) z1,z2,z3⟩
 done:=by
  intro X hP hw hK hc i pins s σ H E I hf Z hg
  subst hP hw hK
  obtain⟨xs,q1,he⟩:=hg
  obtain⟨⟨old,h1⟩,h2⟩:=Z
  obtain⟨its,rv,pl,_⟩:=I.list q1
  have l1:=rv.length
  refine wpAny_pyNext_enum_end (I.ok.hd hc) h1 h2 pl.isList (by simp;lia) fun h' k=>⟨rfl,?_⟩
  exact I.turnedN (ch:=[it]) (t':=s.toks) (fun b o nb eb=>k b o (fun z=>nb (by simp[z])) eb) fun b hb=>hf b (by rw[List.mem_singleton.mp hb];simp)
 self:=fun _ _ _ _ _ Z q=>by
  obtain⟨⟨old,h1⟩,_⟩:=Z
  exact wpAny_pyIter_enum h1 q
section
variable{X:Cx}
def iEnum(K:W.Frag)(ta:TA):TI:=fun σ H R=>ta σ H fun vs H1=> ∃l xs,vs=[.ref l]/\SqL K H1 l xs/\R (Ite K l) H1
theorem b2f{elts:List Expr}{x1:Nat}{tp:Pos}{a:Expr}{ta:TA}{p pos:Pos}(hg:Gl X "enumerate")(hm:X.mg "enumerate"=none)(ha:PA X [a] ta)(hs:starEach [a] X.env=[(false,eval a X.env)]:=by rfl):PI X (.Tuple elts x1 tp) (.Call (.Name "enumerate" p) [a] [] pos) (iEnum X.K ta):=by
 intro pins s σ H R I h
 refine Call_ (b0i I hg hm PyProof.Rows.boot_enumerate (a5X (thn (ha pos pins s σ H _ I h) fun us s1 ⟨vs,H1,I1,r1,q1⟩=>?_) (by rw[hs];rfl) (by rfl)))
 obtain⟨l,xs,e,q1,q⟩:=q1
 subst e
 obtain⟨u1,rfl,ru1⟩:=a5q r1
 cases ru1
 obtain⟨its,rv,pl,_⟩:=I1.list q1
 have pl':=pl.isList
 refine call_enumerate_list pl' fun h' he hi sz k=>wpAny_pyIter_enum he ?_
 have I2:Inv X pins σ H1 {s1 with heap:=h'}:=I1.kept (t':=s1.toks) k
 refine⟨_,_,_,_,H1,rfl,I2,c4g (l:=l) (a4R (a4G _)),⟨⟨_,he⟩,hi⟩,fun b hb=>?_,q⟩
 have le:s1.heap.objs.size<=b:=by
  simp only[List.mem_cons,List.not_mem_nil,or_false]at hb
  rcases hb with e|e<;>(rw[e];first|exact a0J _|exact a3R _ _)
 exact I1.fpOk le (I1.hok.fresh le)
end
section
variable{K:W.Frag}{l:Addr}{xs:List V}{g:TG}{tb:TS}{D:Ends}{σ:St}{H:Hp}
theorem a8l(Pv:Nat->St->Hp->Prop)(h0:Pv 0 σ H)(hl: ∀i σ H,i<=xs.length->Pv i σ H->SqL K H l xs)
  (hs: ∀i T x σ H,xs[i]? =some x->H T=none->Pv i σ H->g (.ref T) σ (upd H T (.tup [.int (i:Nat),x])) fun σ2 H2=>tb {D with nx:=Pv (i+1),ct:=Pv (i+1),bk:=D.nx} σ2 H2) (hd: ∀σ H,Pv xs.length σ H->D.nx σ H):
  ∃W:Nat->Nat->St->Hp->Prop,(∃m,W 0 m σ H)/\ ∀i m σ H,W i m σ H->
   ((Ite K l).stop i H/\D.nx σ H)∨((Ite K l).go i H/\ ∃N:St->Hp->Prop,(∀σ' H',N σ' H'-> ∃m',m'<m/\W (i+1) m' σ' H')/\ ∀x H',(Ite K l).yld i H x H'->g x σ H' fun σ2 H2=>tb {D with nx:=N,ct:=N,bk:=D.nx} σ2 H2):=by
 refine⟨fun i m σ H=>m=xs.length-i/\i<=xs.length/\Pv i σ H,⟨xs.length,by simp,Nat.zero_le _,h0⟩,?_⟩
 rintro i m σ H ⟨rfl,hi,p⟩
 have q:=hl i σ H hi p
 by_cases hlt:i<xs.length
 ·refine .inr ⟨⟨xs,xs[i],q,by simp[hlt]⟩,Pv (i+1),fun σ' H' p'=>⟨xs.length-(i+1),Nat.sub_succ_lt_self _ _ hlt,rfl,hlt,p'⟩,fun v H' y=>?_⟩
  obtain⟨T,x,rfl,nT,rfl,y⟩:=y
  exact hs i T x σ _ (y xs q) nT p
 ·have e:i=xs.length:=by lia
  subst e
  exact .inl ⟨⟨xs,q,a0J _⟩,hd σ H p⟩
end
open PySem PySem.Spec PySem.W PyProof.Rows
section
variable{X:Cx}
def c4h:List V->Hp->VK->Prop:=fun xs H Q=> ∃d kvs ts,xs=[V.ref d]/\H d=some (.dT kvs)/\kvs.map (·.1)=ts.map nk/\(∀t∈ts,t≠[])/\ts.length<=4000/\
 ∀D bs us,H D=none->TupsAt H bs us->us.Perm ts->us.Pairwise (fun x y=>ltl x y=true)->Q (.ref D) (upd H D (.lst (bs.map V.ref)))
theorem c0f(hc:X.calm=true):a5o X (.builtin "sorted") c4h:=by
 intro pins s σ H xs us Q I rr h
 obtain⟨d,kvs,ts,rfl,hd,e,ne,few,q⟩:=h
 obtain⟨u,rfl,ru⟩:=a5q rr
 cases ru
 obtain⟨as,es,ep,L,nm,at0,is,le,nd,fit⟩:=b4q I hd e
 refine a6J kind_sorted plain_sorted entry_sorted (args_sorted1 _) ?_
 unfold Builtin.«sorted»
 refine a0C (m:=checkCount "sorted" 1 1 _) (a0F ?_)
 refine a0C (kdu_collect (A:=X.A.in1) (srcK nm) (by simpa using I.ok.hd hc) L (by rw[sizeLine_eq];lia) fun h1 tk acc keep it=>?_)
 have ea:=b0y is (by rw[at0.len,le]) it
 rw[ea]
 have ln:(as.map Value.ref).length=ts.length:=by rw[a0D,at0.len]
 refine a0C (a8E ?_ (by rw[ln,a1B];lia))
 have T:=c3t ts
 have inj:=b8c (d:=([]:Nsq)) T nd
 have nda:=d1p at0 nd
 have eD:(h1.push (seqObj "list" (as.map Value.ref).toArray 0)).get? h1.objs.size=some (seqObj "list" (as.map Value.ref).toArray 0):=a0V _ rfl
 have lt1: ∀{b:Addr} {o:Obj},s.heap.get? b=some o->b≠h1.objs.size:=fun z=>a1J (a0T (keep _ _ z))
 refine a0C (a2P (a2H slot_list_sort ⟨_,eD,rfl⟩ a9J (c7v (s:={s with heap:=h1.push (seqObj "list" (as.map Value.ref).toArray 0),toks:=tk}) (k:=fun i=>a3f ltl ts (ts.getD i [])) eD (by rw[ln];exact few) nda (fun i j hi hj z=>inj i j (by lia) (by lia) z) (fun h' kp h2=>?_) fun p h' c ar up e kp=>⟨_,rfl,?_⟩) (args_list_sort _)))
 ·have I1:Inv X pins σ H {s with heap:=h',toks:=tk}:=I.kept fun b o z=>kp b o (lt1 z) (a0I _ (keep b o z))
  have z:=c7r (P:=X.prog) (w:=X.w) (A:=X.A.in1.in1) (s:={s with heap:=h',toks:=tk}) ln (by lia) (fun i v t e1 e2=>by
   rw[a0G]at e1;obtain⟨a,ea,rfl⟩:=a0O.mp e1;exact⟨tup_n I1.hok (at0.is i a t ea e2),ne t (a0E e2)⟩)
  refine a3I z (fun κ s' hk=>⟨hk.1,fun i j C li lj hC=>hk.2 i j C li lj ?_⟩) fun _ _ x=>x
  have e:=T.asks (a4a (d:=([]:Nsq)) (show i<ts.length by lia)).2 (a4a (d:=([]:Nsq)) (show j<ts.length by lia)).2
  show C (ltl (ts.getD i []) (ts.getD j [])) _
  rw[<-e]
  exact hC
 ·rw[ln]at ar up
  have I1:Inv X pins σ H {s with heap:=h',toks:=tk}:=I.kept fun b o z=>kp b o (lt1 z) (a0I _ (keep b o z))
  have I0:Inv X pins σ H {s with heap:=h1,toks:=tk}:=I.kept keep
  have hD:H h1.objs.size=none:=I0.hok.fresh (a0J _)
  have at1:=at0.pick ar
  obtain⟨f0,f1,f2,f3,f4,f5⟩:=I0.fpOk (b:=h1.objs.size) (H':=H) (a0J _) hD
  have arA:Arr as.length p:=by rw[at0.len];exact ar
  rw[a9n arA]at e
  have fw:((p.toList.map fun i=>as.getD i 0).map V.ref).length<=sizeLine:=by
   rw[a0D,a0D,a0K,ar.size];exact fit
  exact a0F ⟨_,rfl,.ref h1.objs.size,_,I1.track (o:= .lst ((p.toList.map fun i=>as.getD i 0).map V.ref)) hD ⟨fw,_,c,a4z _,e⟩ I0.sz f1 f4 f5,rfl,q _ _ _ hD at1 (b8b ar) (a7t T ar up)⟩
end
end L2
namespace L2
open PySem PySem.Spec PyProof.Rows
def NoAs(K:W.Frag)(C:Addr):Ss->Prop
 | []=>True
 |f::fs=>PySem.W.findIn K (.ref C) f=some none/\NoAs K C fs
structure OwnC(K:W.Frag)(C:Addr)(fs:Ss):Prop where
 cl:Cls K C
 na:NoAs K C fs
theorem NoAs.get{K:W.Frag}{C:Addr}{f:Str}: ∀{fs:Ss},NoAs K C fs->f∈fs->NoAttr K C f
 | [],_,h=>nomatch h
 | g::fs,n,h=>by
  rcases a1C.mp h with e|e
  ·subst e
   exact n.1
  ·exact NoAs.get n.2 e
theorem OwnC.no{K:W.Frag}{C:Addr}{fs:Ss}(o:OwnC K C fs){f:Str}(h:fs.contains f=true:=by rfl):NoAttr K C f:=o.na.get (a1F.mp h)
theorem NoAs.nil{K:W.Frag}{C:Addr}:NoAs K C []:=True.intro
theorem NoAs.cons{K:W.Frag}{C:Addr}{f:Str}{fs:Ss}(h:PySem.W.findIn K (.ref C) f=some none)(n:NoAs K C fs):NoAs K C (f::fs):=⟨h,n⟩
abbrev OwnM(K:W.Frag)(C:Addr)(m q:Str)(st:Stmt)(f:Addr)(fd:Fd):Prop:=PySem.W.findIn K (.ref C) m=some (some (.ref f))/\PySem.W.isFn K (.ref f)=true/\Fun K m q st f fd
def c4i(P:Pg)(w:World)(K:W.Frag)(mg:SV)(base:Heap)(C:Addr)(m:Str)(k:Nat)(ps:Ss)(sp:Sp):Prop:=
 ∃f fd,FnOk P w K mg base CX0 k f fd ps sp/\Meth K C m f/\Binds K fd ps []
def c4j(P:Pg)(w:World)(K:W.Frag)(mg:SV)(base:Heap)(x:Str)(C:Addr)(k:Nat)(ps:Ss)(sp:Sp):Prop:=
 ∃f fd,FnOk P w K mg base CX0 k f fd ps sp/\Mk K C f/\mg x=some (.ref C)/\Binds K fd ps []
theorem a6o{X:Cx}{o:Expr}{ta:TE}{C:Addr}{m:Str}{k:Nat}{ps:Ss}{sp:Sp}{apos pos:Pos}{pl:Sem Bool}(he:PE X o ta)(c:Cls X.K C)(hm:c4i X.prog X.w X.K X.mg X.base C m k ps sp)(hr:Room k X.A)
  (ht:eval (.Call (.Attribute o m apos) [] [] pos) X.env=(do
   let ov <-eval o X.env
   standAt apos.atName
   let(f,first) <-holding [ov] (getMethod ov m pl)
   callWith pos f first (backTo pos (starEach [] X.env)) (backToKw pos (keywordEach [] X.env))):=by rfl):
  PE X (.Call (.Attribute o m apos) [] [] pos) (d2v C m sp [] E0 ta b7j):=by
 obtain⟨f,fd,F,M,b⟩:=hm
 exact c6j he c M F hr b .nil c6o ht
theorem b2g{X:Cx}{x:Str}{e:Expr}{es:List Expr}{t:TA}{C:Addr}{k:Nat}{ps:Ss}{sp:Sp}{p pos:Pos}(c:c4j X.prog X.w X.K X.mg X.base x C k ps sp)(hr:Room (k+1) X.A)(hg:Gl X x)(ha:PA X (e::es) t)
  (hd:(x==("__debug__":Str))=false:=by decide) (hs:starEach (e::es) X.env=(false,eval e X.env)::starEach es X.env:=by rfl) (hp:(backTo pos (starEach es X.env)).any (·.1)=false:=by rfl):
  PE X (.Call (.Name x p) (e::es) [] pos) (d2w C sp [] E0 t):=by
 obtain⟨f,fd,F,M,m,b⟩:=c
 exact d0i M F hr hg m b .nil c6o ha hd hs hp
end L2
namespace My
open PySem L2 PyProof.Rows
def top(i:Nat):Stmt:=PySem.Challenge.pw_cascade_k50_parts_of_a_row.main.body.getD i (.Pass ⟨0,0,0,0⟩)
abbrev sWall:Stmt:=top 0
abbrev sLed:Stmt:=top 5
abbrev a5w:Stmt:=top 7
abbrev a2y:Stmt:=top 8
abbrev b2h:Stmt:=top 10
abbrev b2i:Stmt:=top 11
abbrev b2j:Stmt:=top 12
abbrev a8m:Stmt:=top 13
abbrev a0z:Stmt:=top 14
abbrev c4k:Stmt:=top 16
abbrev b2k:Stmt:=top 17
abbrev a9o:Stmt:=top 19
abbrev a7h:Stmt:=top 20
abbrev a5h:Stmt:=top 21
abbrev b4s:Stmt:=top 22
abbrev a4d:Stmt:=top 24
abbrev a5i:Stmt:=top 25
abbrev a4e:Stmt:=top 26
abbrev a8n:Stmt:=top 27
abbrev a1x:Stmt:=top 28
abbrev b2l:Stmt:=top 29
abbrev d1s:Stmt:=top 30
abbrev a4f:Stmt:=top 31
abbrev a3p:Stmt:=top 33
abbrev a3h:Stmt:=top 34
abbrev a1e:Stmt:=top 35
abbrev a7i:Stmt:=top 40
abbrev b2m:Stmt:=top 41
abbrev a4g:Stmt:=top 42
abbrev a9p:Stmt:=top 43
abbrev a6p:Stmt:=top 44
abbrev a8o:Stmt:=top 45
abbrev a9q:Stmt:=top 46
abbrev d2e:Stmt:=top 47
def b2n:Stmt->List Stmt
 | .ClassDef _ _ _ b _ _ _ _ _ _ _=>b
 |_=>[]
abbrev a2k:Stmt:=(b2n (top 37)).getD 0 (.Pass ⟨0,0,0,0⟩)
abbrev a1s:Stmt:=(b2n (top 37)).getD 1 (.Pass ⟨0,0,0,0⟩)
abbrev a8p:Stmt:=(b2n (top 38)).getD 0 (.Pass ⟨0,0,0,0⟩)
abbrev a9r:Stmt:=(b2n (top 38)).getD 1 (.Pass ⟨0,0,0,0⟩)
theorem scLed:FnScope ["machine","room","word","letter"] ["machine","room","word"] (a0e sLed):={}
theorem b4t:FnScope ["things","most"] ["things","most"] (a0e a5w):={}
theorem scReached:FnScope ["start","letters","step","most","words","wave","following","thing","letter","found"] ["start","letters","step","most"] (a0e a2y):={}
theorem c4l:FnScope ["rooms"] ["rooms"] (a0e b2h):={}
theorem scInOrder:FnScope ["sets","once","rooms"] ["sets"] (a0e b2i):={}
theorem c7z:FnScope ["one","other"] ["one","other"] (a0e b2j):={}
theorem c4m:FnScope ["machine","rooms","word"] ["machine","rooms","word"] (a0e a8m):={}
theorem b2o:FnScope ["machine","rooms"] ["machine","rooms"] (a0e a0z):={}
theorem d1t:FnScope ["rooms"] ["rooms"] (a0e c4k):={}
theorem c8a:FnScope ["one","other"] ["one","other"] (a0e b2k):={}
theorem scPictures:FnScope ["machine","words"] ["machine"] (a0e a9o):={}
theorem scFamily:FnScope ["machine","singles"] ["machine"] (a0e a7h):={}
theorem b6f:FnScope ["part","sets"] ["part","sets"] (a0e a5h):={}
theorem scTiles:FnScope ["machine","rooms","within"] ["machine","rooms"] (a0e b4s):={}
theorem scWordsBetween:FnScope ["machine","words","rooms"] ["machine"] (a0e a4d):={}
theorem b6g:FnScope ["words","rooms"] ["words","rooms"] (a0e a5i):={}
theorem scSetsOfLevels:FnScope ["words","found","rooms","sets"] ["words"] (a0e a4e):={}
theorem c4n:FnScope ["words","sets","waiting"] ["words","sets","waiting"] (a0e a8n):={}
theorem scLevelsInOrder:FnScope ["words","waiting","told","free"] ["words","waiting"] (a0e a1x):={}
theorem scLevels:FnScope ["machine","words","told","sets","face","ways"] ["machine"] (a0e b2l):={}
theorem d4l:FnScope ["machine","level","k","j"] ["machine","level","k","j"] (a0e d1s):={}
theorem b4u:FnScope ["machine","level","k"] ["machine","level","k"] (a0e a4f):={}
theorem scTilesTurned:FnScope ["machine","level","k","letter","there","ends"] ["machine","level","k","letter"] (a0e a3p):={}
theorem scAllTilesTurned:FnScope ["machine","level","found","k","letter","turn"] ["machine","level"] (a0e a3h):={}
theorem scLevelGroup:FnScope ["machine","level","makers"] ["machine","level"] (a0e a1e):={}
theorem b6h:FnScope ["_law_script","_law_k"] ["_law_script","_law_k"] (a0e a7i):={}
theorem scLawTurn:FnScope ["_law_cell","_law_rooms","_law_number","_law_turn_here","_law_k","_law_other","_law_kept"] ["_law_cell","_law_rooms"] (a0e b2m):={}
theorem scLawMachine:FnScope ["_law_script","_law_rooms","_law_many"] ["_law_script"] (a0e a4g):={}
theorem c0g:FnScope ["_law_found"] ["_law_found"] (a0e a9p):={}
theorem c0h:FnScope ["_law_found"] ["_law_found"] (a0e a6p):={}
theorem scLawPlan:FnScope ["_law_machine_here","_law_found","_law_level","_law_tiled","_law_k","_law_one"] ["_law_machine_here"] (a0e a8o):={}
theorem scLawParts:FnScope ["_law_plan_here","_law_found","_law_number","_law_step"] ["_law_plan_here"] (a0e a9q):={}
theorem scLaw:FnScope ["_law_script","_law_machine_here","_law_due","_law_row","_law_found","_law_part"] ["_law_script"] (a0e d2e):={}
theorem scLevelPartsInit:FnScope ["self","machine","level","k","rooms"] ["self","machine","level"] (a0e a2k):={}
theorem a5a:FnScope ["self"] ["self"] (a0e a1s):={}
theorem c4o:FnScope ["self","machine"] ["self","machine"] (a0e a8p):={}
theorem scRowParts:FnScope ["self","found","number","step"] ["self"] (a0e a9r):={}
def b8l(K:W.Frag):Sp:=fun vs H Q _=> ∃(a:Addr) (ns:Zs) (k:Int),vs=[.ref a,.int k]/\0<=k/\SqL K H a (ns.map V.int)/\ ∀c,Q (.int c) H
variable{P:Pg}{w:World}{K:W.Frag}{mg:SV}{base:Heap}{f:Addr}{fd:Fd}
theorem c0i(F:Fun K "_law_cell_at" "_law_cell_at" a7i f fd)(m_len:mg "len"=none):FnOk P w K mg base CX0 1 f fd ["_law_script","_law_k"] (b8l K):=by
 refine F.ok b6h (fun vs H Q E h=>?_) (fun cdv A outer s H vs Q E hr h=>?_)
 ·obtain⟨a,ns,k,rfl,_⟩:=h
  rfl
 obtain⟨a,ns,k,rfl,h0,hS,q⟩:=h
 refine⟨_,(a0g (a5n (a1r c6e (pv 1) (a0n a0l rfl m_len a4F (a0f (pv 0) a0i)) (a1u _)) (a0j (a0w (a1h a2f (pv 0) (pv 1) (fun _ _=>rfl)))) a2m) (a0j (a0w a0p))),?_⟩
 refine⟨_,rfl,_,rfl,a,_,rfl,.inl hS,_,_,rfl,rfl,_,rfl,?_⟩
 refine c6p (fun c=>?_) (fun c=>?_)
 ·have c':k<((ns.map V.int).length:Nat):=a2F c
  rw[a0D]at c'
  have hk:k.toNat<ns.length:=by lia
  have e:k=((k.toNat:Nat):Int):=by lia
  refine⟨_,rfl,_,rfl,a,_,_,.int (ns.getD k.toNat 0),rfl,rfl,hS,?_,q _⟩
  rw[e]
  exact d3k hk
 ·exact q _
structure Mach(H:Hp)(m:Addr)(ts:LN)(n:Nat):Prop where
 refs: ∃rs:As,H m=some (.tup (rs.map V.ref))/\rs.length=ts.length/\ ∀(i:Nat) r t,rs[i]? =some r->ts[i]? =some t->H r=some (.tup (t.map nv))
 some1:1<=ts.length
 few:ts.length<=4
 n1:1<=n
 n5:n<=5
 each: ∀t∈ts,t.length=n/\ ∀x∈t,x<n
theorem Mach.same{H H':Hp}{m:Addr}{ts:LN}{n:Nat}(M:Mach H m ts n)(g:Same H H'):Mach H' m ts n:=
 ⟨let⟨rs,h1,h2,h3⟩:=M.refs;⟨rs,g _ _ h1,h2,fun i r t e1 e2=>g _ _ (h3 i r t e1 e2)⟩,M.some1,M.few,M.n1,M.n5,M.each⟩
theorem Mach.at{H:Hp}{m:Addr}{ts:LN}{n:Nat}(M:Mach H m ts n){l:Nat}(hl:l<ts.length):
  ∃(rs:As) (r:Addr),H m=some (.tup (rs.map V.ref))/\rs.length=ts.length/\atI (rs.map V.ref) (l:Int)=some (.ref r)/\H r=some (.tup ((ts.getD l []).map nv))/\(ts.getD l []).length=n/\ ∀x∈ts.getD l [],x<n:=by
 obtain⟨rs,h1,h2,h3⟩:=M.refs
 have hr:l<rs.length:=by lia
 have e:ts.getD l []=ts[l]:=by rw[a0N,a0A hl];rfl
 rw[e]
 obtain⟨q1,q2⟩:=M.each ts[l] (a2O hl)
 exact⟨rs,rs[l],h1,h2,a3r (by rw[a0G,a0A hr];rfl),h3 l _ _ (by simp[hr]) (by simp[hl]),q1,q2⟩
def a4o(ts:LN)(r:Nat)(word:Nsq):Nat:=word.foldl (fun r l=>(ts.getD l []).getD r 0) r
theorem c4p(ts:LN)(r:Nat)(word:Nsq)(l:Nat):a4o ts r (word++[l])=(ts.getD l []).getD (a4o ts r word) 0:=by
 unfold a4o
 rw[a3W]
 rfl
theorem a4h{H:Hp}{m:Addr}{ts:LN}{n:Nat}(M:Mach H m ts n): ∀(word:Nsq) (r:Nat),r<n->(∀l∈word,l<ts.length)->a4o ts r word<n
 | [],_,hr,_=>hr
 |l::word,r,hr,h=>by
  obtain⟨_,_,_,_,_,_,h5,h6⟩:=M.at (h l (a0S ..))
  exact a4h M word _ (a9h h6 (by lia)) fun x hx=>h x (a0X _ hx)
def c0j(ts:LN)(n:Nat)(word:Nsq):Nsq:=(List.range n).map fun r=>a4o ts r word
theorem c4q(ts:LN)(n:Nat)(word:Nsq):(c0j ts n word).length=n:=by simp[c0j]
def c9m:Sp:=fun vs H Q _=> ∃(c:Int) (n:Nat),vs=[.int c,nv n]/\1<=n/\n<=5/\
 ∀(ys:Nsq) r H',Same H H'->H' r=some (.tup (ys.map nv))->ys.length=n->(∀y∈ys,y<n)->Q (.ref r) H'
def b4v(K:W.Frag):Sp:=fun vs H Q _=> ∃(a:Addr) (ns:Zs),vs=[.ref a]/\SqL K H a (ns.map V.int)/\ ∀m ts n H',Same H H'->Mach H' m ts n->Q (.ref m) H'
def b8m(H:Hp)(c:Int)(n:Nat)(σ:L2.St)(H':Hp):Prop:=Same H H'/\ ∃(l:Addr) (ys:Nsq) (num:Int) (o1 o2 o3:Option V),σ=[some (.int c),some (nv n),some (.int num),some (.ref l),o1,o2,o3]/\
 H' l=some (.lst (ys.map nv))/\H l=none/\ys.length=n/\ ∀y∈ys,y<n
theorem d1u(F:Fun K "_law_turn" "_law_turn" b2m f fd)(m_range:mg "range"=none)(m_tuple:mg "tuple"=none)(m_list:mg "list"=none):FnOk P w K mg base CX0 1 f fd ["_law_cell","_law_rooms"] c9m:=by
 refine F.ok scLawTurn (fun vs H Q E h=>?_) (fun cdv A outer s H vs Q E hr h=>?_)
 ·obtain⟨c,n,rfl,_⟩:=h
  rfl
 obtain⟨c,n,rfl,h1,h5,q⟩:=h
 refine⟨_,(a0g (a0u (i:=2) scLawTurn.nd rfl (Or.inl rfl) (a4n b5h (pv 0) a0p)) (a0g (a0u (i:=3) scLawTurn.nd rfl (Or.inl rfl) (a1j (b1o rfl) rfl m_list boot_list (a0f (a1j a9c rfl m_range boot_range (a0f (pv 1) a0i)) a0i))) (a0g (a2w a2E rfl (a2e rfl m_range (a0f (pv 1) a0i)) (a1a (i:=4) scLawTurn.nd rfl (Or.inl rfl)) (a0g (a0u (i:=5) scLawTurn.nd rfl (Or.inl rfl) (a4n a6b (pv 2) (pv 1))) (a0g (a0u (i:=2) scLawTurn.nd rfl (Or.inl rfl) (a4n b5h (pv 2) (pv 1))) (a0j (a5n (a1r c6e (a4n a6b (pv 0) a0p) a0p (a1u _)) (a0j (b7f (pv 5) (b7e (pv 3) (pv 4) a8d))) (a0j (a5n (a1r c6e (a4n a6b (pv 0) a0p) a0p (a1u _)) (a0g (a0u (i:=6) scLawTurn.nd rfl (Or.inl rfl) (a1h a2f (pv 3) (pv 4) (fun _ _=>rfl))) (a0g (b7f (a1h a2f (pv 3) (pv 5) (fun _ _=>rfl)) (b7e (pv 3) (pv 4) a8d)) (a0j (b7f (pv 6) (b7e (pv 3) (pv 5) a8d))))) (a0j (a5n (PW.pt (b7d (a1r d2s (a4n a6b (pv 0) a0p) a0p (a1u _)) (b1i (a1r c6e (pv 4) a0p (a1u _))))) (a0j (b7f (a4n a6b (pv 2) (pv 1)) (b7e (pv 3) (pv 5) a8d))) a2m))))))))) (a0g (c2h (a5n (a1r d2s (a4n a6b (pv 0) a0p) a0p (a1u _)) (a0j (a0u (i:=3) scLawTurn.nd rfl (Or.inl rfl) (a4n d3b (a2r (a0f (a4n a6b (a4n b5h (pv 0) a0p) (pv 1)) a0i)) (pv 1)))) a2m)) (a0j (a0w (a1j a2g rfl m_tuple a7K (a0f (pv 3) a0i)))))))),?_⟩
 have np:(0:Int)<(n:Int):=by lia
 refine⟨_,rfl,_,_,rfl,rfl,⟨by decide,by decide⟩,?_⟩
 refine⟨_,rfl,(n:Int),rfl,fun p1 hp1=>⟨p1,(n:Int),rfl,a0a,by lia,by lia,fun l hl=>?_⟩⟩
 have g1:=(a0d hp1 (.rng 0 (n:Int))).trans (a0d hl (.lst (a3t (n:Int).toNat)))
 have s1: ∀num,b8m H c n [some (.int c),some (nv n),some (.int num),some (.ref l),none,none,none] (upd (upd H p1 (.rng 0 (n:Int))) l (.lst (a3t (n:Int).toNat))):=
  fun num=>⟨g1,l,List.range n,num,none,none,none,rfl,by rw[a0a];rfl,(a0d hp1 _).free hl,by simp,fun y hy=>List.mem_range.mp hy⟩
 refine⟨_,rfl,(n:Int),rfl,by lia,by lia,a6a (fun i σ H'=>b8m H c n σ H') (s1 _) (fun i σ H' hi p=>?_) (fun σ H' p=>?_)⟩
 ·obtain⟨g,l,ys,num,o1,o2,o3,rfl,el,hl,hyl,hy⟩:=p
  have hi':i<n:=by lia
  have e0:(0+(i:Int))=((i:Nat):Int):=by lia
  obtain⟨m1,m2⟩:=c2i num h1
  obtain⟨m3,m4⟩:=c2i (num/ (n:Int)) h1
  refine⟨_,rfl,_,rfl,_,_,rfl,rfl,np,?_⟩
  try dsimp only
  rw[m1]
  generalize(num%(n:Int)).toNat=k at m2
  refine⟨_,rfl,_,rfl,_,_,rfl,rfl,⟨by lia,by lia⟩,?_⟩
  refine⟨_,rfl,_,_,rfl,rfl,(by decide:(0:Int)<6),_,_,rfl,rfl,_,rfl,c6p (fun c1=>?_) (fun c1=>?_)⟩
  ·refine⟨_,rfl,_,rfl,_,rfl,l,_,_,i,rfl,rfl,el,(by rw[e0,a0D];exact b1p (by lia)),?_⟩
   try dsimp only;rw[b7r];exact⟨a1b g hl,l,_,_,_,_,_,rfl,a0a,hl,by rw[a5B,hyl],b7s hy m2⟩
  refine⟨_,rfl,_,_,rfl,rfl,(by decide:(0:Int)<6),_,_,rfl,rfl,_,rfl,c6p (fun c2=>?_) (fun c2=>?_)⟩
  ·refine⟨_,rfl,_,rfl,l,_,_,_,rfl,rfl,SqL.of el,(by rw[e0];exact c6w (by lia)),?_⟩
   refine⟨_,rfl,_,rfl,l,_,_,_,rfl,rfl,SqL.of el,c6w (by lia),_,rfl,_,rfl,l,_,_,i,rfl,rfl,el,(by rw[e0,a0D];exact b1p (by lia)),?_⟩;try dsimp only;rw[b7r];refine⟨_,rfl,_,rfl,_,rfl,l,_,_,k,rfl,rfl,a0a,(by rw[a0D,a5B];exact b1p (by lia)),?_⟩;try dsimp only;rw[b7r,c9u];exact⟨a1b g hl,l,_,_,_,_,_,rfl,a0a,hl,by rw[a5B,a5B,hyl],b7s (b7s hy (a9h hy (by lia))) (a9h hy (by lia))⟩
  have stay: ∀o1 o2 o3,b8m H c n [some (.int c),some (nv n),some (.int (num/ (n:Int))),some (.ref l),o1,o2,o3] H':=fun o1 o2 o3=>⟨g,l,ys,_,o1,o2,o3,rfl,el,hl,hyl,hy⟩
  refine⟨_,rfl,_,_,rfl,rfl,(by decide:(0:Int)<6),rfl,_,rfl,c6p (fun c3=>?_) (fun c3=>b0d (stay _ _ _))⟩
  refine⟨_,rfl,_,_,rfl,rfl,_,rfl,c6p (fun c4=>?_) (fun c4=>stay _ _ _)⟩
  refine⟨_,rfl,_,rfl,_,_,rfl,rfl,np,?_⟩
  try dsimp only
  rw[m3]
  refine⟨_,rfl,_,rfl,l,_,_,k,rfl,rfl,el,(by rw[a0D];exact b1p (by lia)),?_⟩
  try dsimp only
  rw[b7r]
  exact⟨a1b g hl,l,_,_,_,_,_,rfl,a0a,hl,by rw[a5B,hyl],b7s hy m4⟩
 ·obtain⟨g,l,ys,num,o1,o2,o3,rfl,el,hl,hyl,hy⟩:=p
  refine⟨b8m H c n,?_,fun σ4 H4 p4=>?_⟩
  ·refine⟨_,rfl,_,_,rfl,rfl,(by decide:(0:Int)<6),rfl,_,rfl,c6p (fun c5=>?_) (fun c5=>⟨g,l,ys,num,o1,o2,o3,rfl,el,hl,hyl,hy⟩)⟩
   obtain⟨m1,m2⟩:=c2i (c/6) h1;refine⟨_,rfl,_,_,rfl,rfl,⟨by decide,by decide⟩,_,rfl,_,_,rfl,rfl,np,by show 1<=sizeLine;decide,fun l2 hl2=>?_⟩;have e1:(n:Int).toNat=n:=a1W n;refine⟨_,rfl,l2,_,_,rfl,rfl,a0a,by lia,by lia,by rw[e1,a1B];show 1 * n<=_;lia,fun l3 hl3=>?_⟩;have e2:(List.replicate (n:Int).toNat [V.int (c/6%(n:Int))]).flatten=(List.replicate n (c/6%(n:Int)).toNat).map nv:=by
    rw[e1,m1,List.map_replicate]
    induction n with
    |zero=>rfl
    |succ n _=>simp[List.replicate_succ]
   refine⟨g.trans ((a0d hl2 _).trans (a0d hl3 _)),l3,List.replicate n (c/6%(n:Int)).toNat,num,_,_,_,rfl,?_,?_,by simp,fun y hy=>?_⟩
   ·rw[a0a]
    exact a1Z (fun z=>some (HO.lst z)) e2
   ·exact(g.trans (a0d hl2 _)).free hl3
   ·rw[List.eq_of_mem_replicate hy]
    exact m2
  ·obtain⟨g4,l4,ys4,num,o1,o2,o3,rfl,el4,hl4,hyl4,hy4⟩:=p4
   exact⟨_,rfl,l4,_,rfl,.inl ⟨SqL.of el4,fun t ht=>q ys4 t _ (g4.trans (a0d ht _)) a0a hyl4 hy4⟩⟩
theorem c0k(F:Fun K "_law_machine" "_law_machine" a4g f fd)(c__law_cell_at:a0q P w K mg base "_law_cell_at" 1 ["_law_script","_law_k"] (b8l K))(c__law_turn:a0q P w K mg base "_law_turn" 1 ["_law_cell","_law_rooms"] c9m)
  (m_range:mg "range"=none) (m_tuple:mg "tuple"=none):FnOk P w K mg base CX0 3 f fd ["_law_script"] (b4v K):=by
 refine F.ok scLawMachine (fun vs H Q E h=>?_) (fun cdv A outer s H vs Q E hr h=>?_)
 ·obtain⟨a,ns,rfl,_⟩:=h
  rfl
 obtain⟨a,ns,rfl,hS,q⟩:=h
 refine⟨_,(a0g (a0u (i:=1) scLawMachine.nd rfl (Or.inr rfl) (a4n c1e a0p (a4n a6b (a0k c__law_cell_at hr.m rfl (a0y (a0b (pv 0) (a0b a0p a0r rfl) rfl))) a0p))) (a0g (a0u (i:=2) scLawMachine.nd rfl (Or.inl rfl) (a4n c1e a0p (a4n a6b (a0k c__law_cell_at hr.m rfl (a0y (a0b (pv 0) (a0b a0p a0r rfl) rfl))) a0p))) (a0j (a0w (a1j a2g rfl m_tuple a7K (a0f (a1d (CompSc.to (N:=["_law_script","_law_rooms","_law_many"]) (osc:=a0e a4g) (vs:=["_law_k"]) {}) rfl rfl (a2e rfl m_range (a0f (pv 2) a0i)) (fun _ _ _ _=>a2h) (fun _ _ _ _=>(a0k c__law_turn hr.m rfl (a0y (a0b (a0k c__law_cell_at hr.m rfl (a0y (a0b (pv 1) (a0b (a4n c1e a0p (pv 0)) a0r rfl) rfl))) (a0b (pv 2) a0r rfl) rfl))))) a0i)))))),?_⟩
 refine⟨_,rfl,a,ns,0,rfl,Int.le_refl 0,hS,fun c=>⟨_,_,rfl,rfl,(by decide:(0:Int)<5),_,_,rfl,rfl,?_⟩⟩
 obtain⟨n,en,n1,n5⟩: ∃n:Nat,(1+c%5:Int)=(n:Int)/\1<=n/\n<=5:=⟨(1+c%5).toNat,by lia,by lia,by lia⟩
 try dsimp only
 rw[en]
 refine⟨_,rfl,a,ns,1,rfl,by decide,hS,fun c'=>⟨_,_,rfl,rfl,(by decide:(0:Int)<4),_,_,rfl,rfl,?_⟩⟩
 obtain⟨k,ek,k1,k4⟩: ∃n:Nat,(1+c'%4:Int)=(n:Int)/\1<=n/\n<=4:=⟨(1+c'%4).toNat,by lia,by lia,by lia⟩
 try dsimp only
 rw[ek]
 refine⟨_,rfl,(k:Int),rfl,by lia,by lia,a3s (fun i zs H'=>Same H H'/\ ∃(rs:As) (ts:LN),zs=rs.map V.ref/\rs.length=i/\ts.length=i/\(∀(j:Nat) r t,rs[j]? =some r->ts[j]? =some t->H' r=some (.tup (t.map nv)))/\ ∀t∈ts,t.length=n/\ ∀x∈t,x<n)
  (small (by lia)) ⟨Same.refl _,[],[],rfl,rfl,rfl,(fun j r t e=>absurd e (by simp)),(fun t ht=>absurd ht (by simp))⟩ (fun i zs H' _ p=>?_) (fun i zs H' hi p=>?_) (fun zs H' p l hl=>?_)⟩
 ·obtain⟨_,rs,ts,rfl,e,_⟩:=p
  rw[a0D]
  lia
 ·obtain⟨g,rs,ts,rfl,hrl,htl,hrt,ht⟩:=p
  refine⟨a1c,a4k ?_⟩
  refine⟨_,rfl,_,rfl,_,_,rfl,rfl,a,ns,_,rfl,by lia,g.seq hS,fun c=>⟨_,rfl,c,n,rfl,n1,n5,fun ys r H2 g2 e2 hyl hy=>?_⟩⟩
  refine⟨g.trans g2,rs++[r],ts++[ys],by simp,by simp[hrl],by simp[htl],fun j r' t' e3 e4=>?_,fun t ht'=>?_⟩
  ·by_cases hj:j<i
   ·rw[a0R (by lia)]at e3 e4
    exact g2 _ _ (hrt j r' t' e3 e4)
   ·have hj':j=i:=by
     have:=(a0B.mp e3).1
     rw[a0M,hrl]at this;have:j<i+1:=this
     lia
    subst hj';rw[a0P (by lia),hrl,a6C]at e3;rw[a0P (by lia),htl,a6C]at e4;cases e3;cases e4;exact e2
  ·rcases a0L.mp ht' with z|z
   ·exact ht t z
   ·have e:t=ys:=by simpa using z
    rw[e];exact⟨hyl,hy⟩
 ·obtain⟨g,rs,ts,rfl,hrl,htl,hrt,ht⟩:=p
  have g1:=a0d hl (.lst (rs.map V.ref))
  refine⟨l,_,rfl,.inl ⟨SqL.of a0a,fun m hm=>?_⟩⟩
  have g2:=g1.trans (a0d hm (.tup (rs.map V.ref)))
  have hk:(k:Int).toNat=k:=a1W k
  exact q m ts n _ (g.trans g2) ⟨⟨rs,a0a,by lia,fun i r t e1 e2=>g2 _ _ (hrt i r t e1 e2)⟩,by lia,by lia,n1,n5,ht⟩
def d4m(K:W.Frag):Sp:=fun vs H Q _=> ∃(m b:Addr) (ts:LN) (n r:Nat) (word:Nsq),vs=[.ref m,nv r,.ref b]/\Mach H m ts n/\r<n/\SqL K H b (word.map nv)/\(∀l∈word,l<ts.length)/\Q (nv (a4o ts r word)) H
theorem d4n(F:Fun K "led" "led" sLed f fd):FnOk P w K mg base CX0 1 f fd ["machine","room","word"] (d4m K):=by
 refine F.ok scLed (fun vs H Q E h=>?_) (fun cdv A outer s H vs Q E hr h=>?_)
 ·obtain⟨m,b,ts,n,r,word,rfl,_⟩:=h
  rfl
 obtain⟨m,b,ts,n,r,word,rfl,M,hr',hS,hw,q⟩:=h
 refine⟨_,(a0g (a2w a2E rfl (a1i (pv 2)) (a1a (i:=3) scLed.nd rfl (Or.inl rfl)) (a0j (a0u (i:=1) scLed.nd rfl (Or.inl rfl) (a1h a1k (a1h a1k (pv 0) (pv 3) (fun _ _=>rfl)) (pv 1) (fun _ _=>rfl))))) (a0j (a0w (pv 1)))),?_⟩
 refine⟨_,rfl,b,rfl,⟨_,hS⟩,a3z (xs:=word.map nv) (fun i σ H'=>H'=H/\ ∃o,σ=[some (.ref m),some (nv (a4o ts r (word.take i))),some (.ref b),o]) ⟨rfl,none,rfl⟩ (fun i σ H' _ p=>by obtain⟨rfl,_⟩:=p;exact hS) (fun i x σ H' hx p=>?_) (fun σ H' p=>?_)⟩
 ·obtain⟨rfl,o,rfl⟩:=p
  rw[a0G]at hx
  cases e:word[i]? with
  |none=>rw[e]at hx;cases hx
  | some l=>
   rw[e]at hx;cases hx;obtain⟨rs,rr,h1,h2,h3,h4,h5,h6⟩:=M.at (hw l (a0E e));refine⟨_,rfl,_,rfl,m,_,_,_,rfl,rfl,SqT.of h1,h3,_,rfl,rr,_,_,_,rfl,rfl,SqT.of h4,c6w ?_,rfl,some (nv l),?_⟩
   ·rw[h5]
    exact a4h M _ _ hr' fun x hx=>hw x (a4K hx)
   ·rw[a1V,e]
    show _=[some (.ref m),some (nv (a4o ts r (word.take i++[l]))),some (.ref b),some (nv l)]
    rw[c4p];rfl
 ·obtain⟨rfl,o,rfl⟩:=p
  refine⟨_,rfl,?_⟩
  rw[a0D,a1Q]
  exact q
def a7v(ts:LN)(rooms word:Nsq):Nsq:=rooms.map fun r=>a4o ts r word
theorem c0l{n:Nat}{xs:Nsq}(n5:n<=5)(h: ∀x∈xs,x<n):a1w xs=(List.range n).filter fun i=>xs.contains i:=by
 unfold a1w
 have e:List.range 5=List.range n++(List.range (5-n)).map (n+ ·):=by rw[<-List.range_add];congr 1;lia
 rw[e,a4T]
 have no:((List.range (5-n)).map (n+ ·)).filter (fun i=>xs.contains i)=[]:=by
  rw[List.filter_eq_nil_iff]
  intro y hy z
  obtain⟨k,_,rfl⟩:=a0Q.mp hy
  have:=h _ (a1F.mp z)
  lia
 rw[no,a2K]
theorem a8q{xs:Nsq}{x:Nat}(h:x∈a1w xs):x∈xs:=a1F.mp (a1O.mp h).2
theorem b8n{xs:Nsq}{x:Nat}(h:x∈xs)(h5:x<5):x∈a1w xs:=a1O.mpr ⟨a2J.mpr h5,a1F.mpr h⟩
theorem c8b(xs:Nsq):(a1w xs).length<=5:=a0Y (a1K _ _) (by simp)
theorem in_nv(i:Nat)(xs:Nsq):inV (nv i) (xs.map nv)=xs.contains i:=by
 unfold inV
 rw[a9K]
 induction xs with
 |nil=>rfl
 | cons x xs ih=>
  rw[a6Q,List.contains_cons,ih]
  congr 1
  show eqV (.int (x:Int)) (.int (i:Int))=(i==x)
  by_cases h:x=i
  ·subst h
   show((x:Int)==(x:Int))=(x==x)
   simp
  ·have h2: ¬(x:Int)=(i:Int):=by lia
   have h3: ¬i=x:=by lia
   show((x:Int)==(i:Int))=(i==x)
   rw[a3C.mpr h2,a3C.mpr h3]
theorem d1v(xs:Nsq):(xs.map nv).all a4p=true:=by
 rw[List.all_map,a5O]
 intro x _
 rfl
def a5b(K:W.Frag):Sp:=fun vs H Q _=> ∃(m p b:Addr) (ts:LN) (n:Nat) (rooms word:Nsq),vs=[.ref m,.ref p,.ref b]/\Mach H m ts n/\SqT K H p (rooms.map nv)/\rooms.length<=5/\(∀r∈rooms,r<n)/\SqL K H b (word.map nv)/\(∀l∈word,l<ts.length)/\
 d3j H ((a1w (a7v ts rooms word)).map nv) Q
theorem c0m(F:Fun K "carried" "carried" a8m f fd)(c_led:a0q P w K mg base "led" 1 ["machine","room","word"] (d4m K))(m_tuple:mg "tuple"=none)(m_sorted:mg "sorted"=none)(m_set:mg "set"=none):FnOk P w K mg base CX0 3 f fd ["machine","rooms","word"] (a5b K):=by
 refine F.ok c4m (fun vs H Q E h=>?_) (fun cdv A outer s H vs Q E hr h=>?_)
 ·obtain⟨m,p,b,ts,n,rooms,word,rfl,_⟩:=h
  rfl
 obtain⟨m,p,b,ts,n,rooms,word,rfl,M,hR,hl5,hr',hS,hw,q⟩:=h
 refine⟨_,(a0j (a0w (a1j a2g rfl m_tuple a7K (a0f (a0n (b9x rfl) rfl m_sorted boot_sorted (a0f (a1j (c2x rfl) rfl m_set PyProof.Rows.boot_set (a0f (a1d (CompSc.to (N:=["machine","rooms","word"]) (osc:=a0e a8m) (vs:=["room"]) {}) rfl rfl (b7h (pv 1)) (fun _ _ _ _=>a2h) (fun _ _ _ _=>(a0k c_led hr.m rfl (a0y (a0b (pv 1) (a0b (pv 0) (a0b (pv 3) a0r rfl) rfl) rfl))))) a0i)) a0i)) a0i)))),?_⟩
 have n5:=M.n5
 refine⟨_,rfl,p,rfl,⟨_,hR⟩,b5o (f:=fun v=>match v with| .int i=>nv (a4o ts i.toNat word)|v=>v) (by rw[a0D];exact small (by lia)) hR (fun v Q hv q=>?_) (fun l hl=>?_)⟩
 ·obtain⟨r,h1,rfl⟩:=a0Q.mp hv
  exact⟨_,rfl,_,rfl,_,rfl,m,b,ts,n,r,word,rfl,M,hr' r h1,hS,hw,q⟩
 ·have e:(rooms.map nv).map (fun v=>match v with| .int i=>nv (a4o ts i.toNat word)|v=>v)=(a7v ts rooms word).map nv:=by
   unfold a7v;rw[a3O,a3O];rfl
  try dsimp only
  rw[e]
  have g1:=a0d hl (.lst ((a7v ts rooms word).map nv))
  refine⟨l,_,rfl,SqL.of a0a,fun x hx=>?_,fun a ha=>⟨a,_,rfl,a0a,fun o ho=>?_⟩⟩
  ·obtain⟨r,h1,rfl⟩:=a0Q.mp hx
   have:=a4h M word r (hr' r h1) hw
   lia
  ·try dsimp only
   rw[b4e];exact⟨o,_,rfl,.inl ⟨SqL.of a0a,fun t ht=>q t _ (g1.trans ((a0d ha _).trans ((a0d ho _).trans (a0d ht _)))) a0a⟩⟩
def a5c(P:Pg)(w:World)(K:W.Frag)(mg:SV)(base:Heap):Sp:=fun vs H Q _=> ∃(a st:Addr) (fd:Fd) (ps:Ss) (x0:Nsq) (L:Nat) (U:LN) (g:Nsq->Nat->List Nat),
 vs=[.ref a,nv L,.ref st,.non]/\H a=some (.tup (x0.map nv))/\H st=some (b1q st fd)/\x0∈U/\(∀x∈U,∀l,l<L->g x l∈U)/\U.length<=4000/\L<=4000/\FnOk P w K mg base CX0 5 st fd ps (a7r (Same H) U L g)/\Binds K fd ps []/\
 ∀D ws as H',Same H H'->WordsAt H' D ws as->(∀b∈D::as,H b=none)->Told g L x0 ws->Q (.ref D) H'
theorem b0f(F:Fun K "refuse_more" "refuse_more" a5w f fd)(m_len:mg "len"=none):FnOk P w K mg base CX0 1 f fd ["things","most"] a8h:=by
 refine F.ok b4t (fun vs H Q E h=>?_) (fun cdv A outer s H vs Q E hr h=>?_)
 ·obtain⟨d,rfl,_⟩:=h
  rfl
 obtain⟨d,rfl,q⟩:=h
 refine⟨_,(a0j (a5n (PW.pt (b7d (a1r c1f (pv 1) b7a (a1u _)) (b1i (a1r c6f (a0n c2j rfl m_len a4F (a0f (pv 0) a0i)) (pv 1) (a1u _))))) (a0j c6a) a2m)),?_⟩
 exact⟨_,rfl,rfl,_,rfl,q⟩
theorem c0n{fdv cv:Vl}(F:DefAt K "reached" a2y f fd fdv cv)(c_refuse_more:a0q P w K mg base "refuse_more" 1 ["things","most"] a8h)(m_range:mg "range"=none):FnOk P w K mg base CX0 8 f fd ["start","letters","step","most"] (a5c P w K mg base):=by
 refine F.fnOk scReached (fun vs H Q E h=>?_) (fun A outer s H vs Q E h hr=>?_)
 ·obtain⟨a,st,fd,ps,x0,L,U,g,rfl,_⟩:=h
  rfl
 obtain⟨a,st,sd,ps,x0,L,U,g,rfl,ha,hst,h0,hU,few,fewL,hF,hB,q⟩:=h
 have hu1:=a7w hr
 exact⟨_,c0a hr.m ha hst h0 hU few fewL hF hB q,(a0g (a0u (i:=4) scReached.nd rfl (Or.inl rfl) (c7q hu1 (pv 0) (a2r a0i))) (a0g (a2n (a0k c_refuse_more hr.m rfl (a0y (a0b (pv 4) (a0b (pv 3) a0r rfl) rfl)))) (a0g (a0u (i:=5) scReached.nd rfl (Or.inl rfl) (a2r (a0f (pv 0) a0i))) (a0g (b7g a2E (b7i (pv 5) (fun _=>rfl)) (a0g (a0u (i:=6) scReached.nd rfl (Or.inl rfl) (a2r a0i)) (a0g (a2w a2E rfl (a1i (pv 5)) (a1a (i:=7) scReached.nd rfl (Or.inl rfl)) (a0j (a2w a2E rfl (a2e rfl m_range (a0f (pv 1) a0i)) (a1a (i:=8) scReached.nd rfl (Or.inl rfl)) (a0g (a0u (i:=9) scReached.nd rfl (Or.inl rfl) (c7i 2 (pv 2) (a0y (a0b (pv 7) (a0b (pv 8) a0r rfl) rfl)))) (a0j (a5n (c1b (c2a hu1 (pv 9) (pv 4))) (a0g (a6z hu1 (pv 4) (pv 9) (a4n c2k (a6y hu1 (pv 4) (pv 7) (fun _ _=>rfl)) (a2r (a0f (pv 8) a0i))) rfl) (a0g (a2n (a0k c_refuse_more hr.m rfl (a0y (a0b (pv 4) (a0b (pv 3) a0r rfl) rfl)))) (a0j (a2n (a6x a1T a2B a2C a1l (pv 6) (a0f (pv 9) a0i)))))) a2m)))))) (a0j (a0u (i:=5) scReached.nd rfl (Or.inl rfl) (pv 6)))))) (a0j (a0w (pv 4)))))))⟩
def tabsL:List (Str×Pos×Addr):=[("sets_reached.<locals>.<lambda>",(⟨49,40,49,93⟩:Pos),101),("level_group.<locals>.<lambda>",(⟨121,61,121,110⟩:Pos),200)]
theorem d1w:(tabsL.map (·.2.2)).Nodup:=by decide
def Tabs(H:Hp):Prop:= ∀q∈tabsL,TabOk q.1 q.2.1 H q.2.2
theorem _root_.L2.TabOk.most{qual:Str}{pos:Pos}{H H':Hp}{T:Addr}(t:TabOk qual pos H T)(g: ∀b u,(∀kvs,u≠HO.dT kvs)->(∀xs,u≠HO.lst xs)->H b=some u->H' b=some u):TabOk qual pos H' T:=by
 rcases t with t|⟨cc,t1,t2⟩
 ·exact .inl (g _ _ (fun _ e=>nomatch e) (fun _ e=>nomatch e) t)
 ·exact .inr ⟨cc,g _ _ (fun _ e=>nomatch e) (fun _ e=>nomatch e) t1,g _ _ (fun _ e=>nomatch e) (fun _ e=>nomatch e) t2⟩
theorem Tabs.same{H H':Hp}(t:Tabs H)(g:Same H H'):Tabs H':=fun q hq=>(t q hq).same g
theorem Tabs.most{H H':Hp}(t:Tabs H)(g: ∀b u,(∀kvs,u≠HO.dT kvs)->(∀xs,u≠HO.lst xs)->H b=some u->H' b=some u):Tabs H':=fun q hq=>(t q hq).most g
def KeepsBut(T:Addr)(H H':Hp):Prop:= ∀b o,b≠T->H b=some o->H' b=some o
theorem KeepsBut.keeps{T:Addr}{H H':Hp}{ps:AV}(g:KeepsBut T H H')(hT:H T=some (.tbl ps)):Keeps H H':=fun b o hb=>by
 obtain⟨z,nt⟩:=b0u hb
 exact g b o (a5k z hT fun e=>nt _ e) z
theorem b8o: ∀{l:List (Str×Pos×Addr)} {p q:Str×Pos×Addr},(l.map (·.2.2)).Nodup->p∈l->q∈l->p.2.2=q.2.2->p=q
 | [],_,_,_,hp,_,_=>nomatch hp
 | r::l,p,q,nd,hp,hq,e=>by
  obtain⟨n1,n2⟩:=a2X.mp nd
  rcases a1C.mp hp with ep|hp
  ·rcases a1C.mp hq with eq|hq
   ·rw[ep,eq]
   ·exact absurd (a0Q.mpr ⟨q,hq,by rw[<-ep];exact e.symm⟩) n1
  ·rcases a1C.mp hq with eq|hq
   ·exact absurd (a0Q.mpr ⟨p,hp,by rw[<-eq];exact e⟩) n1
   ·exact b8o n2 hp hq e
theorem Tabs.but{qual:Str}{pos:Pos}{T:Addr}{H H':Hp}{ps:AV}(hq:(qual,pos,T)∈tabsL)(t:Tabs H)(hT:H T=some (.tbl ps))(g:KeepsBut T H H')(h1:TabOk qual pos H' T):Tabs H':=fun q' hq'=>by
 by_cases e:q'.2.2=T
 ·have:=b8o d1w hq' hq e
  subst this
  exact h1
 ·rcases t q' hq' with t|⟨cc,t1,t2⟩
  ·exact .inl (g _ _ e t)
  ·exact .inr ⟨cc,g _ _ e t1,g _ _ (nE t2 hT) t2⟩
theorem d4o{H:Hp}{T fl cc:Addr}(pos:Pos)(qual:Str)(hT:H T=some (.tbl #[]))(hfl:H fl=none)(hcc:H cc=none)(ne:fl≠cc)(lo:HO):KeepsBut T H (upd (upd (upd H T (.tbl (a3e pos cc))) cc (a5u cc qual)) fl lo)/\
  (upd (upd (upd H T (.tbl (a3e pos cc))) cc (a5u cc qual)) fl lo) T=some (.tbl (a3e pos cc))/\(upd (upd (upd H T (.tbl (a3e pos cc))) cc (a5u cc qual)) fl lo) cc=some (a5u cc qual):=by
 refine⟨fun b o nb z=>?_,?_,?_⟩
 ·rw[a0c (a0h z hfl),a0c (a0h z hcc),a0c nb]
  exact z
 ·rw[a0c (a0h hT hfl),a0c (a0h hT hcc),a0a]
 ·rw[a0c (a3K ne),a0a]
def a0m(ts:LN)(x:Nsq)(l:Nat):Nsq:=a1w (a7v ts x [l])
def a1f(n:Nat):LN:=((List.range 32).map a0x).filter fun x=>x.all fun r=>decide (r<n)
def a4i(T:Addr)(pos:Pos):Sp:=fun vs H Q _=> ∃(m p:Addr) (ts:LN) (n:Nat) (rooms:Nsq),vs=[.ref m,.ref p]/\Mach H m ts n/\H p=some (.tup (rooms.map nv))/\rooms∈a1f n/\Tabs H/\
 ∀D ws as H',Keeps H H'->Tabs H'->WordsAt H' D ws as->(∀b∈D::as,noT H b=none)->Told (a0m ts) ts.length rooms ws->Q (.ref D) H'
theorem mem_setsU{n:Nat}{x:Nsq}:x∈a1f n↔a1w x=x/\ ∀r∈x,r<n:=by
 unfold a1f
 rw[a1O,a0Q,a5O]
 constructor
 ·rintro⟨⟨k,hk,rfl⟩,h⟩
  refine⟨?_,fun r hr=>a2F (h r hr)⟩
  have z: ∀k:Fin 32,a1w (a0x k)=a0x k:=by decide+kernel
  exact z ⟨k,a2J.mp hk⟩
 ·rintro⟨h1,h2⟩
  refine⟨⟨a9j 0 (a1w x),a2J.mpr ?_,by rw[b4e,h1];exact h1⟩,fun r hr=>a1E (h2 r hr)⟩
  have z: ∀(ns:Nsq) (k:Nat),(∀n∈ns,n<5)->k<32->a9j k ns<32:=by
   intro ns
   induction ns with
   |nil=>intro k _ hk;exact hk
   |cons n ns ih=>intro k h hk;exact ih _ (fun y hy=>h y (a0X _ hy)) (c2o ⟨k,hk⟩ ⟨n,h n (a0S ..)⟩)
  exact z _ 0 (fun n hn=>a2J.mp (a1O.mp hn).1) (by decide)
theorem b4w(xs:Nsq):a1w (a1w xs)=a1w xs:=by
 unfold a1w
 refine a6G fun i hi=>?_
 rw[a3P,a1F,a1F,a1O,a1F]
 exact⟨fun h=>h.2,fun h=>⟨hi,h⟩⟩
theorem Mach.noT{H:Hp}{m:Addr}{ts:LN}{n:Nat}(M:Mach H m ts n):Mach (L2.noT H) m ts n:=
 ⟨let⟨rs,h1,h2,h3⟩:=M.refs;⟨rs,nU h1,h2,fun i r t e1 e2=>nU (h3 i r t e1 e2)⟩,M.some1,M.few,M.n1,M.n5,M.each⟩
theorem Mach.keeps{H H':Hp}{m:Addr}{ts:LN}{n:Nat}(M:Mach H m ts n)(g:Keeps H H'):Mach H' m ts n:=M.noT.same g
theorem Mach.drop{H:Hp}{m c:Addr}{ts:LN}{n:Nat}{φ:Heap->Prop}(M:Mach H m ts n)(hc:H c=some (.ext φ)):Mach (L2.drop H c) m ts n:=by
 obtain⟨rs,h1,h2,h3⟩:=M.refs
 refine⟨⟨rs,?_,h2,fun i r t e1 e2=>?_⟩,M.some1,M.few,M.n1,M.n5,M.each⟩
 ·rw[a0o (nE h1 hc)]
  exact h1
 ·have z:=h3 i r t e1 e2
  rw[a0o (nE z hc)]
  exact z
theorem b8p{fl c m cc:Addr}{oc:Obj}{ts:LN}{n:Nat}{Hc:Hp}{pm ct:Vl}{params:Arguments}{body:Expr}{scope:Scope}{fx a1 a2:Expr}{kw:List Keyword}{lp cp rp:Pos}(e:a1m a0z=[.Return (some (.Call fx [a1,a2,.Lambda params body scope lp] kw cp)) rp])
  (c_carried:a0q P w K mg base "carried" 3 ["machine","rooms","word"] (a5b K)) (M:Mach Hc m ts n) (h1:Hc fl=some (b1q fl (a3j "sets_reached.<locals>.<lambda>" params body scope "machine" c pm (.ref cc) ct))) (h2:Hc c=some (a3d c m oc)) (h3:Hc cc=some (a5u cc "sets_reached.<locals>.<lambda>")):
  FnOk P w K mg base CX0 5 fl (a3j "sets_reached.<locals>.<lambda>" params body scope "machine" c pm (.ref cc) ct) ["here","letter"] (a7r (Same Hc) (a1f n) ts.length (a0m ts))/\Binds K (a3j "sets_reached.<locals>.<lambda>" params body scope "machine" c pm (.ref cc) ct) ["here","letter"] []:=by
 cases e
 refine⟨c9c (k:=4) (m:=m) (oc:=oc) ⟨rfl,rfl,rfl,by decide+kernel,by decide+kernel,rfl,by decide+kernel⟩ (fun vs H Q E h=>?_) (fun vs H Q E h=>?_) (fun A outer s H vs Q E hr h=>?_),.all fun us hl=>match us,hl with| [_,_],_=>rfl⟩
 ·obtain⟨t,x,l,rfl,_⟩:=h
  rfl
 ·obtain⟨t,x,l,rfl,g,_⟩:=h
  exact⟨g _ _ h1,g _ _ h2,g _ _ h3⟩
 ·obtain⟨t,x,l,rfl,g,ht,hx,hl,q⟩:=h
  refine⟨_,(a0k c_carried hr.m rfl (a0y (a0b (pv 2) (a0b (pv 0) (a0b (a2r (a0f (pv 1) a0i)) a0r rfl) rfl) rfl))),?_⟩
  obtain⟨x1,x2⟩:=mem_setsU.mp hx
  have hc:=g _ _ h2
  refine⟨_,rfl,_,rfl,_,rfl,by show 1<=sizeLine;decide,fun b hb=>?_⟩
  have kb:=a0d hb (.lst [nv l])
  have M1:=((M.same g).drop hc).same kb
  have ht1:(upd (L2.drop H c) b (.lst [nv l])) t=some (.tup (x.map nv)):=kb _ _ (by rw[a0o (nE ht hc)];exact ht)
  refine⟨m,t,b,ts,n,x,[l],rfl,M1,SqT.of ht1,by rw[<-x1];exact c8b x,x2,SqL.of a0a,fun z hz=>by rw[a0H.mp hz];exact hl,fun r H3 g3 e3 free=>q r _ (fun y o ho=>?_) ?_⟩
  ·by_cases hy:y=c
   ·subst hy
    rw[hc]at ho;cases ho;exact a0a
   ·rw[a0c hy]
    exact g3 _ _ (kb _ _ (by rw[a0o hy];exact ho))
  ·rw[a0c (a0h e3 free)]
   exact e3
theorem a9s{cd T:Addr}(F:DefAt K "sets_reached" a0z f fd .none (.ref cd))(hC:PySem.W.CodeHd base cd T)(bm:b1r mg base)(hq:(("sets_reached.<locals>.<lambda>":Str),(⟨49,40,49,93⟩:Pos),T)∈tabsL)(c_carried:a0q P w K mg base "carried" 3 ["machine","rooms","word"] (a5b K))
  (c_reached:b1u P w K mg base "reached" 8 ["start","letters","step","most"] (a5c P w K mg base) [.non]) (m_len:mg "len"=none):FnOk P w K mg base CX0 10 f fd ["machine","rooms"] (a4i T (⟨49,40,49,93⟩:Pos)):=by
 refine F.fnOk b2o (fun vs H Q E h=>?_) (fun A outer s H vs Q E h hr=>?_)
 ·obtain⟨m,p,ts,n,rooms,rfl,_⟩:=h
  rfl
 obtain⟨m,p,ts,n,rooms,rfl,M,hp,hU,hT,q⟩:=h
 refine⟨_,?_,(a0j (a0w (b4j c_reached hr.m rfl (j:=0) rfl rfl rfl rfl (a0y (a0b (pv 1) (a0b (a0n a0l rfl m_len a4F (a0f (pv 0) a0i)) (a0b (c9g (qual:="sets_reached.<locals>.<lambda>") rfl hC bm (fun _ _ _ _ _=>rfl) rfl rfl) a0r rfl) rfl) rfl)))))⟩
 obtain⟨rs,hm,hrl,_⟩:=M.refs
 refine⟨_,rfl,_,rfl,m,_,rfl,.inr (SqT.of hm),?_⟩
 try dsimp only
 rw[a0D,hrl]
 have go: ∀(fl cc:Addr) (ct:Vl) (H1:Hp) (tps:AV),H T=some (.tbl tps)->KeepsBut T H H1->H1 T=some (.tbl (a3e (⟨49,40,49,93⟩:Pos) cc))->H1 cc=some (a5u cc "sets_reached.<locals>.<lambda>")-> ∀(params:Arguments) (body:Expr) (scope:Scope) (pm:Vl) (c:Addr),H1 fl=some (b1q fl (a3j "sets_reached.<locals>.<lambda>" params body scope "machine" c pm (.ref cc) ct))->
   ∀oc,H1 c=none->(FnOk P w K mg base CX0 5 fl (a3j "sets_reached.<locals>.<lambda>" params body scope "machine" c pm (.ref cc) ct) ["here","letter"] (a7r (Same (upd H1 c (a3d c m oc))) (a1f n) ts.length (a0m ts)))->Binds K (a3j "sets_reached.<locals>.<lambda>" params body scope "machine" c pm (.ref cc) ct) ["here","letter"] []->
   a5c P w K mg base [.ref p,nv ts.length,.ref fl,.non] (upd H1 c (a3d c m oc)) (fun r H2=>H2 c=some (a3d c m oc)/\Q r (L2.drop H2 c)) E0:=fun fl cc ct H1 tps hT0 kb h1 h2 params body scope pm c h3 oc hc hF hB=>by
  have k1:=kb.keeps hT0
  have kc:=a0d hc (a3d c m oc)
  have n5:=M.n5
  refine⟨p,fl,_,_,rooms,ts.length,a1f n,a0m ts,rfl,kc _ _ (k1 _ _ (nU hp)),kc _ _ h3,hU,fun x hx l hl=>?_,?_,?_,hF,hB,fun D ws as H2 g2 W nw TT=>⟨g2 _ _ a0a,q D ws as _ (fun b o hb=>?_) (hT.but hq hT0 (fun b o nb hb=>?_) (.inr ⟨cc,?_,?_⟩)) ⟨W.len,?_,fun j a r e1 e2=>?_⟩ (fun b hb=>?_) TT⟩⟩
  ·obtain⟨x1,x2⟩:=mem_setsU.mp hx
   refine mem_setsU.mpr ⟨b4w _,fun r hr=>?_⟩;obtain⟨y,h4,rfl⟩:=a0Q.mp (a8q hr);exact a4h M [l] y (x2 y h4) fun z hz=>by rw[a0H.mp hz];exact hl
  ·exact a0Y (a1K _ _) (by rw[a0D,a5F];decide)
  ·have:=M.few
   lia
  ·have z:=k1 b o hb
   rw[a0o (a0h z hc)];exact g2 _ _ (kc _ _ z)
  ·have z:=kb b o nb hb
   rw[a0o (a0h z hc)];exact g2 _ _ (kc _ _ z)
  ·rw[a0o (a0h h1 hc)]
   exact g2 _ _ (kc _ _ h1)
  ·rw[a0o (a0h h2 hc)]
   exact g2 _ _ (kc _ _ h2)
  ·rw[a0o (nE W.dict (g2 _ _ a0a))]
   exact W.dict
  ·have z:=W.list j a r e1 e2
   rw[a0o (nE z (g2 _ _ a0a))];exact z
  ·have z:=nw b hb
   cases y:L2.noT H b with
   |none=>rfl
   |some o=>
    have z2:=kc _ _ (k1 _ _ y);rw[z]at z2;cases z2
 rcases hT _ hq with hT1|⟨cc,hT1,hcc⟩
 ·refine .inl ⟨hT1,fun fl cc ct hfl hcc ne=>⟨m,rfl,fun oc hc=>?_⟩⟩
  obtain⟨k1,hT2,hc1⟩:=d4o (⟨49,40,49,93⟩:Pos) "sets_reached.<locals>.<lambda>" hT1 hfl hcc ne _
  have kc:=a0d hc (a3d (s.heap.objs.size+1) m oc)
  obtain⟨F1,F2⟩:=b8p rfl c_carried ((M.keeps (k1.keeps hT1)).same kc) (kc _ _ a0a) a0a (kc _ _ hc1)
  exact go fl cc ct _ _ hT1 k1 hT2 hc1 _ _ _ _ _ a0a oc hc F1 F2
 ·refine .inr ⟨cc,hT1,hcc,fun fl ct hfl=>⟨m,rfl,fun oc hc=>?_⟩⟩
  have k1: ∀lo,Same H (upd H fl lo):=fun lo=>a0d hfl lo
  have kc:=a0d hc (a3d (s.heap.objs.size+1) m oc)
  obtain⟨F1,F2⟩:=b8p rfl c_carried ((M.same (k1 _)).same kc) (kc _ _ a0a) a0a (kc _ _ (k1 _ _ _ hcc))
  exact go fl cc ct _ _ hT1 (fun b o _ hb=>k1 _ _ _ hb) (k1 _ _ _ hT1) (k1 _ _ _ hcc) _ _ _ _ _ a0a oc hc F1 F2
def b2p:Sp:=fun vs H Q _=> ∃n:Nat,vs=[nv n]/\n<=1000/\d3j H ((List.range n).map nv) Q
theorem c8c(F:Fun K "still" "still" c4k f fd)(m_tuple:mg "tuple"=none)(m_range:mg "range"=none):FnOk P w K mg base CX0 1 f fd ["rooms"] b2p:=by
 refine F.ok d1t (fun vs H Q E h=>?_) (fun cdv A outer s H vs Q E hr h=>?_)
 ·obtain⟨n,rfl,_⟩:=h
  rfl
 obtain⟨n,rfl,hn,q⟩:=h
 refine⟨_,(a0j (a0w (a1j (b3z rfl) rfl m_tuple a7K (a0f (a1j a9c rfl m_range boot_range (a0f (pv 0) a0i)) a0i)))),?_⟩
 refine⟨_,rfl,(n:Int),rfl,fun p hp=>⟨p,(n:Int),rfl,a0a,by lia,by lia,fun t ht=>?_⟩⟩
 exact q t _ ((a0d hp _).trans (a0d ht _)) a0a
def beh(xs ys:Nsq):Nsq:=xs.map fun x=>ys.getD x 0
def b2q:Sp:=fun vs H Q _=> ∃(a b:Addr) (xs ys:Nsq),vs=[.ref a,.ref b]/\H a=some (.tup (xs.map nv))/\H b=some (.tup (ys.map nv))/\(∀x∈xs,x<ys.length)/\xs.length<=1000/\d3j H ((beh xs ys).map nv) Q
theorem c4r(F:Fun K "behind" "behind" b2k f fd)(m_tuple:mg "tuple"=none):FnOk P w K mg base CX0 1 f fd ["one","other"] b2q:=by
 refine F.ok c8a (fun vs H Q E h=>?_) (fun cdv A outer s H vs Q E hr h=>?_)
 ·obtain⟨a,b,xs,ys,rfl,_⟩:=h
  rfl
 obtain⟨a,b,xs,ys,rfl,ha,hb,hlt,hz,q⟩:=h
 refine⟨_,(a0j (a0w (a1j a2g rfl m_tuple a7K (a0f (a1d (CompSc.to (N:=["one","other"]) (osc:=a0e b2k) (vs:=["room"]) {}) rfl rfl (b7h (pv 0)) (fun _ _ _ _=>a2h) (fun _ _ _ _=>(a1h (IxR.k (K:=K) rIxT a1k rfl) (pv 2) (pv 0) (fun _ _=>rfl)))) a0i)))),?_⟩
 have e:(xs.map nv).map (fun v=>match v with| .int i=>nv (ys.getD i.toNat 0)|v=>v)=(beh xs ys).map nv:=by
  unfold beh
  rw[a3O,a3O]
  rfl
 refine⟨_,rfl,a,rfl,⟨_,SqT.of ha⟩,b5o (f:=fun v=>match v with| .int i=>nv (ys.getD i.toNat 0)|v=>v) (by rw[a0D];exact small hz) (SqT.of ha) (fun v Q hv q=>?_) (fun p hp=>?_)⟩
 ·obtain⟨x,hx,rfl⟩:=a0Q.mp hv
  exact⟨_,rfl,_,rfl,b,_,_,_,rfl,rfl,SqT.of hb,c6w (hlt x hx),q⟩
 ·rw[e]
  exact⟨p,_,rfl,.inl ⟨SqL.of a0a,fun t ht=>q t _ ((a0d hp _).trans (a0d ht _)) a0a⟩⟩
def a6q(n:Nat):Nat->List Nsq
 |0=>[[]]
 |k+1=>(a6q n k).flatMap fun x=>(List.range n).map fun r=>x++[r]
theorem mem_mapsU{n:Nat}: ∀{k:Nat} {x:Nsq},x∈a6q n k↔x.length=k/\ ∀r∈x,r<n
 | 0,x=>by
  show x∈[[]]↔_
  rw[a0H]
  constructor
  ·rintro rfl
   exact⟨rfl,fun r hr=>nomatch hr⟩
  ·rintro⟨h,_⟩
   exact a2V.mp h
 | k+1,x=>by
  show x∈(a6q n k).flatMap _↔_
  rw[List.mem_flatMap]
  constructor
  ·rintro⟨y,hy,hx⟩
   obtain⟨r,hr,rfl⟩:=a0Q.mp hx;obtain⟨h1,h2⟩:=mem_mapsU.mp hy;refine⟨by simp[h1],fun z hz=>?_⟩
   rcases a0L.mp hz with m|m
   ·exact h2 z m
   ·rw[a0H.mp m]
    exact a2J.mp hr
  ·rintro⟨h1,h2⟩
   have ne:x≠[]:=fun z=>by rw[z]at h1;cases h1
   refine⟨x.dropLast,mem_mapsU.mpr ⟨by rw[List.length_dropLast,h1];rfl,fun r hr=>h2 r (List.dropLast_subset _ hr)⟩,a0Q.mpr ⟨x.getLast ne,a2J.mpr (h2 _ (List.getLast_mem ne)),a8F ne⟩⟩
theorem b4x{n:Nat}: ∀k,(a6q n k).length=n ^ k
 |0=>rfl
 | k+1=>by
  show((a6q n k).flatMap _).length=_
  rw[List.length_flatMap]
  have z: ∀l:LN,(l.map fun x=>((List.range n).map fun r=>x++[r]).length).sum=l.length * n:=by
   intro l
   induction l with
   |nil=>simp
   |cons a l ih=>rw[a2I,List.sum_cons,ih,a0D,a5F,a2W,Nat.succ_mul,a9E]
  rw[z,b4x k,Nat.pow_succ]
theorem c4s{n:Nat}(h:n<=5):(a6q n n).length<=4000:=by
 rw[b4x]
 have z: ∀k:Fin 6,(k:Nat) ^ (k:Nat)<=4000:=by decide
 exact z ⟨n,by lia⟩
theorem b6i(n:Nat):List.range n∈a6q n n:=mem_mapsU.mpr ⟨a5F,fun r hr=>a2J.mp hr⟩
def gl(t:Nsq):Int:= -((t.length:Nat):Int)
def a4l(acc:LN)(t:Nsq):LN:=if acc.contains t then acc else acc++[t]
def uniq(ts:LN):LN:=ts.foldl a4l []
theorem c4t(ts:LN)(t:Nsq):uniq (ts++[t])=a4l (uniq ts) t:=by
 unfold uniq
 rw[a3W]
 rfl
theorem c0o{acc:LN}{t x:Nsq}:x∈a4l acc t↔x∈acc∨x=t:=by
 unfold a4l
 by_cases h:acc.contains t=true
 ·rw[if_pos h]
  constructor
  ·exact .inl
  ·rintro(h1|rfl)
   ·exact h1
   ·exact a1F.mp h
 ·rw[if_neg h,a0L,a0H]
theorem b4y{acc:LN}{t:Nsq}(nd:acc.Nodup):(a4l acc t).Nodup:=by
 unfold a4l
 by_cases h:acc.contains t=true
 ·rw[if_pos h]
  exact nd
 ·rw[if_neg h,a8Y]
  refine⟨nd,by simp,fun x hx y hy z=>h (List.contains_iff_mem.mpr ?_)⟩
  rw[<-a0H.mp hy,<-z]
  exact hx
theorem b6j(ts:LN):(uniq ts).Nodup/\ ∀x,x∈uniq ts↔x∈ts:=by
 have go: ∀(ts acc:LN),acc.Nodup->(ts.foldl a4l acc).Nodup/\ ∀x,x∈ts.foldl a4l acc↔x∈acc∨x∈ts:=by
  intro ts
  induction ts with
  |nil=>intro acc nd;exact⟨nd,fun x=>by simp⟩
  |cons t ts ih=>
   intro acc nd;obtain⟨h1,h2⟩:=ih (a4l acc t) (b4y nd);refine⟨h1,fun x=>?_⟩;rw[a9D,h2 x,c0o,a1C,or_assoc]
 obtain⟨h1,h2⟩:=go ts [] List.nodup_nil
 exact⟨h1,fun x=>by rw[show uniq ts=ts.foldl a4l []from rfl,h2 x];simp⟩
theorem c4u{kvs:List (List Key×V)}{us:LN}{t:Nsq}{v:V}(h:kvs.map (·.1)=us.map nk):(b3t kvs (nk t) v).map (·.1)=(a4l us t).map nk:=by
 have e:(kvs.any fun kv=>decide (kv.1=nk t))=us.contains t:=by
  rw[a3P,a7W,a1F]
  constructor
  ·rintro⟨kv,h1,h2⟩
   have m:kv.1∈us.map nk:=by rw[<-h];exact a0Q.mpr ⟨kv,h1,rfl⟩
   obtain⟨u,hu,eu⟩:=a0Q.mp m;have z:=b7t (eu.trans (a2F h2));rw[<-z];exact hu
  ·intro ht
   have m:nk t∈kvs.map (·.1):=by rw[h];exact a0Q.mpr ⟨t,ht,rfl⟩
   obtain⟨kv,h1,h2⟩:=a0Q.mp m;exact⟨kv,h1,a1E h2⟩
 unfold b3t a4l
 rw[e]
 by_cases c:us.contains t=true
 ·rw[if_pos c,if_pos c,<-h,a3O]
  refine a4O fun kv _=>?_
  show(if kv.1=nk t then(kv.1,v)else kv).1=kv.1
  split<;>rfl
 ·rw[if_neg c,if_neg c,a1G,a1G,h]
  rfl
theorem a5x{α:Type}{lt:α->α->Bool}(ir: ∀x,lt x x=false)(tr: ∀x y z,lt x y=true->lt y z=true->lt x z=true): ∀{us vs:List α},us.Pairwise (fun x y=>lt x y=true)->vs.Pairwise (fun x y=>lt x y=true)->(∀x,x∈us↔x∈vs)->us=vs
 | [],[],_,_,_=>rfl
 | [],q::vs,_,_,h=>absurd ((h q).mpr (a0S ..)) (by simp)
 |p::us,[],_,_,h=>absurd ((h p).mp (a0S ..)) (by simp)
 | p::us,q::vs,h1,h2,h=>by
  obtain⟨p1,p2⟩:=a6V.mp h1
  obtain⟨q1,q2⟩:=a6V.mp h2
  have no: ∀{x y:α},lt x y=true->lt y x=true->False:=fun {x y} a b=>by
   have:=tr _ _ _ a b
   rw[ir]at this;cases this
  have pq:p=q:=by
   rcases a1C.mp ((h p).mp (a0S ..))with e|e
   ·exact e
   ·rcases a1C.mp ((h q).mpr (a0S ..))with e'|e'
    ·exact e'.symm
    ·exact(no (q1 p e) (p1 q e')).elim
  subst pq
  have rest:us=vs:=a5x ir tr p2 q2 fun r=>by
   constructor
   ·intro hr
    rcases a1C.mp ((h r).mp (a0X _ hr))with e|e
    ·subst e
     have:=p1 r hr
     rw[ir]at this;cases this
    ·exact e
   ·intro hr
    rcases a1C.mp ((h r).mpr (a0X _ hr))with e|e
    ·subst e
     have:=q1 r hr
     rw[ir]at this;cases this
    ·exact e
  rw[rest]
def b4z:Sp:=fun vs H Q _=> ∃(l:Addr) (as:As) (ts U:LN),vs=[.ref l]/\H l=some (.lst (as.map .ref))/\TupsAt H as ts/\(∀t∈ts,t∈U)/\U.length<64/\ts.length<=4000/\
 ∀D bs us H',Same H H'->H D=none->H' D=some (.lst (bs.map .ref))->TupsAt H' bs us->(∀x,x∈us↔x∈ts)->us.Pairwise (fun x y=>a4y gl x y=true)->Q (.ref D) H'
theorem c8d(F:Fun K "place_of" "place_of" b2h f fd)(m_len:mg "len"=none):FnOk P w K mg base CX0 1 f fd ["rooms"] (c0d gl):=by
 refine F.ok c4l (fun vs H Q E h=>?_) (fun cdv A outer s H vs Q E hr h=>?_)
 ·obtain⟨a,t,rfl,_⟩:=h
  rfl
 obtain⟨a,t,rfl,ha,q⟩:=h
 refine⟨_,(a0j (a0w (a7m (a0y (a0b (pe_un d2q (a0n a0l rfl m_len a4F (a0f (pv 0) a0i))) (a0b (pv 0) a0r rfl) rfl))))),?_⟩
 refine⟨_,rfl,a,_,rfl,.inr (SqT.of ha),_,rfl,_,rfl,by show 2<=sizeLine;decide,fun κ hκ=>?_⟩
 refine q κ _ (a0d hκ _) ?_
 rw[a0a,a0D]
 rfl
theorem b6k(F:Fun K "in_order" "in_order" b2i f fd)(c_place_of:a0q P w K mg base "place_of" 1 ["rooms"] (c0d gl))(m_sorted:mg "sorted"=none):FnOk P w K mg base CX0 5 f fd ["sets"] b4z:=by
 refine F.ok scInOrder (fun vs H Q E h=>?_) (fun cdv A outer s H vs Q E hr h=>?_)
 ·obtain⟨l,as,ts,U,rfl,_⟩:=h
  rfl
 obtain⟨l,as,ts,U,rfl,hl,T,inU,few,few2,q⟩:=h
 have hu:=hr.units
 have hu1:=a7w hr
 refine⟨_,(a0g (a0u (i:=1) scInOrder.nd rfl (Or.inl rfl) a6d) (a0g (a2w a2E rfl (a1i (pv 0)) (a1a (i:=2) scInOrder.nd rfl (Or.inl rfl)) (a0j (a6z hu1 (pv 1) (pv 2) c9x rfl))) (a0j (a0w (c7x rfl hu c_place_of hr.m rfl m_sorted rfl (pv 1)))))),?_⟩
 intro d hd
 have kd:=a0d hd (.dT [])
 have la:=T.len
 obtain⟨un,um⟩:=b6j ts
 refine⟨_,rfl,l,rfl,⟨_,SqL.of (kd _ _ hl)⟩,a3z (xs:=as.map .ref) (fun i σ H'=>Same H H'/\ ∃kvs o,H' d=some (.dT kvs)/\kvs.map (·.1)=(uniq (ts.take i)).map nk/\σ=[some (.ref l),some (.ref d),o]) ⟨kd,[],none,a0a,rfl,rfl⟩ (fun i σ H' _ p=>SqL.of (p.1 _ _ hl)) (fun i x σ H' hx p=>?_) (fun σ H' p=>?_)⟩
 ·obtain⟨g,kvs,o,ed,ek,rfl⟩:=p
  rw[a0G]at hx
  obtain⟨a,ea,rfl⟩:=a0O.mp hx
  have li:=(a0B.mp ea).1
  obtain⟨t,et⟩: ∃t,ts[i]? =some t:=⟨_,a0A (by lia)⟩
  have ha:=g _ _ (T.is i a t ea et)
  have lk:kvs.length<=ts.length:=by
   rw[<-a0D (f:=(·.1)) (as:=kvs),ek,a0D];refine a0Y (a7p (b6j _).1 (U:=ts) fun x hx=>?_) (a0J _);exact a4K (((b6j _).2 x).mp hx)
  refine⟨_,rfl,_,rfl,d,_,rfl,DPut.t ed (by rw[a5r];exact ha) (by rw[a1B];lia),?_⟩
  refine⟨a1b g hd,_,_,a0a,?_,rfl⟩
  rw[c4u ek,a1V,et]
  show _=(uniq (ts.take i++[t])).map nk
  rw[c4t]
 ·obtain⟨g,kvs,o,ed,ek,rfl⟩:=p
  rw[a0D,la,a1Q]at ek
  have lu:(uniq ts).length<64:=a5U (a7p un fun x hx=>inU x ((um x).mp hx)) few
  refine⟨_,rfl,d,rfl,d,kvs,uniq ts,rfl,ed,ek,lu,fun D bs us H2 g2 hD eD T2 perm pw=>?_⟩
  exact q D bs us H2 (g.trans g2) (g.free hD) eD T2 (fun x=>(perm.mem_iff).trans (um x)) pw
def PicsAt(H:Hp)(l:Addr)(as:As)(ws:TW):Prop:=H l=some (.lst (as.map .ref))/\as.length=ws.length/\ ∀(j:Nat) (a:Addr) (p:Nsq×Nsq),as[j]? =some a->ws[j]? =some p-> ∃b c,c≠l/\H a=some (.tup [.ref b,.ref c])/\H b=some (.tup (p.1.map nv))/\H c=some (.lst (p.2.map nv))
def b0z(T:Addr)(pos:Pos):Sp:=fun vs H Q _=> ∃(m:Addr) (ts:LN) (n:Nat),vs=[.ref m]/\Mach H m ts n/\Tabs H/\
 ∀l as ws H',Keeps H H'->Tabs H'->PicsAt H' l as ws->Told (a0m ts) ts.length (List.range n) ws->Q (.ref l) H'
def dtN(xs:Nsq):List Dt:=(xs.map fun(n:Nat)=>(n:Int)).map Dt.int
theorem b6l{xs ys:Nsq}(h:dtN xs=dtN ys):xs=ys:=dt_natsT.mp (a1Z Dt.tup h)
theorem a9t{n:Nat}(h:n<=5):List.range n∈a1f n:=by
 have z: ∀k:Fin 6,a1w (List.range k)=List.range k:=by decide+kernel
 exact mem_setsU.mpr ⟨z ⟨n,by lia⟩,fun r hr=>a2J.mp hr⟩
theorem b6m{T:Addr}(F:Fun K "pictures" "pictures" a9o f fd)(c_still:a0q P w K mg base "still" 1 ["rooms"] b2p)(c_sets_reached:a0q P w K mg base "sets_reached" 10 ["machine","rooms"] (a4i T (⟨49,40,49,93⟩:Pos)))(m_len:mg "len"=none)(m_list:mg "list"=none):
  FnOk P w K mg base CX0 12 f fd ["machine"] (b0z T (⟨49,40,49,93⟩:Pos)):=by
 refine F.ok scPictures (fun vs H Q E h=>?_) (fun cdv A outer s H vs Q E hr h=>?_)
 ·obtain⟨m,ts,n,rfl,_⟩:=h
  rfl
 obtain⟨m,ts,n,rfl,M,hT,q⟩:=h
 have t1:=M.some1
 have n5:=M.n5
 obtain⟨_,r0,b1,b2,b3,b4,b5,b6⟩:=M.at (l:=0) (by lia)
 refine⟨_,(a0g (a0u (i:=1) scPictures.nd rfl (Or.inl rfl) (a0k c_sets_reached hr.m rfl (a0y (a0b (pv 0) (a0b (a0k c_still hr.m rfl (a0f (a0n a0l rfl m_len a4F (a0f (a1h a1k (pv 0) a0p (fun _ _=>rfl)) a0i)) a0i)) a0r rfl) rfl)))) (a0j (a0w (a1j (a9k rfl) rfl m_list boot_list (a0f (d3a PySem.F.plainAttrs_dict PySem.F.slot_dict_items PySem.F.type_dict_items c7p (pv 1)) a0i))))),?_⟩
 refine⟨_,rfl,_,rfl,m,_,_,_,rfl,rfl,SqT.of b1,b3,r0,_,rfl,.inr (SqT.of b4),?_⟩
 try dsimp only
 rw[a0D,b5]
 refine⟨n,rfl,by lia,fun st H1 g1 e1=>⟨m,st,ts,n,List.range n,rfl,M.same g1,e1,a9t n5,hT.same g1,fun D ws as H2 k2 T2 W _ TT=>?_⟩⟩
 refine⟨_,rfl,.inr (.inr (.inl ⟨rfl,.inr ⟨_,W.dict⟩⟩)),rfl,D,_,rfl,W.dict,fun v hv=>?_⟩
 have kv:=a0d hv (c3l v D)
 refine⟨v,D,_,rfl,a0a,kv _ _ W.dict,fun l ps H3 Ls=>?_⟩
 have k3:Same (upd H2 v (c3l v D)) H3:=fun b o hb=>by
  rw[Ls.rest b (a0h hb Ls.new) fun z=>by rw[Ls.news b z]at hb;cases hb]
  exact hb
 have kk:Same H2 H3:=kv.trans k3
 refine q l ps ws H3 ((g1.keeps.trans k2).trans kk.keeps) (T2.same kk) ⟨Ls.lst,by rw[Ls.len,c3m W.len],fun j a p e1 e2=>?_⟩ TT
 obtain⟨k,x,b,f1,f2,f3⟩:=Ls.is j a e1
 obtain⟨hj,_⟩:=a0B.mp e2
 obtain⟨c,ec⟩: ∃c,as[j]? =some c:=⟨_,a0A (by rw[W.len];exact hj)⟩
 rw[d3w e2 ec]at f1
 cases f1
 have hc:=kv _ _ (W.list j c p ec e2)
 rw[a5r]at f2
 exact⟨b,c,a0h hc Ls.new,f3,k3 _ _ f2,k3 _ _ hc⟩
theorem b5a{xs ys:Nsq}(h: ∀r,r∈xs↔r∈ys):a1w xs=a1w ys:=by
 unfold a1w
 refine a6G fun i _=>?_
 rw[a3P,a1F,a1F]
 exact h i
theorem a7j{H:Hp}{m:Addr}{ts:LN}{n:Nat}(M:Mach H m ts n){x:Nsq}{l:Nat}(hx:x∈a1f n)(hl:l<ts.length):a0m ts x l∈a1f n:=by
 obtain⟨x1,x2⟩:=mem_setsU.mp hx
 refine mem_setsU.mpr ⟨b4w _,fun r hr=>?_⟩
 obtain⟨y,h4,rfl⟩:=a0Q.mp (a8q hr)
 exact a4h M [l] y (x2 y h4) fun z hz=>by rw[a0H.mp hz];exact hl
theorem a6r{H:Hp}{m:Addr}{ts:LN}{n:Nat}(M:Mach H m ts n): ∀(word:Nsq) (x:Nsq),x∈a1f n->(∀l∈word,l<ts.length)->a2l (a0m ts) x word=a1w (a7v ts x word)
 | [],x,hx,_=>by
  show x=a1w (x.map fun r=>a4o ts r [])
  rw[show(fun r=>a4o ts r [])=id from rfl,List.map_id]
  exact(mem_setsU.mp hx).1.symm
 | l::word,x,hx,h=>by
  have hl:=h l (a0S ..)
  have n5:=M.n5
  show a2l (a0m ts) (a0m ts x l) word=_
  rw[a6r M word _ (a7j M hx hl) fun y hy=>h y (a0X _ hy)]
  refine b5a fun r=>?_
  unfold a7v
  rw[a0Q,a0Q]
  constructor
  ·rintro⟨y,hy,rfl⟩
   obtain⟨z,hz,rfl⟩:=a0Q.mp (a8q hy);exact⟨z,hz,rfl⟩
  ·rintro⟨z,hz,rfl⟩
   have zl:=a4h M [l] z ((mem_setsU.mp hx).2 z hz) fun y hy=>by rw[a0H.mp hy];exact hl
   exact⟨a4o ts z [l],b8n (a0Q.mpr ⟨z,hz,rfl⟩) (by lia),rfl⟩
theorem a5y{α:Type}{P:Nat->α->Prop}: ∀{n:Nat},(∀j,j<n-> ∃x,P j x)-> ∃xs:List α,xs.length=n/\ ∀(j:Nat) (x:α),xs[j]? =some x->P j x
 |0,_=>⟨[],rfl,fun j x e=>by simp at e⟩
 | n+1,h=>by
  obtain⟨xs,h1,h2⟩:=a5y (n:=n) fun j hj=>h j (by lia)
  obtain⟨x,hx⟩:=h n (by lia)
  refine⟨xs++[x],by simp[h1],fun j y e=>?_⟩
  by_cases hj:j<n
  ·rw[a0R (by lia)]at e
   exact h2 j y e
  ·rw[a0P (by lia)]at e
   have z:j-xs.length=0:=by
    have:=(a0B.mp e).1
    simp at this;lia
   rw[z]at e;cases e;have jn:j=n:=by lia
   subst jn;exact hx
structure Prs(H:Hp)(l:Addr)(as:As)(bc:List (Addr×Addr))(ws:TW):Prop where
 lst:H l=some (.lst (as.map .ref))
 la:as.length=ws.length
 lb:bc.length=ws.length
 is: ∀(j:Nat) (a:Addr) (q:Addr×Addr) (p:Nsq×Nsq),as[j]? =some a->bc[j]? =some q->ws[j]? =some p->q.2≠l/\H a=some (.tup [.ref q.1,.ref q.2])/\H q.1=some (.tup (p.1.map nv))/\H q.2=some (.lst (p.2.map nv))
theorem PicsAt.prs{H:Hp}{l:Addr}{as:As}{ws:TW}(h:PicsAt H l as ws): ∃bc,Prs H l as bc ws:=by
 obtain⟨h1,h2,h3⟩:=h
 obtain⟨bc,e1,e2⟩:=a5y (n:=ws.length) (P:=fun j (q:Addr×Addr)=> ∀a p,as[j]? =some a->ws[j]? =some p->q.2≠l/\H a=some (.tup [.ref q.1,.ref q.2])/\H q.1=some (.tup (p.1.map nv))/\H q.2=some (.lst (p.2.map nv))) fun j hj=>by
  obtain⟨a,ea⟩: ∃a,as[j]? =some a:=⟨_,a0A (by lia)⟩
  obtain⟨p,ep⟩: ∃p,ws[j]? =some p:=⟨_,a0A hj⟩
  obtain⟨b,c,f0,f1,f2,f3⟩:=h3 j a p ea ep
  refine⟨(b,c),fun a' p' ea' ep'=>?_⟩
  rw[ea]at ea'
  rw[ep]at ep'
  cases ea'
  cases ep'
  exact⟨f0,f1,f2,f3⟩
 exact⟨bc,h1,h2,e1,fun j a q p ea eb ep=>e2 j q eb a p ea ep⟩
theorem Prs.at{H:Hp}{l:Addr}{as:As}{bc:List (Addr×Addr)}{ws:TW}(h:Prs H l as bc ws){j:Nat}(hj:j<ws.length): ∃a q p,as[j]? =some a/\bc[j]? =some q/\ws[j]? =some p/\q.2≠l/\H a=some (.tup [.ref q.1,.ref q.2])/\H q.1=some (.tup (p.1.map nv))/\H q.2=some (.lst (p.2.map nv)):=by
 have h1:=h.la
 have h2:=h.lb
 obtain⟨a,ea⟩: ∃a,as[j]? =some a:=⟨_,a0A (by lia)⟩
 obtain⟨q,eq⟩: ∃q,bc[j]? =some q:=⟨_,a0A (by lia)⟩
 obtain⟨p,ep⟩: ∃p,ws[j]? =some p:=⟨_,a0A hj⟩
 exact⟨a,q,p,ea,eq,ep,h.is j a q p ea eq ep⟩
def Pic(ts:LN)(n:Nat)(x:Nsq):Prop:= ∃word:Nsq,(∀l∈word,l<ts.length)/\a2l (a0m ts) (List.range n) word=x
structure FamOf(ts:LN)(n:Nat)(us:LN):Prop where
 up:us.Pairwise fun x y=>a4y gl x y=true
 mem: ∀x,x∈us↔(Pic ts n x∨ ∃r,r<n/\x=[r])
theorem FamOf.uniq{ts:LN}{n:Nat}{us vs:LN}(h1:FamOf ts n us)(h2:FamOf ts n vs):us=vs:=a5x (a2t gl us).irr (a2t gl us).trans h1.up h2.up fun x=>(h1.mem x).trans (h2.mem x).symm
theorem b2r{ts:LN}{n:Nat}{ws:TW}(T:Told (a0m ts) ts.length (List.range n) ws)(x:Nsq):x∈ws.map (·.1)↔Pic ts n x:=by
 constructor
 ·intro h
  obtain⟨p,hp,rfl⟩:=a0Q.mp h
  obtain⟨r1,r2⟩:=T.run p hp
  exact⟨p.2,r1,r2⟩
 ·rintro⟨word,h1,rfl⟩
  obtain⟨u,h2,_⟩:=T.least _ word rfl h1
  exact a0Q.mpr ⟨_,h2,rfl⟩
theorem b5b{n r:Nat}(n5:n<=5)(h:r<n):[r]∈a1f n:=by
 have z: ∀k:Fin 5,a1w [(k:Nat)]=[(k:Nat)]:=by decide+kernel
 exact mem_setsU.mpr ⟨z ⟨r,by lia⟩,fun x hx=>by rw[a0H.mp hx];exact h⟩
theorem c4v{H:Hp}{m:Addr}{ts:LN}{n:Nat}(M:Mach H m ts n){x:Nsq}(h:Pic ts n x):x∈a1f n:=by
 obtain⟨word,h1,rfl⟩:=h
 exact a7e (a9t M.n5) (fun y hy l hl=>a7j M hy hl) word h1
theorem a9u(n:Nat):(a1f n).length<=32:=a0Y (a1K _ _) (by rw[a0D,a5F];decide)
theorem FamOf.inU{H:Hp}{m:Addr}{ts:LN}{n:Nat}{us:LN}(M:Mach H m ts n)(h:FamOf ts n us){x:Nsq}(hx:x∈us):x∈a1f n:=by
 rcases (h.mem x).mp hx with z|⟨r,hr,rfl⟩
 ·exact c4v M z
 ·exact b5b M.n5 hr
theorem FamOf.few{H:Hp}{m:Addr}{ts:LN}{n:Nat}{us:LN}(M:Mach H m ts n)(h:FamOf ts n us):us.length<=32:=by
 refine a0Y (a7p (U:=a1f n) ?_ fun x hx=>h.inU M hx) (a9u n)
 exact h.up.imp fun {a b} z e=>by
  subst e
  rw[(a2t gl us).irr]at z
  cases z
theorem a3v{n:Nat}(n5:n<=5){x:Nsq}(h:x∈a1f n):x.length<=n:=by
 obtain⟨x1,x2⟩:=mem_setsU.mp h
 rw[<-x1,c0l n5 x2]
 exact a0Y (a1K _ _) (by simp)
theorem a3q{H:Hp}{d:Addr}{o o':HO}{bs:As}{us:LN}(T:TupsAt H bs us)(h:H d=some o)(no: ∀xs,o≠ .tup xs):TupsAt (upd H d o') bs us:=⟨T.len,fun i b u e1 e2=>by
 have z:=T.is i b u e1 e2
 rw[a0c (a5k z h fun e=>no _ e.symm)]
 exact z⟩
theorem a3w{H:Hp}{bs:As}{us:LN}{p:Addr}{u:Nsq}(h:TupsAt H bs us)(hp:H p=some (.tup (u.map nv))):TupsAt H (bs++[p]) (us++[u]):=by
 refine⟨by simp[h.len],fun i b v e1 e2=>?_⟩
 have l:=h.len
 by_cases hi:i<us.length
 ·rw[a0R (by lia)]at e1 e2
  exact h.is i b v e1 e2
 ·rw[a0P (by lia)]at e1 e2
  have z:i-us.length=0:=by
   have:=(a0B.mp e2).1
   simp at this;lia
  rw[l,z]at e1
  rw[z]at e2
  cases e1
  cases e2
  exact hp
theorem c8e{H:Hp}{bs cs:As}{us vs:LN}(h:TupsAt H bs us)(h':TupsAt H cs vs):TupsAt H (bs++cs) (us++vs):=by
 refine⟨by simp[h.len,h'.len],fun i b v e1 e2=>?_⟩
 have l:=h.len
 by_cases hi:i<us.length
 ·rw[a0R (by lia)]at e1 e2
  exact h.is i b v e1 e2
 ·rw[a0P (by lia)]at e1 e2
  rw[l]at e1
  exact h'.is _ b v e1 e2
theorem c4w{us vs:LN}(h:(Dt.lst (us.map fun u=> .tup (dtN u)))=Dt.lst (vs.map fun u=> .tup (dtN u))):us=vs:=by
 injection h with h
 exact a7b (fun a b e=>by injection e with e;exact b6l e) h
def b2s(T:Addr)(pos:Pos):Sp:=fun vs H Q _=> ∃(m:Addr) (ts:LN) (n:Nat),vs=[.ref m]/\Mach H m ts n/\Tabs H/\
 ∀D bs us H',Keeps H H'->Tabs H'->L2.noT H D=none->H' D=some (.lst (bs.map .ref))->TupsAt H' bs us->FamOf ts n us->Q (.ref D) H'
theorem c4x{T:Addr}(F:Fun K "family" "family" a7h f fd)(c_pictures:a0q P w K mg base "pictures" 12 ["machine"] (b0z T (⟨49,40,49,93⟩:Pos)))(c_in_order:a0q P w K mg base "in_order" 5 ["sets"] b4z)(m_len:mg "len"=none)(m_range:mg "range"=none):FnOk P w K mg base CX0 14 f fd ["machine"] (b2s T (⟨49,40,49,93⟩:Pos)):=by
 refine F.ok scFamily (fun vs H Q E h=>?_) (fun cdv A outer s H vs Q E hr h=>?_)
 ·obtain⟨m,ts,n,rfl,_⟩:=h
  rfl
 obtain⟨m,ts,n,rfl,M,hT,q⟩:=h
 have t1:=M.some1
 have n1:=M.n1
 have n5:=M.n5
 obtain⟨_,r0,b1,b2,b3,b4,b5,b6⟩:=M.at (l:=0) (by lia)
 refine⟨_,(a0g (b7n (CompSc.to (N:=["machine","singles"]) (osc:=a0e a7h) (vs:=["room"]) {}) rfl rfl scFamily.nd (j:=1) rfl rfl (a2e rfl m_range (a0f (a0n a0l rfl m_len a4F (a0f (a1h a1k (pv 0) a0p (fun _ _=>rfl)) a0i)) a0i)) (fun _ _ _ _=>a2h) (fun _ _ _ _=>(a7m (a0f (pv 0) a0i)))) (a0j (a0w (a0k c_in_order hr.m rfl (a0f (a4n c2k (c2d (CompSc.to (N:=["machine","singles"]) (osc:=a0e a7h) (vs:=["rooms","word"]) {}) rfl (a1i (a0k c_pictures hr.m rfl (a0f (pv 0) a0i))) (d1d (CompSc.to (N:=["machine","singles"]) (osc:=a0e a7h) (vs:=["rooms","word"]) {}) rfl rfl rfl) (fun _ _ _ _=>a2h) (fun _ _ _ _=>(pv 0))) (pv 1)) a0i))))),?_⟩
 refine⟨_,rfl,m,_,_,_,rfl,rfl,SqT.of b1,b3,r0,_,rfl,.inr (SqT.of b4),(n:Int),by rw[a0D,b5],by lia,by lia,a3s (fun i ys H'=>Same H H'/\ ∃rs,ys=rs.map V.ref/\rs.length=i/\TupsAt H' rs ((List.range i).map fun r=>[r])) (by rw[a1W];exact small (by lia)) ⟨Same.refl _,[],rfl,rfl,rfl,fun i b u e=>by simp at e⟩ (fun i ys H' _ p=>?_) (fun i ys H' hi p=>?_) (fun ys H1 p sg hsg=>?_)⟩
 ·obtain⟨_,rs,rfl,e,_⟩:=p
  rw[a0D]
  lia
 ·obtain⟨g,rs,rfl,e,T1⟩:=p
  have e0:V.int (0+(i:Int))=nv i:=by show V.int (0+(i:Int))=V.int (i:Int);rw[a7S]
  refine⟨a1c,a4k ⟨_,rfl,by show 1<=sizeLine;decide,fun p hp=>?_⟩⟩
  have k:=a0d hp (.tup [V.int (0+(i:Int))])
  refine⟨g.trans k,rs++[p],by simp,by simp[e],?_⟩
  rw[List.range_succ,a1G]
  refine a3w (T1.same k) ?_
  rw[a0a,e0]
  rfl
 obtain⟨g1,rs,rfl,er,T1⟩:=p
 rw[a1W]at T1 er
 have k1:=a0d hsg (.lst (rs.map V.ref))
 have esg:upd H1 sg (.lst (rs.map V.ref)) sg=some (.lst (rs.map V.ref)):=a0a
 have T2:=T1.same k1
 have g2:=g1.trans k1
 generalize upd H1 sg (.lst (rs.map V.ref))=H2 at k1 esg T2 g2⊢
 refine⟨_,rfl,m,ts,n,rfl,M.same g2,hT.same g2,fun l as ws H3 k3 T3 pic TT=>?_⟩
 obtain⟨bc,pr⟩:=pic.prs
 have fine:=(M.same g2)
 have few:ws.length<=32:=by
  rw[<-a0D (f:=(·.1)) (as:=ws)]
  exact a0Y (a7p TT.keys fun x hx=>c4v M ((b2r TT x).mp hx)) (a9u n)
 refine⟨l,rfl,⟨_,SqL.of pr.lst⟩,a1v (xs:=as.map .ref) (fun i ys H'=>H'=H3/\ ∃bs,ys=bs.map V.ref/\bs.length=i/\TupsAt H3 bs ((ws.take i).map (·.1))) (by rw[a0D,pr.la,a1B];lia) ⟨rfl,[],rfl,rfl,rfl,fun i b u e=>by simp at e⟩ (fun i ys H' _ p=>?_) (fun i v ys H' hv p=>?_) (fun ys H' p c1 hc1=>?_)⟩
 ·obtain⟨rfl,bs,rfl,e,_⟩:=p
  exact⟨SqL.of pr.lst,by rw[a0D];lia⟩
 ·obtain⟨rfl,bs,rfl,e,T4⟩:=p
  rw[a0G]at hv
  obtain⟨a1,ea,rfl⟩:=a0O.mp hv
  obtain⟨a',q',p',ea',eq',ep',f0,f1,f2,f3⟩:=pr.at (j:=i) (by have:=(a0B.mp ea).1;rw[<-pr.la];exact this)
  rw[ea]at ea'
  cases ea'
  refine⟨a1,_,rfl,SqT.of f1,rfl,_,_,rfl,_,_,rfl,rfl,c6s,a4k ⟨_,rfl,rfl,bs++[q'.1],by simp,by simp[e],?_⟩⟩
  rw[a1V,ep',a1G]
  exact a3w T4 f2
 obtain⟨rfl,bs,rfl,e,T4⟩:=p
 rw[a0D,pr.la,a1Q]at T4
 have kc:=a0d hc1 (.lst (bs.map V.ref))
 have esg3:=kc _ _ (k3 _ _ (nU esg))
 have T5:TupsAt (upd H' c1 (.lst (bs.map V.ref))) rs ((List.range n).map fun r=>[r]):=⟨T2.len,fun i b u e1 e2=>kc _ _ (k3 _ _ (nU (T2.is i b u e1 e2)))⟩
 have lb:bs.length=ws.length:=by rw[T4.len,a0D]
 refine⟨_,rfl,c1,sg,_,_,rfl,rfl,SqL.of a0a,SqL.of esg3,by rw[a0D,a0D,lb,er,a1B];lia,fun l2 hl2=>?_⟩
 have k2:=a0d hl2 (.lst (bs.map V.ref++rs.map V.ref))
 have T6:=(c8e (T4.same kc) T5).same k2
 refine⟨l2,bs++rs,_,a1f n,rfl,by rw[a0a,a1G],T6,fun t ht=>?_,a5U (a9u n) (by decide),by rw[a0M,a0D,a0D,a5F];lia,fun D ds us H5 g5 hD eD T7 mem up=>?_⟩
 ·rcases a0L.mp ht with z|z
  ·exact c4v M ((b2r TT t).mp z)
  ·obtain⟨r,hr',rfl⟩:=a0Q.mp z
   exact b5b n5 (a2J.mp hr')
 ·have kk:Keeps H H5:=((g2.keeps.trans k3).trans (kc.trans k2).keeps).trans g5.keeps
  refine q D ds us H5 kk (T3.same ((kc.trans k2).trans g5)) ?_ eD T7 ⟨up,fun x=>?_⟩
  ·cases y:L2.noT H D with
   |none=>rfl
   |some o=>
    have z:=(kc.trans k2) _ _ ((g2.keeps.trans k3) _ _ y);rw[hD]at z;cases z
  ·rw[mem x,a0L,b2r TT x]
   refine or_congr Iff.rfl ?_;rw[a0Q]
   constructor
   ·rintro⟨r,h1,rfl⟩
    exact⟨r,a2J.mp h1,rfl⟩
   ·rintro⟨r,h1,rfl⟩
    exact⟨r,a2J.mpr h1,rfl⟩
def sub(x y:Nsq):Bool:=x.all fun r=>y.contains r
def d1x:Sp:=fun vs H Q _=> ∃(a b:Addr) (x y:Nsq),vs=[.ref a,.ref b]/\H a=some (.tup (x.map nv))/\H b=some (.tup (y.map nv))/\x.length<=5/\ ∀H',Same H H'->Q (.bl (sub x y)) H'
def a2b(fam:LN)(x:Nsq):LN:=fam.filter fun u=>decide (u≠x)&&sub u x
def a2v(us:LN)(u:Nsq):Bool:=us.any fun v=>decide (v≠u)&&sub u v
def a1t(fam:LN)(x:Nsq):LN:=(a2b fam x).filter fun u=> !a2v (a2b fam x) u
def d4p:Sp:=fun vs H Q _=> ∃(a l:Addr) (x:Nsq) (bs:As) (us:LN),vs=[.ref a,.ref l]/\H a=some (.tup (x.map nv))/\H l=some (.lst (bs.map .ref))/\TupsAt H bs us/\x.length<=5/\us.length<=32/\ ∀H',Same H H'->Q (.bl (a2v us x)) H'
def c4y(T:Addr)(pos:Pos):Sp:=fun vs H Q _=> ∃(m p:Addr) (ts:LN) (n:Nat) (x:Nsq),vs=[.ref m,.ref p]/\Mach H m ts n/\H p=some (.tup (x.map nv))/\Tabs H/\
 ∀D bs us fam H',Keeps H H'->Tabs H'->L2.noT H D=none->H' D=some (.lst (bs.map .ref))->TupsAt H' bs us->FamOf ts n fam->us=a1t fam x->Q (.ref D) H'
theorem a6s{H:Hp}{cs:As}{us:LN}{f:Nsq->Bool}{i:Nat}{a:Addr}{t:Nsq}(T:TupsAt H cs ((us.take i).filter f))(et:us[i]? =some t)(ha:H a=some (.tup (t.map nv))):if f t=true then TupsAt H (cs++[a]) ((us.take (i+1)).filter f)else TupsAt H cs ((us.take (i+1)).filter f):=by
 have nx:(us.take (i+1)).filter f=(us.take i).filter f++(if f t=true then[t]else[]):=by
  rw[a1V,et,a4T]
  cases c:f t with
  |true=>simp[c]
  |false=>simp[c]
 rw[nx]
 cases c:f t with
 |true=>exact a3w T ha
 |false=>
  rw[if_neg (by decide),if_neg (by decide),a2K]
  exact T
theorem c0p(F:Fun K "lies_in" "lies_in" b2j f fd)(m_all:mg "all"=none):FnOk P w K mg base CX0 1 f fd ["one","other"] d1x:=by
 refine F.ok c7z (fun vs H Q E h=>?_) (fun cdv A outer s H vs Q E hr h=>?_)
 ·obtain⟨a,b,x,y,rfl,_⟩:=h
  rfl
 obtain⟨a,b,x,y,rfl,ha,hb,l5,q⟩:=h
 refine⟨_,(a0j (a0w (a0n (c2m rfl) rfl m_all boot_all (a0f (a1d (CompSc.to (N:=["one","other"]) (osc:=a0e b2j) (vs:=["room"]) {}) rfl rfl (b7h (pv 0)) (fun _ _ _ _=>a2h) (fun _ _ _ _=>(a5p (OpR.k (K:=K) (fun K=>rIn K false) c1o rfl) (pv 0) (pv 2) (by with_unfolding_all rfl)))) a0i)))),?_⟩
 refine⟨_,rfl,a,rfl,⟨_,SqT.of ha⟩,b5o (f:=fun v=>match v with| .int i=> .bl (y.contains i.toNat)|v=>v) (by rw[a0D];exact small (by lia)) (SqT.of ha) (fun v Q hv q=>?_) (fun l hl=>?_)⟩
 ·obtain⟨r,h1,rfl⟩:=a0Q.mp hv
  refine⟨_,rfl,_,rfl,b,_,rfl,.inr (SqT.of hb),rfl,d1v _,?_⟩
  try dsimp only
  rw[in_nv]
  exact q
 ·have e:(x.map nv).map (fun v=>match v with| .int i=>V.bl (y.contains i.toNat)|v=>v)=(x.map fun r=>y.contains r).map V.bl:=by
   rw[a3O,a3O];rfl
  try dsimp only
  rw[e]
  refine⟨l,_,rfl,SqL.of a0a,?_⟩
  have e2:(x.map fun r=>y.contains r).all id=sub x y:=by
   unfold sub;rw[List.all_map];rfl
  try dsimp only
  rw[e2]
  exact q _ (a0d hl _)
theorem c0q(F:Fun K "is_covered" "is_covered" a5h f fd)(c_lies_in:a0q P w K mg base "lies_in" 1 ["one","other"] d1x)(m_any:mg "any"=none):FnOk P w K mg base CX0 3 f fd ["part","sets"] d4p:=by
 refine F.ok b6f (fun vs H Q E h=>?_) (fun cdv A outer s H vs Q E hr h=>?_)
 ·obtain⟨a,l,x,bs,us,rfl,_⟩:=h
  rfl
 obtain⟨a,l,x,bs,us,rfl,ha,hl,T,l5,few,q⟩:=h
 have hu:=hr.units
 have lb:=T.len
 refine⟨_,(a0j (a0w (a0n (b4g rfl) rfl m_any boot_any (a0f (a1d (CompSc.to (N:=["part","sets"]) (osc:=a0e a5h) (vs:=["other"]) {}) rfl rfl (a1i (pv 1)) (fun _ _ _ _=>a2h) (fun _ _ _ _=>(b3i (a5p (OpR.k (K:=K) (fun K=>d2d K true) (b3y hu) rfl) (pv 0) (pv 1) (a1u _)) (b3h (a0k c_lies_in hr.m rfl (a0y (a0b (pv 1) (a0b (pv 0) a0r rfl) rfl))))))) a0i)))),?_⟩
 refine⟨_,rfl,l,rfl,⟨_,SqL.of hl⟩,a1v (xs:=bs.map .ref) (fun i ys H'=>Same H H'/\ys=((us.take i).map fun v=>decide (v≠x)&&sub x v).map V.bl) (by rw[a0D,a1B];lia) ⟨Same.refl _,rfl⟩ (fun i ys H' hi p=>?_) (fun i v ys H' hv p=>?_) (fun ys H' p c1 hc1=>?_)⟩
 ·obtain⟨g,rfl⟩:=p
  exact⟨SqL.of (g _ _ hl),by simp;lia⟩
 ·obtain⟨g,rfl⟩:=p
  rw[a0G]at hv
  obtain⟨b,eb,rfl⟩:=a0O.mp hv
  have li:=(a0B.mp eb).1
  obtain⟨u,eu⟩: ∃u,us[i]? =some u:=⟨_,a0A (by lia)⟩
  have hb:=g _ _ (T.is i b u eb eu)
  have hx:=g _ _ ha
  have nx:((us.take (i+1)).map fun v=>decide (v≠x)&&sub x v).map V.bl=((us.take i).map fun v=>decide (v≠x)&&sub x v).map V.bl++[V.bl (decide (u≠x)&&sub x u)]:=by
   rw[a1V,eu,a1G,a1G];rfl
  refine⟨a1c,a4k ?_⟩
  refine⟨_,rfl,_,rfl,b,a,0,_,_,rfl,rfl,a7c (SqT.of hb),a7c (SqT.of hx),by decide,fun c hc=>?_⟩
  by_cases e:u=x
  ·have hc':c=true:=hc.mpr (dt_natsT.mpr e)
   subst hc';refine⟨_,rfl,b0d ⟨g,?_⟩⟩;rw[nx,a1L (fun z=>z e)];rfl
  ·have hc':c=false:=by
    cases c with
    |false=>rfl
    |true=>exact absurd (dt_natsT.mp (hc.mp rfl)) e
   subst hc';refine⟨_,rfl,b0n ⟨_,rfl,_,rfl,a,b,x,u,rfl,hx,hb,l5,fun H4 g4=>⟨g.trans g4,?_⟩⟩⟩;rw[nx,a1E e,a9C]
 ·obtain⟨g,rfl⟩:=p
  rw[a0D,lb,a1Q]
  have e2:(us.map fun v=>decide (v≠x)&&sub x v).any id=a2v us x:=by
   unfold a2v;rw[a9K];rfl
  refine⟨c1,_,rfl,SqL.of a0a,?_⟩
  try dsimp only
  rw[e2]
  exact q _ (g.trans (a0d hc1 _))
theorem c8f{T:Addr}(F:Fun K "tiles" "tiles" b4s f fd)(c_family:a0q P w K mg base "family" 14 ["machine"] (b2s T (⟨49,40,49,93⟩:Pos)))(c_lies_in:a0q P w K mg base "lies_in" 1 ["one","other"] d1x)(c_is_covered:a0q P w K mg base "is_covered" 3 ["part","sets"] d4p):FnOk P w K mg base CX0 16 f fd ["machine","rooms"] (c4y T (⟨49,40,49,93⟩:Pos)):=by
 refine F.ok scTiles (fun vs H Q E h=>?_) (fun cdv A outer s H vs Q E hr h=>?_)
 ·obtain⟨m,p,ts,n,x,rfl,_⟩:=h
  rfl
 obtain⟨m,p,ts,n,x,rfl,M,hp,hT,q⟩:=h
 have hu:=hr.units
 have n5:=M.n5
 refine⟨_,(a0g (a0u (i:=2) scTiles.nd rfl (Or.inr rfl) (a1d (CompSc.to (N:=["machine","rooms","within"]) (osc:=a0e b4s) (vs:=["part"]) {}) rfl rfl (a1i (a0k c_family hr.m rfl (a0f (pv 0) a0i))) (fun _ _ _ _=>a7a (PW.pt (b7d (a1r (OpR.k (K:=K) (fun K=>d2d K true) (b3y hu) rfl) (pv 0) (pv 2) (a1u _)) (b1i (a5z (a0k c_lies_in hr.m rfl (a0y (a0b (pv 0) (a0b (pv 2) a0r rfl) rfl)))))))) (fun _ _ _ _=>(pv 0)))) (a0j (a0w (a1d (CompSc.to (N:=["machine","rooms","within"]) (osc:=a0e b4s) (vs:=["part"]) {}) rfl rfl (a1i (pv 2)) (fun _ _ _ _=>a7a (a8t (a5z (a0k c_is_covered hr.m rfl (a0y (a0b (pv 0) (a0b (pv 3) a0r rfl) rfl)))))) (fun _ _ _ _=>(pv 0)))))),?_⟩
 refine⟨_,rfl,m,ts,n,rfl,M,hT,fun l bs fam H1 k1 T1 nl el Tf ff=>?_⟩
 have few:=ff.few M
 have lb:=Tf.len
 have hp1:=k1 _ _ (nU hp)
 have l5: ∀u∈fam,u.length<=5:=fun u h=>a0Y (a3v n5 (ff.inU M h)) n5
 refine⟨l,rfl,⟨_,SqL.of el⟩,a1v (xs:=bs.map .ref) (fun i ys H'=>Same H1 H'/\ ∃cs,ys=cs.map V.ref/\cs.length<=i/\TupsAt H' cs ((fam.take i).filter fun u=>decide (u≠x)&&sub u x)) (by rw[a0D,a1B];lia) ⟨Same.refl _,[],rfl,a0J _,rfl,fun i b u e=>by simp at e⟩ (fun i ys H' hi p=>?_) (fun i v ys H' hv p=>?_) (fun ys H2 p wl hwl=>?_)⟩
 ·obtain⟨g,cs,rfl,e,_⟩:=p
  exact⟨SqL.of (g _ _ el),by rw[a0D];exact e⟩
 ·obtain⟨g,cs,rfl,e,Tc⟩:=p
  rw[a0G]at hv
  obtain⟨b,eb,rfl⟩:=a0O.mp hv
  have li:=(a0B.mp eb).1
  obtain⟨u,eu⟩: ∃u,fam[i]? =some u:=⟨_,a0A (by lia)⟩
  have hb:=g _ _ (Tf.is i b u eb eu)
  have hx:=g _ _ hp1
  refine⟨a1c,_,rfl,_,rfl,b,_,0,_,_,rfl,rfl,a7c (SqT.of hb),a7c (SqT.of hx),by decide,fun c hc=>⟨_,rfl,?_⟩⟩
  by_cases ex:u=x
  ·have hc':c=true:=hc.mpr (dt_natsT.mpr ex)
   subst hc';have z:=a6s Tc eu hb;rw[a1L (fun z=>z ex),Bool.false_and,if_neg (by decide)]at z;refine b0d (b0d ⟨g,cs,rfl,by lia,z⟩)
  ·have hc':c=false:=by
    cases c with
    |false=>rfl
    |true=>exact absurd (dt_natsT.mp (hc.mp rfl)) ex
   subst hc';refine b0n ⟨_,rfl,_,rfl,b,_,u,x,rfl,hb,hx,l5 u (a0E eu),fun H4 g4=>⟨_,rfl,?_⟩⟩;have z:=a6s (Tc.same g4) eu (g4 _ _ hb);rw[a1E ex,a9C]at z;cases c2:sub u x with
   |true=>
    rw[c2,if_pos rfl]at z;exact b0n ⟨_,rfl,g.trans g4,cs++[b],by simp,by simp;exact e,z⟩
   |false=>
    rw[c2,if_neg (by decide)]at z;exact b0d ⟨g.trans g4,cs,rfl,by lia,z⟩
 obtain⟨g2,cs,rfl,_,Tc⟩:=p
 rw[a0D,lb,a1Q]at Tc
 have Tw:TupsAt H2 cs (a2b fam x):=Tc
 have kw:=a0d hwl (.lst (cs.map V.ref))
 have ewl:upd H2 wl (.lst (cs.map V.ref)) wl=some (.lst (cs.map V.ref)):=a0a
 have Tw3:=Tw.same kw
 have g3:=g2.trans kw
 generalize upd H2 wl (.lst (cs.map V.ref))=H3 at kw ewl Tw3 g3⊢
 have lw:(a2b fam x).length<=32:=a0Y (a1K _ _) few
 have lc:=Tw.len
 have wfam: ∀u∈a2b fam x,u∈fam:=fun u h=>(a1O.mp h).1
 refine⟨_,rfl,wl,rfl,⟨_,SqL.of ewl⟩,a1v (xs:=cs.map .ref) (fun i ys H'=>Same H3 H'/\ ∃ds,ys=ds.map V.ref/\ds.length<=i/\TupsAt H' ds (((a2b fam x).take i).filter fun u=> !a2v (a2b fam x) u)) (by rw[a0D,a1B];lia) ⟨Same.refl _,[],rfl,a0J _,rfl,fun i b u e=>by simp at e⟩ (fun i ys H' hi p=>?_) (fun i v ys H' hv p=>?_) (fun ys H4 p D hD=>?_)⟩
 ·obtain⟨g,ds,rfl,e,_⟩:=p
  exact⟨SqL.of (g _ _ ewl),by rw[a0D];exact e⟩
 ·obtain⟨g,ds,rfl,e,Td⟩:=p
  rw[a0G]at hv
  obtain⟨b,eb,rfl⟩:=a0O.mp hv
  have li:=(a0B.mp eb).1
  obtain⟨u,eu⟩: ∃u,(a2b fam x)[i]? =some u:=⟨_,a0A (by lia)⟩
  have hb:=g _ _ (Tw3.is i b u eb eu)
  refine⟨a1c,_,rfl,_,rfl,b,wl,u,cs,a2b fam x,rfl,hb,g _ _ ewl,Tw3.same g,l5 u (wfam u (a0E eu)),lw,fun H5 g5=>⟨_,rfl,?_⟩⟩
  have z:=a6s (Td.same g5) eu (g5 _ _ hb)
  cases c2:a2v (a2b fam x) u with
  |true=>
   rw[c2,if_neg (by decide)]at z;exact b0d ⟨g.trans g5,ds,rfl,by lia,z⟩
  |false=>
   rw[c2,if_pos (by decide)]at z;exact b0n ⟨_,rfl,g.trans g5,ds++[b],by simp,by simp;exact e,z⟩
 obtain⟨g4,ds,rfl,_,Td⟩:=p
 rw[a0D,lc,a1Q]at Td
 have kD:=a0d hD (.lst (ds.map V.ref))
 have gg:=g3.trans (g4.trans kD)
 refine q D ds _ fam _ (k1.trans gg.keeps) (T1.same gg) ?_ a0a (Td.same kD) ff rfl
 cases y:L2.noT H D with
 |none=>rfl
 |some o=>
  have z:=(g3.trans g4) _ _ (k1 _ _ y)
  rw[hD]at z
  cases z
def Rch(ts:LN)(x y:Nsq):Prop:= ∃word:Nsq,(∀l∈word,l<ts.length)/\a2l (a0m ts) x word=y
open Classical in
noncomputable def rch (ts:LN) (x y:Nsq):Bool:=decide (Rch ts x y)
theorem rch_iff{ts:LN}{x y:Nsq}:rch ts x y=true↔Rch ts x y:=by
 unfold rch
 exact @decide_eq_true_iff _ (Classical.propDecidable _)
theorem Rch.refl(ts:LN)(x:Nsq):Rch ts x x:=⟨[],fun _ h=>(nomatch h),rfl⟩
theorem Rch.trans{ts:LN}{x y z:Nsq}(a:Rch ts x y)(b:Rch ts y z):Rch ts x z:=by
 obtain⟨u,h1,rfl⟩:=a
 obtain⟨v,h2,rfl⟩:=b
 refine⟨u++v,fun l hl=>(a0L.mp hl).elim (h1 l) (h2 l),?_⟩
 unfold a2l
 rw[a3W]
theorem b2t{ts:LN}{x:Nsq}{ws:TW}(T:Told (a0m ts) ts.length x ws)(y:Nsq):y∈ws.map (·.1)↔Rch ts x y:=by
 constructor
 ·intro h
  obtain⟨p,hp,rfl⟩:=a0Q.mp h
  obtain⟨r1,r2⟩:=T.run p hp
  exact⟨p.2,r1,r2⟩
 ·rintro⟨word,h1,rfl⟩
  obtain⟨u,h2,_⟩:=T.least _ word rfl h1
  exact a0Q.mpr ⟨_,h2,rfl⟩
abbrev WE:=Addr×TW×As
def kvW(xs:LN)(ys:List WE):List (List Key×V):=a2u (xs.map fun x=>(x,[])) (ys.map (·.1))
structure WB(H:Hp)(D:Addr)(ts:LN)(xs:LN)(ys:List WE):Prop where
 len:ys.length=xs.length
 each: ∀(i:Nat) (x:Nsq) (y:WE),xs[i]? =some x->ys[i]? =some y->WordsAt H y.1 y.2.1 y.2.2/\Told (a0m ts) ts.length x y.2.1/\y.1≠D
 nd:xs.Nodup
theorem WB.same{H H':Hp}{D:Addr}{ts xs:LN}{ys:List WE}(h:WB H D ts xs ys)(g:Same H H'):WB H' D ts xs ys:=⟨h.len,fun i x y e1 e2=>let⟨a,b⟩:=h.each i x y e1 e2;⟨a.same g,b⟩,h.nd⟩
theorem b6n{H H':Hp}{D:Addr}{ws:TW}{as:As}(W:WordsAt H D ws as)(g:Keeps H H'):WordsAt H' D ws as:=⟨W.len,g _ _ (nU W.dict),fun j a p h1 h2=>g _ _ (nU (W.list j a p h1 h2))⟩
theorem WB.keeps{H H':Hp}{D:Addr}{ts xs:LN}{ys:List WE}(h:WB H D ts xs ys)(g:Keeps H H'):WB H' D ts xs ys:=⟨h.len,fun i x y e1 e2=>let⟨a,b⟩:=h.each i x y e1 e2;⟨b6n a g,b⟩,h.nd⟩
theorem a6t{xs:LN}{ys:List WE}(h:ys.length=xs.length):(kvW xs ys).map (·.1)=xs.map nk:=by
 unfold kvW L2.a2u
 induction xs generalizing ys with
 |nil=>rfl
 | cons x xs ih=>
  cases ys with
  |nil=>simp at h
  |cons y ys=>
   have z:=ih (ys:=ys) (by simpa using h);simp only[List.map_cons,List.zipWith_cons_cons];rw[z]
theorem WB.off{H:Hp}{D:Addr}{ts xs:LN}{ys:List WE}{kvs:List (List Key×V)}{o:HO}(h:WB H D ts xs ys)(hD:H D=some (.dT kvs)):WB (upd H D o) D ts xs ys:=by
 refine⟨h.len,fun i x y e1 e2=>?_,h.nd⟩
 obtain⟨a,b,c⟩:=h.each i x y e1 e2
 refine⟨⟨a.len,by rw[a0c c];exact a.dict,fun j l p h1 h2=>?_⟩,b,c⟩
 have z:=a.list j l p h1 h2
 rw[a0c (nE z hD)]
 exact z
theorem b6o(xs:LN):((xs.map fun x=>((x,[]):Nsq×Nsq)).map (·.1))=xs:=by
 rw[a3O]
 exact List.map_id' xs
theorem WB.get{H:Hp}{D b:Addr}{ts xs:LN}{ys:List WE}{x:Nsq}(h:WB H D ts xs ys)(hD:Rd H D (.dT (kvW xs ys)))(hx:x∈xs)(hb:H b=some (.tup (x.map nv))): ∃W ws as,DGet H D (.ref b) (some (.ref W))/\WordsAt H W ws as/\Told (a0m ts) ts.length x ws/\ ∃i:Nat,xs[i]? =some x/\ys[i]? =some (W,ws,as):=by
 obtain⟨i,ei⟩:=a1A.mp hx
 have li:=(a0B.mp ei).1
 have hl:=h.len
 obtain⟨y,ey⟩: ∃y,ys[i]? =some y:=⟨_,a0A (by lia)⟩
 obtain⟨a,t,_⟩:=h.each i x y ei ey
 have v:b1l (kvW xs ys) (nk x)=some (.ref y.1):=c3n (p:=(x,[])) (by rw[b6o];exact h.nd) (by rw[a0G,ei];rfl) (by rw[a0G,ey];rfl)
 exact⟨y.1,y.2.1,y.2.2,.inr ⟨_,_,b,hD,rfl,by rw[a5r];exact hb,v.symm⟩,a,t,i,ei,ey⟩
theorem b2u{H:Hp}{W c:Addr}{ts:LN}{ws:TW}{as:As}{x y:Nsq}(a:WordsAt H W ws as)(t:Told (a0m ts) ts.length x ws)(hc:H c=some (.tup (y.map nv))): ∃o,DGet H W (.ref c) o/\o.isSome=rch ts x y:=by
 refine⟨_,.inr ⟨_,nk y,c,.inl a.dict,rfl,by rw[a5r];exact hc,rfl⟩,?_⟩
 by_cases m:y∈ws.map (·.1)
 ·rw[rch_iff.mpr ((b2t t y).mp m)]
  obtain⟨p,hp,rfl⟩:=a0Q.mp m
  obtain⟨l,e,_⟩:=a.word t.keys hp
  rw[e]
  rfl
 ·rw[b0t m]
  cases z:rch ts x y with
  |false=>rfl
  |true=>exact absurd ((b2t t y).mpr (rch_iff.mp z)) m
noncomputable def alike (ts xs:LN) (x:Nsq):LN:=xs.filter fun y=>rch ts x y&&rch ts y x
noncomputable def classes (ts xs:LN):L3q:=(xs.filter fun x=>(alike ts xs x).head? ==some x).map (alike ts xs)
def big(fam:LN):LN:=fam.filter fun x=>decide (1<x.length)
def a5m(T:Addr)(pos:Pos):Sp:=fun vs H Q _=> ∃(m:Addr) (ts:LN) (n:Nat),vs=[.ref m]/\Mach H m ts n/\Tabs H/\
 ∀D fam ys H',Keeps H H'->Tabs H'->L2.noT H D=none->FamOf ts n fam->H' D=some (.dT (kvW (big fam) ys))->WB H' D ts (big fam) ys->(∀y∈ys,∀b∈y.2.2,L2.noT H b=none)->ys.Pairwise (fun p q=> ∀b∈p.2.2,b∉q.2.2)->Q (.ref D) H'
def c4z:Sp:=fun vs H Q _=> ∃(D p:Addr) (o:Obj) (ts xs:LN) (ys:List WE) (x:Nsq),vs=[.ref D,.ref p]/\H D=some (.frz o (.dT (kvW xs ys)))/\WB H D ts xs ys/\H p=some (.tup (x.map nv))/\x∈xs/\xs.length<=32/\
 ∀l bs H',Same H H'->H l=none->H' l=some (.lst (bs.map .ref))->TupsAt H' bs (alike ts xs x)->Q (.ref l) H'
theorem a8c{T:Addr}(F:Fun K "words_between" "words_between" a4d f fd)(c_family:a0q P w K mg base "family" 14 ["machine"] (b2s T (⟨49,40,49,93⟩:Pos)))(c_sets_reached:a0q P w K mg base "sets_reached" 10 ["machine","rooms"] (a4i T (⟨49,40,49,93⟩:Pos)))(m_len:mg "len"=none):FnOk P w K mg base CX0 16 f fd ["machine"] (a5m T (⟨49,40,49,93⟩:Pos)):=by
 refine F.ok scWordsBetween (fun vs H Q E h=>?_) (fun cdv A outer s H vs Q E hr h=>?_)
 ·obtain⟨m,ts,n,rfl,_⟩:=h
  rfl
 obtain⟨m,ts,n,rfl,M,hT,q⟩:=h
 have hu:=hr.units
 have hu1:=a7w hr
 refine⟨_,(a0g (a0u (i:=1) scWordsBetween.nd rfl (Or.inl rfl) a6d) (a0g (a2w a2E rfl (a1i (a0k c_family hr.m rfl (a0f (pv 0) a0i))) (a1a (i:=2) scWordsBetween.nd rfl (Or.inl rfl)) (a0j (a5n (a1r c6f (a0n a0l rfl m_len a4F (a0f (pv 2) a0i)) a0p (a1u _)) (a0j (a6z hu1 (pv 1) (pv 2) (a0k c_sets_reached hr.m rfl (a0y (a0b (pv 0) (a0b (pv 2) a0r rfl) rfl))) rfl)) a2m))) (a0j (a0w (pv 1))))),?_⟩
 intro D hD
 have kD:=a0d hD (.dT [])
 refine⟨_,rfl,m,ts,n,rfl,M.same kD,hT.same kD,fun so fs fam H1 k1 T1 nso eso Tf ff=>?_⟩
 have eD1:=k1 _ _ (nU (a0a:upd H D (.dT []) D=_))
 have k01:=kD.keeps.trans k1
 have lf:=Tf.len
 have few:=ff.few M
 have fnd:fam.Nodup:=ff.up.imp fun {a b} z e=>by
  subst e
  rw[(a2t gl fam).irr]at z
  cases z
 have nDT:=b1t hD
 let Pv:Nat->L2.St->Hp->Prop:=fun i σ H'=>Keeps H H'/\Tabs H'/\H' so=some (.lst (fs.map .ref))/\TupsAt H' fs fam/\ ∃ys o2,H' D=some (.dT (kvW (big (fam.take i)) ys))/\WB H' D ts (big (fam.take i)) ys/\(∀y∈ys,∀b∈y.2.2,L2.noT H b=none)/\ys.Pairwise (fun p q=> ∀b∈p.2.2,b∉q.2.2)/\σ=[some (.ref m),some (.ref D),o2]
 refine⟨so,rfl,⟨_,SqL.of eso⟩,a3z (xs:=fs.map .ref) Pv ⟨k01,T1,eso,Tf,[],none,eD1,⟨rfl,fun i x y e=>by simp[big]at e,List.nodup_nil⟩,fun _ h=>(nomatch h),.nil,rfl⟩ (fun i σ H' _ p=>SqL.of p.2.2.1) (fun i v σ H2 hv p=>?_) (fun σ H2 p=>?_)⟩
 ·obtain⟨k2,T2,es2,Tf2,ys,o2,eD2,wb,nw,ap,rfl⟩:=p
  rw[a0G]at hv
  obtain⟨b,eb,rfl⟩:=a0O.mp hv
  have li:=(a0B.mp eb).1
  obtain⟨x,ex⟩: ∃x,fam[i]? =some x:=⟨_,a0A (by lia)⟩
  have hb:=Tf2.is i b x eb ex
  have mx:=a0E ex
  have nx:big (fam.take (i+1))=big (fam.take i)++(if 1<x.length then[x]else[]):=by
   unfold big;rw[a1V,ex,a4T];by_cases c:1<x.length
   ·rw[if_pos c]
    simp[c]
   ·rw[if_neg c]
    simp[c]
  refine⟨_,rfl,b,_,rfl,.inr (SqT.of hb),_,_,rfl,rfl,_,rfl,c6p (fun c=>?_) (fun c=>?_)⟩
  ·have c1:1<x.length:=by
    have z:=a2F c;rw[a0D]at z;lia
   rw[if_pos c1]at nx;refine⟨_,rfl,_,rfl,m,b,ts,n,x,rfl,M.keeps k2,hb,ff.inU M mx,T2,fun W ws as H3 k3 T3 Wd nw3 TT=>?_⟩;have eD3:=k3 _ _ (nU eD2);have hb3:=k3 _ _ (nU hb);have wb3:=wb.keeps k3;have WD:W≠D:=fun z=>by
    subst z;have z2:=nw3 W (a0S ..);rw[nU eD2]at z2;cases z2
   have xn:x∉big (fam.take i):=fun h=>by
    have h1:=(a1O.mp h).1;obtain⟨j,ej⟩:=a1A.mp h1;have lj:=(a0B.mp ej).1;rw[a1N]at lj;rw[a4Z (by lia)]at ej;have:=(a2G (by lia) fnd).mp (ej.trans ex.symm)
    lia
   have vn:b1l (kvW (big (fam.take i)) ys) (nk x)=none:=b0t (by rw[b6o];exact xn);have lk:(kvW (big (fam.take i)) ys).length<sizeLine:=by
    rw[<-a0D (f:=(·.1)),a6t wb.len,a0D,a1B];have z1:(big (fam.take i)).length<=(fam.take i).length:=a1K _ _;rw[a1N]at z1;lia
   refine⟨_,rfl,_,rfl,D,_,rfl,DPut.t eD3 (by rw[a5r];exact hb3) lk,?_⟩;have es3:=k3 _ _ (nU es2);have Tf3:TupsAt H3 fs fam:=⟨Tf2.len,fun i b u e1 e2=>k3 _ _ (nU (Tf2.is i b u e1 e2))⟩;have ek:b3t (kvW (big (fam.take i)) ys) (nk x) (.ref W)=kvW (big (fam.take (i+1))) (ys++[(W,ws,as)]):=by
    rw[b1n _ vn,nx];unfold kvW;rw[a1G,a1G];exact(b1s (ws:=(big (fam.take i)).map fun x=>(x,[])) (as:=ys.map (·.1)) (p:=(x,[])) (a:=W) (by simp[wb.len])).symm
   have wo:=wb3.off (o:= .dT (kvW (big (fam.take (i+1))) (ys++[(W,ws,as)]))) eD3;have Wo:WordsAt (upd H3 D (.dT (kvW (big (fam.take (i+1))) (ys++[(W,ws,as)])))) W ws as:=⟨Wd.len,by rw[a0c WD];exact Wd.dict,fun j l p h1 h2=>by
    have z:=Wd.list j l p h1 h2;rw[a0c (nE z eD3)];exact z⟩
   rw[ek];refine⟨fun b' o hb'=>?_,?_,?_,?_,ys++[(W,ws,as)],_,a0a,⟨?_,fun j x' y' e1 e2=>?_,?_⟩,?_,?_,rfl⟩
   ·rw[a0c fun z=>?_]
    ·exact(k2.trans k3) _ _ hb'
    ·subst z
     rw[nDT]at hb';cases hb'
   ·exact T3.most fun b' u nd _ hb'=>by rw[a0c (a5k hb' eD3 fun e=>nd _ e)];exact hb'
   ·rw[a0c (nE es3 eD3)]
    exact es3
   ·exact a3q Tf3 eD3 fun _ e=>nomatch e
   ·rw[nx,a0M,a0M,wb.len]
    rfl
   ·rw[nx]at e1
    have hl:=wb.len;by_cases hj:j<ys.length
    ·rw[a0R (by lia)]at e1
     rw[a0R hj]at e2;exact wo.each j x' y' e1 e2
    ·rw[a0P (by lia)]at e1 e2
     have z:j-ys.length=0:=by
      have:=(a0B.mp e2).1
      simp at this;lia
     rw[<-hl,z]at e1;rw[z]at e2;cases e1;cases e2;exact⟨Wo,TT,WD⟩
   ·rw[nx,a8Y]
    refine⟨wb.nd,by simp,fun a ha c hc e=>xn ?_⟩;rw[a0H.mp hc]at e;rw[<-e];exact ha
   ·intro y hy b' hb'
    rcases a0L.mp hy with h|h
    ·exact nw y h b' hb'
    ·rw[a0H.mp h]at hb'
     have z:=nw3 b' (.tail _ hb');cases y2:L2.noT H b' with
     |none=>rfl
     |some o=>
      have z3:=k2 _ _ y2;rw[a7q z3 (b0u y2).2]at z;cases z
   ·rw[a1P]
    refine⟨ap,a3J _ _,fun p hp q' hq b' hb' hb2=>?_⟩;rw[a0H.mp hq]at hb2;have z:=nw3 b' (.tail _ hb2);obtain⟨j,ej⟩:=a1A.mp hp;have lj:=(a0B.mp ej).1;have hl:=wb.len;obtain⟨x',ex'⟩: ∃x',(big (fam.take i))[j]? =some x':=⟨_,a0A (by lia)⟩;obtain⟨a',_⟩:=wb.each j x' p ex' ej;obtain⟨j2,ej2⟩:=a1A.mp hb';have lj2:=(a0B.mp ej2).1;have z2:=a'.list j2 b' _ ej2 (a0A (by rw[<-a'.len];exact lj2));rw[nU z2]at z;cases z
  ·have c1: ¬1<x.length:=by
    have z:=a8V (a8Z.mpr c);rw[a0D]at z;lia
   rw[if_neg c1,a2K]at nx;refine⟨k2,T2,es2,Tf2,ys,_,?_,?_,nw,ap,rfl⟩
   ·rw[nx]
    exact eD2
   ·rw[nx]
    exact wb
 ·obtain⟨k2,T2,es2,Tf2,ys,o2,eD2,wb,nw,ap,rfl⟩:=p
  rw[a0D,lf,a1Q]at eD2 wb
  exact⟨_,rfl,q D fam ys H2 k2 T2 nDT ff eD2 wb nw ap⟩
theorem c8g(F:Fun K "alike_sets" "alike_sets" a5i f fd):FnOk P w K mg base CX0 1 f fd ["words","rooms"] c4z:=by
 refine F.ok b6g (fun vs H Q E h=>?_) (fun cdv A outer s H vs Q E hr h=>?_)
 ·obtain⟨D,p,o,ts,xs,ys,x,rfl,_⟩:=h
  rfl
 obtain⟨D,p,o,ts,xs,ys,x,rfl,hD,wb,hp,hx,few,q⟩:=h
 have hu:=hr.units
 have hu1:=a7w hr
 refine⟨_,(a0j (a0w (a1d (CompSc.to (N:=["words","rooms"]) (osc:=a0e a5i) (vs:=["other"]) {}) rfl rfl (c4e (pv 0)) (fun _ _ _ _=>a7a (PW.pt (b7d (c1b (c1z hu1 (pv 0) (a6y hu1 (pv 1) (pv 2) (fun _ _=>rfl)))) (b1i (c1b (c1z hu1 (pv 2) (a6y hu1 (pv 1) (pv 0) (fun _ _=>rfl)))))))) (fun _ _ _ _=>(pv 0))))),?_⟩
 refine⟨_,rfl,D,_,xs,rfl,a6t wb.len,.inr ⟨o,hD⟩,fun o' H2 fz=>?_⟩
 have e2:o'=o/\H2=H:=by
  rcases fz with⟨e,rfl⟩|⟨e,_⟩
  ·rw[hD]at e
   injection e with e
   injection e with e _
   exact⟨e.symm,rfl⟩
  ·rw[hD]at e
   cases e
 obtain⟨rfl,rfl⟩:=e2
 have rd:Rd H2 D (.dT (kvW xs ys)):= .inr ⟨_,hD⟩
 refine c4f (a6t wb.len) (fun i ys' H'=>H'=H2/\ ∃cs,ys'=cs.map V.ref/\cs.length<=i/\TupsAt H2 cs ((xs.take i).filter fun y=>rch ts x y&&rch ts y x)) (by rw[a1B];lia) ⟨rfl,[],rfl,a0J _,rfl,fun i b u e=>by simp at e⟩ (fun i ys' H' _ p'=>?_) (fun i a t ys' H' et ha p'=>?_) (fun ys' H' p' c1 hc1=>?_)
 ·obtain⟨rfl,cs,rfl,e,_⟩:=p'
  exact⟨hD,by rw[a0D];exact e⟩
 ·obtain⟨rfl,cs,rfl,e,Tc⟩:=p'
  have z:=a6s (f:=fun y=>rch ts x y&&rch ts y x) Tc et ha
  obtain⟨W,ws,as,dg,wa,tt,_⟩:=wb.get rd hx hp
  obtain⟨o1,d1,s1⟩:=b2u wa tt ha
  have ht:=a0E et
  obtain⟨W2,ws2,as2,dg2,wa2,tt2,_⟩:=wb.get rd ht ha
  obtain⟨o2,d2,s2⟩:=b2u wa2 tt2 hp
  refine⟨a1c,_,rfl,_,rfl,_,rfl,D,_,rfl,dg,W,o1,rfl,d1,_,rfl,?_⟩
  rw[s1]
  cases c1:rch ts x t with
  |false=>
   rw[c1,Bool.false_and,if_neg (by decide)]at z;exact b0d (b0d ⟨rfl,cs,rfl,by lia,z⟩)
  | true=>
   rw[c1,a9C]at z;refine b0n ⟨_,rfl,_,rfl,_,rfl,D,_,rfl,dg2,W2,o2,rfl,d2,_,rfl,?_⟩;rw[s2];cases c2:rch ts t x with
   |true=>
    rw[c2,if_pos rfl]at z;exact b0n ⟨_,rfl,rfl,cs++[a],by simp,by simp;exact e,z⟩
   |false=>
    rw[c2,if_neg (by decide)]at z;exact b0d ⟨rfl,cs,rfl,by lia,z⟩
 ·obtain⟨rfl,cs,rfl,_,Tc⟩:=p'
  rw[a1Q]at Tc
  have kc:=a0d hc1 (.lst (cs.map V.ref))
  exact q c1 cs _ kc hc1 a0a (Tc.same kc)
structure LsAt(H:Hp)(as:As)(cs:L3q):Prop where
 len:as.length=cs.length
 is: ∀(i:Nat) (a:Addr) (c:LN),as[i]? =some a->cs[i]? =some c-> ∃bs:As,H a=some (.lst (bs.map .ref))/\TupsAt H bs c
theorem LsAt.same{H H':Hp}{as:As}{cs:L3q}(h:LsAt H as cs)(g:Same H H'):LsAt H' as cs:=⟨h.len,fun i a c e1 e2=>let⟨bs,h1,h2⟩:=h.is i a c e1 e2;⟨bs,g _ _ h1,h2.same g⟩⟩
theorem LsAt.off{H:Hp}{l:Addr}{xs:List V}{o:HO}{as:As}{cs:L3q}(h:LsAt H as cs)(hl:H l=some (.lst xs))(no:l∉as):LsAt (upd H l o) as cs:=⟨h.len,fun i a c e1 e2=>by
 obtain⟨bs,h1,h2⟩:=h.is i a c e1 e2
 refine⟨bs,?_,a3q h2 hl fun _ e=>nomatch e⟩
 rw[a0c fun(z:a=l)=>no (by rw[<-z];exact a0E e1)]
 exact h1⟩
theorem LsAt.snoc{H:Hp}{as:As}{cs:L3q}{a:Addr}{c:LN}{bs:As}(h:LsAt H as cs)(ha:H a=some (.lst (bs.map .ref)))(T:TupsAt H bs c):LsAt H (as++[a]) (cs++[c]):=by
 refine⟨by simp[h.len],fun i b v e1 e2=>?_⟩
 have l:=h.len
 by_cases hi:i<cs.length
 ·rw[a0R (by lia)]at e1 e2
  exact h.is i b v e1 e2
 ·rw[a0P (by lia)]at e1 e2
  have z:i-cs.length=0:=by
   have:=(a0B.mp e2).1
   simp at this;lia
  rw[l,z]at e1
  rw[z]at e2
  cases e1
  cases e2
  exact⟨bs,ha,T⟩
theorem b1a{ts xs:LN}{x:Nsq}(hx:x∈xs):x∈alike ts xs x:=a1O.mpr ⟨hx,by rw[rch_iff.mpr (Rch.refl ts x)];rfl⟩
def b8q:Sp:=fun vs H Q _=> ∃(D:Addr) (ts xs:LN) (ys:List WE),vs=[.ref D]/\H D=some (.dT (kvW xs ys))/\WB H D ts xs ys/\xs.length<=32/\
 ∀l o as H',Same (upd H D (.frz o (.dT (kvW xs ys)))) H'->H l=none->H' l=some (.lst (as.map .ref))->LsAt H' as (classes ts xs)->(∀a∈as,H a=none)->Q (.ref l) H'
theorem c0r(F:Fun K "sets_of_levels" "sets_of_levels" a4e f fd)(c_alike_sets:a0q P w K mg base "alike_sets" 1 ["words","rooms"] c4z):FnOk P w K mg base CX0 3 f fd ["words"] b8q:=by
 refine F.ok scSetsOfLevels (fun vs H Q E h=>?_) (fun cdv A outer s H vs Q E hr h=>?_)
 ·obtain⟨D,ts,xs,ys,rfl,_⟩:=h
  rfl
 obtain⟨D,ts,xs,ys,rfl,hD,wb,few,q⟩:=h
 have hu:=hr.units
 have hu1:=a7w hr
 refine⟨_,(a0g (a0u (i:=1) scSetsOfLevels.nd rfl (Or.inl rfl) (a2r a0i)) (a0g (a2w a2E rfl (c4e (pv 0)) (a1a (i:=2) scSetsOfLevels.nd rfl (Or.inl rfl)) (a0g (a0u (i:=3) scSetsOfLevels.nd rfl (Or.inl rfl) (a0k c_alike_sets hr.m rfl (a0y (a0b (pv 0) (a0b (pv 2) a0r rfl) rfl)))) (a0j (a5n (a1r (b7p hu) (a1h a2f (pv 3) a0p (fun _ _=>rfl)) (pv 2) (a1u _)) (a0j (a2n (a6x a1T a2B a2C a1l (pv 1) (a0f (pv 3) a0i)))) a2m)))) (a0j (a0w (pv 1))))),?_⟩
 refine⟨by show 0<=sizeLine;decide,fun fo hfo=>?_⟩
 have kf:=a0d hfo (.lst [])
 have hD1:=kf _ _ hD
 have foD:fo≠D:=(a0h hD hfo).symm
 refine⟨_,rfl,D,_,xs,rfl,a6t wb.len,.inl hD1,fun o H2 fz=>?_⟩
 have e2:H2=upd (upd H fo (.lst [])) D (.frz o (.dT (kvW xs ys))):=by
  rcases fz with⟨e,_⟩|⟨_,e⟩
  ·rw[hD1]at e
   cases e
  ·exact e
 have gz:Same (upd H D (.frz o (.dT (kvW xs ys)))) H2:=fun b u hb=>by
  rw[e2]
  by_cases z:b=D
  ·subst z
   rw[a0a]at hb⊢;exact hb
  ·rw[a0c z]at hb⊢
   exact kf _ _ hb
 have wz:WB (upd H D (.frz o (.dT (kvW xs ys)))) D ts xs ys:=wb.off hD
 have foz:H2 fo=some (.lst []):=by rw[e2,a0c foD,a0a]
 have nfo:upd H D (.frz o (.dT (kvW xs ys))) fo=none:=by rw[a0c foD];exact hfo
 clear e2 fz
 let Pv:Nat->L2.St->Hp->Prop:=fun i σ H'=>Same (upd H D (.frz o (.dT (kvW xs ys)))) H'/\ ∃as o2 o3,H' fo=some (.lst (as.map .ref))/\fo∉as/\(∀a∈as,H a=none)/\as.length<=i/\LsAt H' as (((xs.take i).filter fun x=>(alike ts xs x).head? ==some x).map (alike ts xs))/\σ=[some (.ref D),some (.ref fo),o2,o3]
 refine c7y (a6t wb.len) Pv ⟨gz,[],none,none,foz,by simp,(fun _ h=>nomatch h),Nat.le_refl _,⟨rfl,fun i a c e=>by simp at e⟩,rfl⟩ (fun i σ H' _ p=>p.1 _ _ a0a) (fun i a x σ H3 ex ha p=>?_) (fun σ H3 p=>?_)
 ·obtain⟨g3,as,o2,o3,fo3,nfa,fr3,lim,L3,rfl⟩:=p
  have mx:=a0E ex
  refine⟨_,rfl,_,rfl,D,a,o,ts,xs,ys,x,rfl,g3 _ _ a0a,wz.same g3,ha,mx,few,fun l bs H4 g4 nl el Tl=>?_⟩
  have lb:=Tl.len
  have self:=b1a (ts:=ts) mx
  obtain⟨y,rest,ea⟩: ∃y rest,alike ts xs x=y::rest:=by
   cases z:alike ts xs x with
   |nil=>rw[z]at self;cases self
   |cons y rest=>exact⟨y,rest,rfl⟩
  have b1:0<bs.length:=by
   rw[lb,ea]
   simp
  obtain⟨b,eb⟩: ∃b,bs[0]? =some b:=⟨_,a0A b1⟩
  have hb:H4 b=some (.tup (y.map nv)):=Tl.is 0 b y eb (by rw[ea];rfl)
  have hat:atI (bs.map V.ref) ((0:Nat):Int)=some (.ref b):=a3r (by rw[a0G,eb];rfl)
  have nx:((xs.take (i+1)).filter fun x=>(alike ts xs x).head? ==some x).map (alike ts xs)=((xs.take i).filter fun x=>(alike ts xs x).head? ==some x).map (alike ts xs)++(if y=x then[alike ts xs x]else[]):=by
   rw[a1V,ex,a4T,a1G];by_cases c:y=x
   ·rw[if_pos c]
    simp[ea,c]
   ·rw[if_neg c]
    simp[ea,c]
  refine⟨_,rfl,l,_,_,_,rfl,rfl,SqL.of el,hat,_,rfl,b,a,0,_,_,rfl,rfl,a7c (SqT.of hb),a7c (SqT.of (g4 _ _ ha)),by decide,fun c hc=>⟨_,rfl,?_⟩⟩
  have fo4:=g4 _ _ fo3
  have lfo:l≠fo:=(a0h fo3 nl).symm
  have nlH:H l=none:=by
   cases z:H l with
   |none=>rfl
   | some u=>
    by_cases e:l=D
    ·have z2:=g3 _ _ (a0a (H:=H) (a:=D) (o:= .frz o (.dT (kvW xs ys))))
     rw[<-e,nl]at z2;cases z2
    ·have z2:=g3 l u (by rw[a0c e];exact z)
     rw[nl]at z2;cases z2
  by_cases e:y=x
  ·have hc':c=true:=hc.mpr (dt_natsT.mpr e)
   subst hc';rw[if_pos e]at nx;refine b0n ⟨_,rfl,.inl ⟨rfl,_,SqL.of fo4⟩,_,rfl,fo,_,_,rfl,rfl,fo4,by rw[a0D,a1B];have:=(a0B.mp ex).1;lia,?_⟩;have L4:=(L3.same g4).snoc el Tl;have na:fo∉as++[l]:=fun z=>(a0L.mp z).elim nfa fun z=>lfo (a0H.mp z).symm
   refine⟨a1b (g3.trans g4) nfo,as++[l],_,_,by rw[a0a,a1G];rfl,na,(fun a ha=>(a0L.mp ha).elim (fr3 a) fun z=>by rw[a0H.mp z];exact nlH),by rw[a0M];simp;lia,?_,rfl⟩;rw[nx];exact L4.off fo4 na
  ·have hc':c=false:=by
    cases c with
    |false=>rfl
    |true=>exact absurd (dt_natsT.mp (hc.mp rfl)) e
   subst hc';rw[if_neg e,a2K]at nx;refine b0d ⟨g3.trans g4,as,_,_,fo4,nfa,fr3,by lia,?_,rfl⟩;rw[nx];exact L3.same g4
 ·obtain⟨g3,as,o2,o3,fo3,nfa,fr3,lim,L3,rfl⟩:=p
  rw[a1Q]at L3
  exact⟨_,rfl,q fo o as H3 g3 hfo fo3 L3 fr3⟩
noncomputable def ledTo (ts:LN) (cs:L3q) (c:LN):Bool:=cs.any fun d=>decide (d≠c)&&rch ts (d.headD []) (c.headD [])
theorem a8r{K:W.Frag}{H:Hp}{a:Addr}{bs:As}{c:LN}{n:Nat}(h1:H a=some (.lst (bs.map .ref)))(T:TupsAt H bs c):Rep K H (n+2) (.lst (c.map fun u=> .tup (dtN u))) (.ref a):=by
 refine .lst (SqL.of h1) (by rw[a0D,a0D,T.len]) fun i d v e1 e2=>?_
 rw[a0G]at e1 e2
 obtain⟨p,ep,rfl⟩:=a0O.mp e1
 obtain⟨a,ea,rfl⟩:=a0O.mp e2
 exact a7c (SqT.of (T.is i a p ea ep))
theorem b2v{H:Hp}{bs:As}{c:LN}(T:TupsAt H bs c)(ne:c≠[]): ∃b,atI (bs.map V.ref) 0=some (.ref b)/\H b=some (.tup ((c.headD []).map nv))/\c.headD []∈c:=by
 have lb:=T.len
 obtain⟨y,rest,ea⟩: ∃y rest,c=y::rest:=by
  cases c with
  |nil=>exact absurd rfl ne
  |cons y rest=>exact⟨y,rest,rfl⟩
 subst ea
 obtain⟨b,eb⟩: ∃b,bs[0]? =some b:=⟨_,a0A (by rw[lb];simp)⟩
 have z:atI (bs.map V.ref) ((0:Nat):Int)=some (.ref b):=a3r (by rw[a0G,eb];rfl)
 exact⟨b,z,T.is 0 b y eb rfl,a0S ..⟩
def c5a:Sp:=fun vs H Q _=> ∃(D a l:Addr) (ts xs:LN) (ys:List WE) (c:LN) (cs:L3q) (bs as:As),vs=[.ref D,.ref a,.ref l]/\Rd H D (.dT (kvW xs ys))/\WB H D ts xs ys/\H a=some (.lst (bs.map .ref))/\TupsAt H bs c/\H l=some (.lst (as.map .ref))/\LsAt H as cs/\c≠[]/\(∀d∈cs,d≠[]/\ ∀x∈d,x∈xs)/\cs.length<=32/\
 ∀H',Same H H'->Q (.bl (ledTo ts cs c)) H'
theorem b5c(F:Fun K "is_led_to" "is_led_to" a8n f fd)(m_any:mg "any"=none):FnOk P w K mg base CX0 1 f fd ["words","sets","waiting"] c5a:=by
 refine F.ok c4n (fun vs H Q E h=>?_) (fun cdv A outer s H vs Q E hr h=>?_)
 ·obtain⟨D,a,l,ts,xs,ys,c,cs,bs,as,rfl,_⟩:=h
  rfl
 obtain⟨D,a,l,ts,xs,ys,c,cs,bs,as,rfl,rd,wb,ha,Ta,hl,L,cne,csx,few,q⟩:=h
 have hu:=hr.units
 have hu1:=a7w hr
 have la:=L.len
 obtain⟨b0,at0,hb0,_⟩:=b2v Ta cne
 refine⟨_,(a0j (a0w (a0n (b4g rfl) rfl m_any boot_any (a0f (a1d (CompSc.to (N:=["words","sets","waiting"]) (osc:=a0e a8n) (vs:=["other"]) {}) rfl rfl (a1i (pv 2)) (fun _ _ _ _=>a2h) (fun _ _ _ _=>(b3i (a5p (OpR.k (K:=K) (fun K=>d2d K true) (b3y hu) rfl) (pv 0) (pv 2) (a1u _)) (b3h (d2k (c1z hu1 (a1h (IxR.k (K:=K) rIxL a2f rfl) (pv 2) a0p (fun _ _=>rfl)) (a6y hu1 (pv 1) (a1h (IxR.k (K:=K) rIxL a2f rfl) (pv 0) a0p (fun _ _=>rfl)) (fun _ _=>rfl)))))))) a0i)))),?_⟩
 refine⟨_,rfl,l,rfl,⟨_,SqL.of hl⟩,a1v (xs:=as.map .ref) (fun i ys' H'=>H'=H/\ys'=((cs.take i).map fun d=>decide (d≠c)&&rch ts (d.headD []) (c.headD [])).map V.bl) (by rw[a0D,a1B];lia) ⟨rfl,rfl⟩ (fun i ys' H' hi p=>?_) (fun i v ys' H' hv p=>?_) (fun ys' H' p c1 hc1=>?_)⟩
 ·obtain⟨rfl,rfl⟩:=p
  exact⟨SqL.of hl,by simp;lia⟩
 ·obtain⟨rfl,rfl⟩:=p
  rw[a0G]at hv
  obtain⟨e,ee,rfl⟩:=a0O.mp hv
  have li:=(a0B.mp ee).1
  obtain⟨d,ed⟩: ∃d,cs[i]? =some d:=⟨_,a0A (by lia)⟩
  obtain⟨ds,he,Td⟩:=L.is i e d ee ed
  obtain⟨dne,dx⟩:=csx d (a0E ed)
  obtain⟨b1,at1,hb1,m1⟩:=b2v Td dne
  have nx:((cs.take (i+1)).map fun d=>decide (d≠c)&&rch ts (d.headD []) (c.headD [])).map V.bl=((cs.take i).map fun d=>decide (d≠c)&&rch ts (d.headD []) (c.headD [])).map V.bl++[V.bl (decide (d≠c)&&rch ts (d.headD []) (c.headD []))]:=by
   rw[a1V,ed,a1G,a1G];rfl
  refine⟨a1c,a4k ?_⟩
  refine⟨_,rfl,_,rfl,e,a,1,_,_,rfl,rfl,a8r he Td,a8r ha Ta,by decide,fun cc hc=>?_⟩
  by_cases ec:d=c
  ·have hc':cc=true:=hc.mpr (by rw[ec])
   subst hc';refine⟨_,rfl,b0d ⟨rfl,?_⟩⟩;rw[nx,a1L (fun z=>z ec)];rfl
  ·have hc':cc=false:=by
    cases cc with
    |false=>rfl
    |true=>exact absurd (c4w (hc.mp rfl)) ec
   subst hc';obtain⟨W,ws,wa,dg,wt,tt,_⟩:=wb.get rd (dx _ m1) hb1;obtain⟨o1,d1,s1⟩:=b2u wt tt hb0;refine⟨_,rfl,b0n ⟨_,rfl,a,_,_,_,rfl,rfl,SqL.of ha,at0,_,rfl,_,rfl,e,_,_,_,rfl,rfl,SqL.of he,at1,D,_,rfl,dg,W,o1,rfl,d1,rfl,?_⟩⟩;rw[nx,a1E ec,a9C,s1]
 ·obtain⟨rfl,rfl⟩:=p
  rw[a0D,la,a1Q]
  have e2:(cs.map fun d=>decide (d≠c)&&rch ts (d.headD []) (c.headD [])).any id=ledTo ts cs c:=by
   unfold ledTo;rw[a9K];rfl
  refine⟨c1,_,rfl,SqL.of a0a,?_⟩
  try dsimp only
  rw[e2]
  exact q _ (a0d hc1 _)
inductive Ord (ts:LN):L3q->List LN->Prop
 |nil:Ord ts [] []
 |cons {cs told:L3q} {s:LN} (h:(cs.filter fun c=> !ledTo ts cs c).head? =some s) (r:Ord ts (cs.filter fun c=>decide (c≠s)) told):Ord ts cs (s::told)
def b8r(ts:LN)(cs:L3q):Prop:= ∀c∈cs,∀d∈cs,rch ts (c.headD []) (d.headD [])=true->rch ts (d.headD []) (c.headD [])=true->c=d
theorem b8s{α:Type}{xs:List α}{p q:α->Bool}(h: ∀z∈xs,p z=true->q z=true)(e: ∃z∈xs,q z=true/\p z=false):xs.countP p<xs.countP q:=by
 induction xs with
 |nil=>
  obtain⟨z,hz,_⟩:=e
  cases hz
 | cons x xs ih=>
  rw[a8A,a8A]
  have mono:xs.countP p<=xs.countP q:=List.countP_mono_left fun z hz hp=>h z (.tail _ hz) hp
  obtain⟨z,hz,h1,h2⟩:=e
  rcases a1C.mp hz with rfl|hz
  ·rw[h1,h2]
   simp
   lia
  ·have:=ih (fun z hz=>h z (.tail _ hz)) ⟨z,hz,h1,h2⟩
   have hx:=h x (a0S ..);cases c1:p x with
   |true=>
    rw[hx c1]
    simp
    lia
   |false=>
    simp
    split<;>lia
theorem b8t{ts:LN}{cs:L3q}(un:b8r ts cs): ∀(k:Nat) (s:LN),s∈cs->cs.countP (fun t=>rch ts (t.headD []) (s.headD []))<=k-> ∃s∈cs,ledTo ts cs s=false
 |0,s,hs,hk=>by
  have z:0<cs.countP (fun t=>rch ts (t.headD []) (s.headD [])):=List.countP_pos_iff.mpr ⟨s,hs,rch_iff.mpr (Rch.refl ts _)⟩
  lia
 | k+1,s,hs,hk=>by
  cases c:ledTo ts cs s with
  |false=>exact⟨s,hs,c⟩
  | true=>
   obtain⟨d,hd,h1⟩:=a7W.mp c;rw[a2Y,a6Z]at h1;obtain⟨ne,r⟩:=h1;have lt:=b8s (xs:=cs) (p:=fun t=>rch ts (t.headD []) (d.headD [])) (q:=fun t=>rch ts (t.headD []) (s.headD [])) (fun z _ hz=>rch_iff.mpr ((rch_iff.mp hz).trans (rch_iff.mp r))) ⟨s,hs,rch_iff.mpr (Rch.refl ts _),by
    cases z:rch ts (s.headD []) (d.headD [])with
    |false=>rfl
    |true=>exact absurd (un d hd s hs r z) ne⟩
   exact b8t un k d hd (by lia)
theorem c5b{H:Hp}{es as:As}{cs:L3q}{f:LN->Bool}{i:Nat}{a:Addr}{c:LN}(L:LsAt H es ((cs.take i).filter f))(ec:cs[i]? =some c){bs:As}(ha:H a=some (.lst (bs.map .ref)))(T:TupsAt H bs c):if f c=true then LsAt H (es++[a]) ((cs.take (i+1)).filter f)else LsAt H es ((cs.take (i+1)).filter f):=by
 have nx:(cs.take (i+1)).filter f=(cs.take i).filter f++(if f c=true then[c]else[]):=by
  rw[a1V,ec,a4T]
  cases z:f c with
  |true=>simp[z]
  |false=>simp[z]
 by_cases z:f c=true
 ·rw[if_pos z,nx,if_pos z]
  exact L.snoc ha T
 ·rw[if_neg z,nx,if_neg z,a2K]
  exact L
def b1b:Sp:=fun vs H Q _=> ∃(D l:Addr) (ts xs:LN) (ys:List WE) (cs:L3q) (as:As),vs=[.ref D,.ref l]/\Rd H D (.dT (kvW xs ys))/\WB H D ts xs ys/\H l=some (.lst (as.map .ref))/\LsAt H as cs/\(∀d∈cs,d≠[]/\ ∀x∈d,x∈xs)/\b8r ts cs/\cs.length<=32/\
 ∀l2 as2 told H',Same H H'->H l2=none->H' l2=some (.lst (as2.map .ref))->LsAt H' as2 told->Ord ts cs told->told.length<=32->(∀d∈told,d∈cs)->(∀a∈as2,a∈as)->Q (.ref l2) H'
theorem c5c{H H':Hp}{a:Addr}{u:HO}(h:Rd H a u)(g:Same H H'):Rd H' a u:=h.elim (fun e=> .inl (g _ _ e)) fun⟨o,e⟩=> .inr ⟨o,g _ _ e⟩
theorem a6u(F:Fun K "levels_in_order" "levels_in_order" a1x f fd)(c_is_led_to:a0q P w K mg base "is_led_to" 1 ["words","sets","waiting"] c5a):FnOk P w K mg base CX0 3 f fd ["words","waiting"] b1b:=by
 refine F.ok scLevelsInOrder (fun vs H Q E h=>?_) (fun cdv A outer s H vs Q E hr h=>?_)
 ·obtain⟨D,l,ts,xs,ys,cs,as,rfl,_⟩:=h
  rfl
 obtain⟨D,l0,ts,xs,ys,cs0,as0,rfl,rd,wb,hl0,L0,csx,un,few,q⟩:=h
 have hu:=hr.units
 have hu1:=a7w hr
 refine⟨_,(a0g (a0u (i:=2) scLevelsInOrder.nd rfl (Or.inl rfl) (a2r a0i)) (a0g (b7g a2E (b7i (pv 1) (fun _=>rfl)) (a0g (a0u (i:=3) scLevelsInOrder.nd rfl (Or.inr rfl) (a1d (CompSc.to (N:=["words","waiting","told","free"]) (osc:=a0e a1x) (vs:=["sets"]) {}) rfl rfl (a1i (pv 1)) (fun _ _ _ _=>a7a (a8t (a5z (a0k c_is_led_to hr.m rfl (a0y (a0b (pv 1) (a0b (pv 0) (a0b (pv 2) a0r rfl) rfl) rfl)))))) (fun _ _ _ _=>(pv 0)))) (a0g (a2n (a6x a1T a2B a2C a1l (pv 2) (a0f (a1h a2f (pv 3) a0p (fun _ _=>rfl)) a0i))) (a0j (a0u (i:=1) scLevelsInOrder.nd rfl (Or.inr rfl) (a1d (CompSc.to (N:=["words","waiting","told","free"]) (osc:=a0e a1x) (vs:=["sets"]) {}) rfl rfl (a1i (pv 1)) (fun _ _ _ _=>a7a (a1r (OpR.k (K:=K) (fun K=>d2d K true) (b3y hu) rfl) (pv 0) (a1h (IxR.k (K:=K) rIxL a2f rfl) (pv 4) a0p (fun _ _=>rfl)) (a1u _))) (fun _ _ _ _=>(pv 0)))))))) (a0j (a0w (pv 2))))),?_⟩
 refine⟨by show 0<=sizeLine;decide,fun fo hfo=>?_⟩
 have kf:=a0d hfo (.lst [])
 have nfo0:fo∉as0:=fun z=>by
  obtain⟨j,ej⟩:=a1A.mp z
  have lj:=(a0B.mp ej).1
  obtain⟨bs,e,_⟩:=L0.is j fo _ ej (a0A (by rw[<-L0.len];exact lj))
  rw[hfo]at e
  cases e
 let Wv:Nat->L2.St->Hp->Prop:=fun m σ H'=>Same H H'/\ ∃l as cs as2 told o3,H' l=some (.lst (as.map .ref))/\LsAt H' as cs/\l≠fo/\fo∉as/\(∀c∈cs,c∈cs0)/\H' fo=some (.lst (as2.map .ref))/\LsAt H' as2 told/\fo∉as2/\(∀c∈told,c∈cs0)/\told.length+cs.length<=32/\(∀a∈as,a∈as0)/\(∀a∈as2,a∈as0)/\(∀rest,Ord ts cs rest->Ord ts cs0 (told++rest))/\m=cs.length/\σ=[some (.ref D),some (.ref l),some (.ref fo),o3]
 refine⟨Wv,⟨_,kf,l0,as0,cs0,[],[],none,kf _ _ hl0,L0.same kf,a0h hl0 hfo,nfo0,fun c h=>h,a0a,⟨rfl,fun i a c e=>by simp at e⟩,by simp,fun c h=>(nomatch h),by simpa using few,(fun _ h=>h),(fun _ h=>nomatch h),fun rest h=>h,rfl,rfl⟩,fun m σ H1 p=>?_⟩
 obtain⟨g1,l,as,cs,as2,told,o3,el,L,lfo,nfa,sub0,efo,L2',nf2,subT,lim,ia,ia2,cont,hm,rfl⟩:=p
 have la:=L.len
 have la2:=L2'.len
 refine⟨_,rfl,!(as.map V.ref).isEmpty,.inl ⟨_,SqL.of el,rfl⟩,?_⟩
 by_cases hcs:cs=[]
 ·subst hcs
  have e:as=[]:=a2V.mp la
  subst e
  rw[if_neg (by simp)]
  have od:=cont [] .nil
  rw[a2K]at od
  exact⟨_,rfl,q fo as2 told H1 g1 hfo efo L2' od (by lia) subT ia2⟩
 have ne:as≠[]:=fun z=>hcs (a2V.mp (by rw[<-la,z];rfl))
 have c1:(!(as.map V.ref).isEmpty)=true:=by
  cases as with
  |nil=>exact absurd rfl ne
  |cons=>rfl
 rw[c1]
 refine b0n ?_
 refine⟨fun σ' H'=> ∃m',m'<m/\Wv m' σ' H',fun σ' H' h=>h,?_⟩
 have csx': ∀d∈cs,d≠[]/\ ∀x∈d,x∈xs:=fun d hd=>csx d (sub0 d hd)
 have un':b8r ts cs:=fun c hc d hd=>un c (sub0 c hc) d (sub0 d hd)
 have wb1:=wb.same g1
 have rd1:=c5c rd g1
 refine⟨_,rfl,l,rfl,⟨_,SqL.of el⟩,a1v (xs:=as.map .ref) (fun i ys' H'=>Same H1 H'/\ ∃es,ys'=es.map V.ref/\es.length<=i/\(∀e∈es,e∈as)/\LsAt H' es ((cs.take i).filter fun c=> !ledTo ts cs c)) (by rw[a0D,a1B];lia) ⟨Same.refl _,[],rfl,a0J _,fun _ h=>(nomatch h),⟨rfl,fun i a c e=>by simp at e⟩⟩ (fun i ys' H' hi p=>?_) (fun i v ys' H' hv p=>?_) (fun ys' H2 p fr hfr=>?_)⟩
 ·obtain⟨g,es,rfl,e,_⟩:=p
  exact⟨SqL.of (g _ _ el),by rw[a0D];exact e⟩
 ·obtain⟨g,es,rfl,e,sb,Le⟩:=p
  rw[a0G]at hv
  obtain⟨a,ea,rfl⟩:=a0O.mp hv
  have li:=(a0B.mp ea).1
  obtain⟨c,ec⟩: ∃c,cs[i]? =some c:=⟨_,a0A (by lia)⟩
  obtain⟨bs,ha,Ta⟩:=(L.same g).is i a c ea ec
  have mc:=a0E ec
  refine⟨a1c,_,rfl,_,rfl,_,rfl,D,a,l,ts,xs,ys,c,cs,bs,as,rfl,c5c rd1 g,wb1.same g,ha,Ta,g _ _ el,L.same g,(csx' c mc).1,csx',by lia,fun H4 g4=>⟨_,rfl,?_⟩⟩
  have z:=c5b (as:=as) (f:=fun c=> !ledTo ts cs c) (Le.same g4) ec (g4 _ _ ha) (Ta.same g4)
  cases c2:ledTo ts cs c with
  |false=>
   rw[c2,if_pos (show(!false)=true from rfl)]at z;refine b0n ⟨_,rfl,g.trans g4,es++[a],by simp,by simp;exact e,fun e' he=>?_,z⟩;exact(a0L.mp he).elim (sb e') fun h=>by rw[a0H.mp h];exact a0E ea
  |true=>
   rw[c2,if_neg (by decide)]at z;exact b0d ⟨g.trans g4,es,rfl,by lia,sb,z⟩
 obtain⟨g2,es,rfl,_,sb,Le⟩:=p
 rw[a0D,la,a1Q]at Le
 have k3:=a0d hfr (.lst (es.map V.ref))
 have efr:upd H2 fr (.lst (es.map V.ref)) fr=some (.lst (es.map V.ref)):=a0a
 have frfo:fr≠fo:=(a0h (g2 _ _ efo) hfr).symm
 have frl:fr≠l:=(a0h (g2 _ _ el) hfr).symm
 have g13:=g2.trans k3
 have Le3:=Le.same k3
 generalize upd H2 fr (.lst (es.map V.ref))=H3 at k3 efr g13 Le3⊢
 obtain⟨s0,ms0,fs0⟩: ∃s∈cs,ledTo ts cs s=false:=by
  cases cs with
  |nil=>exact absurd rfl hcs
  |cons c cs=>exact b8t un' _ c (a0S ..) (a0J _)
 have mf:s0∈cs.filter fun c=> !ledTo ts cs c:=a1O.mpr ⟨ms0,by rw[fs0];rfl⟩
 obtain⟨s,hs⟩: ∃s,(cs.filter fun c=> !ledTo ts cs c).head? =some s:=by
  cases z:cs.filter fun c=> !ledTo ts cs c with
  |nil=>rw[z]at mf;cases mf
  |cons y ys=>exact⟨y,rfl⟩
 have ms:s∈cs:=(a1O.mp (List.mem_of_mem_head? hs)).1
 have hs0:(cs.filter fun c=> !ledTo ts cs c)[0]? =some s:=by rw[<-List.head?_eq_getElem?];exact hs
 have le:=Le3.len
 obtain⟨a,ea⟩: ∃a,es[0]? =some a:=⟨_,a0A (by rw[le];exact(a0B.mp hs0).1)⟩
 have hat:atI (es.map V.ref) ((0:Nat):Int)=some (.ref a):=a3r (by rw[a0G,ea];rfl)
 obtain⟨bs,ha,Ta⟩:=Le3.is 0 a s ea hs0
 have aas:=sb a (a0E ea)
 have afo:a≠fo:=fun z=>nfa (z▸aas)
 have efo3:=g13 _ _ efo
 refine⟨_,rfl,.inl ⟨rfl,_,SqL.of efo3⟩,_,rfl,fr,_,_,_,rfl,rfl,SqL.of efr,hat,fo,_,_,rfl,rfl,efo3,by rw[a0D,a1B];lia,?_⟩
 have g4:Same H (upd H3 fo (.lst (as2.map V.ref++[.ref a]))):=a1b (g1.trans g13) hfo
 have na2:fo∉as2++[a]:=fun z=>(a0L.mp z).elim nf2 fun z=>afo (a0H.mp z).symm
 have L4:=((L2'.same g13).snoc ha Ta).off (o:= .lst (as2.map V.ref++[.ref a])) efo3 na2
 have Lw4:=(L.same g13).off (o:= .lst (as2.map V.ref++[.ref a])) efo3 nfa
 have efo4:upd H3 fo (.lst (as2.map V.ref++[.ref a])) fo=some (.lst ((as2++[a]).map V.ref)):=by rw[a0a,a1G];rfl
 have el4:upd H3 fo (.lst (as2.map V.ref++[.ref a])) l=some (.lst (as.map V.ref)):=by
  rw[a0c lfo]
  exact g13 _ _ el
 have efr4:upd H3 fo (.lst (as2.map V.ref++[.ref a])) fr=some (.lst (es.map V.ref)):=by
  rw[a0c frfo]
  exact efr
 have ha4:upd H3 fo (.lst (as2.map V.ref++[.ref a])) a=some (.lst (bs.map V.ref)):=by
  rw[a0c afo]
  exact ha
 have Ta4:TupsAt (upd H3 fo (.lst (as2.map V.ref++[.ref a]))) bs s:=a3q Ta efo3 fun _ e=>nomatch e
 generalize upd H3 fo (.lst (as2.map V.ref++[.ref a]))=H4 at g4 L4 Lw4 efo4 el4 efr4 ha4 Ta4⊢
 refine⟨_,rfl,l,rfl,⟨_,SqL.of el4⟩,a1v (xs:=as.map .ref) (fun i ys' H'=>H'=H4/\ ∃es,ys'=es.map V.ref/\es.length<=i/\(∀e∈es,e∈as)/\LsAt H4 es ((cs.take i).filter fun c=>decide (c≠s))) (by rw[a0D,a1B];lia) ⟨rfl,[],rfl,a0J _,fun _ h=>(nomatch h),⟨rfl,fun i a c e=>by simp at e⟩⟩ (fun i ys' H' hi p=>?_) (fun i v ys' H' hv p=>?_) (fun ys' H5 p wl hwl=>?_)⟩
 ·obtain⟨rfl,es,rfl,e,_⟩:=p
  exact⟨SqL.of el4,by rw[a0D];exact e⟩
 ·obtain⟨rfl,es',rfl,e,sb',Le'⟩:=p
  rw[a0G]at hv
  obtain⟨b,eb,rfl⟩:=a0O.mp hv
  have li:=(a0B.mp eb).1
  obtain⟨c,ec⟩: ∃c,cs[i]? =some c:=⟨_,a0A (by lia)⟩
  obtain⟨ds,hb,Tb⟩:=Lw4.is i b c eb ec
  have z:=c5b (as:=as) (f:=fun c=>decide (c≠s)) Le' ec hb Tb
  refine⟨a1c,_,rfl,_,rfl,fr,_,_,_,rfl,rfl,SqL.of efr4,hat,b,a,1,_,_,rfl,rfl,a8r hb Tb,a8r ha4 Ta4,by decide,fun cc hc=>⟨_,rfl,?_⟩⟩
  by_cases ec2:c=s
  ·have hc':cc=true:=hc.mpr (by rw[ec2])
   subst hc';rw[a1L (fun z=>z ec2),if_neg (by decide)]at z;exact b0d ⟨rfl,es',rfl,by lia,sb',z⟩
  ·have hc':cc=false:=by
    cases cc with
    |false=>rfl
    |true=>exact absurd (c4w (hc.mp rfl)) ec2
   subst hc';rw[a1E ec2,if_pos rfl]at z;refine b0n ⟨_,rfl,rfl,es'++[b],by simp,by simp;exact e,fun e' he=>?_,z⟩;exact(a0L.mp he).elim (sb' e') fun h=>by rw[a0H.mp h];exact a0E eb
 obtain⟨rfl,es',rfl,_,sb',Le'⟩:=p
 rw[a0D,la,a1Q]at Le'
 have k5:=a0d hwl (.lst (es'.map V.ref))
 have less:(cs.filter fun c=>decide (c≠s)).length<cs.length:=by
  rw[<-a5W]
  have z:=b8s (xs:=cs) (p:=fun c=>decide (c≠s)) (q:=fun _=>true) (fun _ _ _=>rfl) ⟨s,ms,rfl,a1L fun z=>z rfl⟩
  rw[List.countP_true]at z
  exact z
 refine⟨(cs.filter fun c=>decide (c≠s)).length,by lia,g4.trans k5,wl,es',cs.filter fun c=>decide (c≠s),as2++[a],told++[s],_,a0a,Le'.same k5,(a0h efo4 hwl).symm,fun z=>nfa (sb' _ z),fun c hc=>sub0 c (a1O.mp hc).1,k5 _ _ efo4,L4.same k5,na2,fun c hc=>(a0L.mp hc).elim (subT c) fun h=>by rw[a0H.mp h];exact sub0 s ms,by rw[a0M];simp only[List.length_singleton];lia,(fun b hb=>ia b (sb' b hb)),(fun b hb=>(List.mem_append.mp hb).elim (ia2 b) fun z=>by rw[List.mem_singleton.mp z];exact ia a aas),fun rest hr'=>?_,rfl,rfl⟩
 rw[a1H]
 exact cont _ (.cons hs hr')
theorem c8h{H H':Hp}{a:Addr}{u:HO}(h:Rd H a u)(no: ∀ps,u≠ .tbl ps)(g:Keeps H H'):Rd H' a u:=h.elim (fun e=> .inl (g _ _ (a7q e no))) fun⟨o,e⟩=> .inr ⟨o,g _ _ (nU e)⟩
theorem a1o{H H':Hp}{bs:As}{us:LN}(T:TupsAt H bs us)(g:Keeps H H'):TupsAt H' bs us:=⟨T.len,fun i b u e1 e2=>g _ _ (nU (T.is i b u e1 e2))⟩
theorem LsAt.keeps{H H':Hp}{as:As}{cs:L3q}(h:LsAt H as cs)(g:Keeps H H'):LsAt H' as cs:=⟨h.len,fun i a c e1 e2=>let⟨bs,h1,h2⟩:=h.is i a c e1 e2;⟨bs,g _ _ (nU h1),a1o h2 g⟩⟩
theorem WB.off2{H:Hp}{D l:Addr}{ts xs:LN}{ys:List WE}{us:List V}{o:HO}(h:WB H D ts xs ys)(hl:H l=some (.lst us))(no: ∀y∈ys,l∉y.2.2):WB (upd H l o) D ts xs ys:=by
 refine⟨h.len,fun i x y e1 e2=>?_,h.nd⟩
 obtain⟨a,b,c⟩:=h.each i x y e1 e2
 refine⟨⟨a.len,by rw[a0c (nE a.dict hl)];exact a.dict,fun j b' p h1 h2=>?_⟩,b,c⟩
 rw[a0c fun(z:b'=l)=>no y (a0E e2) (by rw[<-z];exact a0E h1)]
 exact a.list j b' p h1 h2
theorem a0t{ts xs:LN}{c:LN}(h:c∈classes ts xs):c≠[]/\c=alike ts xs (c.headD [])/\c.headD []∈xs/\ ∀x∈c,x∈xs/\Rch ts (c.headD []) x/\Rch ts x (c.headD []):=by
 obtain⟨x,hx,rfl⟩:=a0Q.mp h
 obtain⟨h1,h2⟩:=a1O.mp hx
 have e:(alike ts xs x).headD []=x:=by
  have z:(alike ts xs x).head? =some x:=eq_of_beq h2
  cases y:alike ts xs x with
  |nil=>rw[y]at z;cases z
  |cons a as=>
   rw[y]at z;injection z with z
 refine⟨fun z=>?_,by rw[e],by rw[e];exact h1,fun y hy=>?_⟩
 ·have s:=b1a (ts:=ts) h1
  rw[z]at s
  cases s
 ·obtain⟨h3,h4⟩:=a1O.mp hy
  rw[a2Y]at h4
  rw[e]
  exact⟨h3,rch_iff.mp h4.1,rch_iff.mp h4.2⟩
theorem b0g(ts xs:LN):b8r ts (classes ts xs):=fun c hc d hd r1 r2=>by
 obtain⟨_,e1,_⟩:=a0t hc
 obtain⟨_,e2,_⟩:=a0t hd
 rw[e1,e2]
 generalize c.headD []=x at r1 r2
 generalize d.headD []=y at r1 r2
 refine a6G fun z _=>?_
 have go: ∀{x y:Nsq},rch ts x y=true->rch ts y x=true->(rch ts x z&&rch ts z x)=true->(rch ts y z&&rch ts z y)=true:=fun {x y} a b h=>by
  rw[a2Y]at h⊢
  exact⟨rch_iff.mpr ((rch_iff.mp b).trans (rch_iff.mp h.1)),rch_iff.mpr ((rch_iff.mp h.2).trans (rch_iff.mp a))⟩
 rw[a3P]
 exact⟨go r1 r2,go r2 r1⟩
def LevAt(H:Hp)(l:Addr)(ts fam:LN)(xs:LN)(ys:List WE)(a:Addr)(c:LN):Prop:= ∃(s t v:Addr) (bs ds cs:As) (i:Nat) (y:WE),H a=some (.tup [.ref s,.ref t,.ref v])/\s≠l/\t≠l/\v≠l/\l∉cs/\H s=some (.lst (bs.map .ref))/\TupsAt H bs c/\H t=some (.lst (ds.map .ref))/\TupsAt H ds (a1t fam (c.headD []))/\H v=some (.lst (cs.map .ref))/\cs.length=c.length/\xs[i]? =some (c.headD [])/\ys[i]? =some y/\Told (a0m ts) ts.length (c.headD []) y.2.1/\
 (∀b∈cs,b∈y.2.2)/\ ∀(k:Nat) (x:Nsq) (b:Addr),c[k]? =some x->cs[k]? =some b-> ∃word,(x,word)∈y.2.1/\H b=some (.lst (word.map nv))
theorem LevAt.keeps{H H':Hp}{l:Addr}{ts fam xs:LN}{ys:List WE}{a:Addr}{c:LN}(h:LevAt H l ts fam xs ys a c)(g:Keeps H H'):LevAt H' l ts fam xs ys a c:=by
 obtain⟨s,t,v,bs,ds,cs,i,y,h1,h2,h3,h4,h5,h6,h7,h8,h9,h10,h11,h12,h13,h14,h15,h16⟩:=h
 refine⟨s,t,v,bs,ds,cs,i,y,g _ _ (nU h1),h2,h3,h4,h5,g _ _ (nU h6),a1o h7 g,g _ _ (nU h8),a1o h9 g,g _ _ (nU h10),h11,h12,h13,h14,h15,fun k x b e1 e2=>?_⟩
 obtain⟨word,z1,z2⟩:=h16 k x b e1 e2
 exact⟨word,z1,g _ _ (nU z2)⟩
theorem LevAt.off{H:Hp}{l:Addr}{ts fam xs:LN}{ys:List WE}{a:Addr}{c:LN}{us:List V}{o:HO}(h:LevAt H l ts fam xs ys a c)(hl:H l=some (.lst us)):LevAt (upd H l o) l ts fam xs ys a c:=by
 obtain⟨s,t,v,bs,ds,cs,i,y,h1,h2,h3,h4,h5,h6,h7,h8,h9,h10,h11,h12,h13,h14,h15,h16⟩:=h
 refine⟨s,t,v,bs,ds,cs,i,y,by rw[a0c (nE h1 hl)];exact h1,h2,h3,h4,h5,by rw[a0c h2];exact h6,a3q h7 hl (fun _ e=>nomatch e),by rw[a0c h3];exact h8,a3q h9 hl (fun _ e=>nomatch e),by rw[a0c h4];exact h10,h11,h12,h13,h14,h15,fun k x b e1 e2=>?_⟩
 obtain⟨word,z1,z2⟩:=h16 k x b e1 e2
 refine⟨word,z1,?_⟩
 rw[a0c fun(z:b=l)=>h5 (by rw[<-z];exact a0E e2)]
 exact z2
structure LevsAt(H:Hp)(l:Addr)(ts fam xs:LN)(ys:List WE)(as:As)(told:L3q):Prop where
 len:as.length=told.length
 is: ∀(i:Nat) (a:Addr) (c:LN),as[i]? =some a->told[i]? =some c->LevAt H l ts fam xs ys a c
def c5d(H H':Hp)(a:Addr):Prop:= ∃s t v,H' a=some (.tup [.ref s,.ref t,.ref v])/\L2.noT H s=none/\L2.noT H t=none/\L2.noT H v=none
def b2w(T:Addr)(pos:Pos):Sp:=fun vs H Q _=> ∃(m:Addr) (ts:LN) (n:Nat),vs=[.ref m]/\Mach H m ts n/\Tabs H/\
 ∀l as told fam ys H',Keeps H H'->Tabs H'->L2.noT H l=none->H' l=some (.lst (as.map .ref))->FamOf ts n fam->Ord ts (classes ts (big fam)) told->(∀c∈told,c∈classes ts (big fam))->told.length<=32->LevsAt H' l ts fam (big fam) ys as told->(∀y∈ys,∀b∈y.2.2,L2.noT H b=none)->ys.Pairwise (fun p q=> ∀b∈p.2.2,b∉q.2.2)->(∀a∈as,c5d H H' a)->Q (.ref l) H'
theorem c5e{T:Addr}(F:Fun K "levels" "levels" b2l f fd)(c_words_between:a0q P w K mg base "words_between" 16 ["machine"] (a5m T (⟨49,40,49,93⟩:Pos)))(c_sets_of_levels:a0q P w K mg base "sets_of_levels" 3 ["words"] b8q)(c_levels_in_order:a0q P w K mg base "levels_in_order" 3 ["words","waiting"] b1b)(c_tiles:a0q P w K mg base "tiles" 16 ["machine","rooms"] (c4y T (⟨49,40,49,93⟩:Pos))):FnOk P w K mg base CX0 18 f fd ["machine"] (b2w T (⟨49,40,49,93⟩:Pos)):=by
 refine F.ok scLevels (fun vs H Q E h=>?_) (fun cdv A outer s H vs Q E hr h=>?_)
 ·obtain⟨m,ts,n,rfl,_⟩:=h
  rfl
 obtain⟨m,ts,n,rfl,M,hT,q⟩:=h
 have hu:=hr.units
 have hu1:=a7w hr
 refine⟨_,(a0g (a0u (i:=1) scLevels.nd rfl (Or.inr rfl) (a0k c_words_between hr.m rfl (a0f (pv 0) a0i))) (a0g (a0u (i:=2) scLevels.nd rfl (Or.inl rfl) (a2r a0i)) (a0g (a2w a2E rfl (a1i (a0k c_levels_in_order hr.m rfl (a0y (a0b (pv 1) (a0b (a0k c_sets_of_levels hr.m rfl (a0f (pv 1) a0i)) a0r rfl) rfl)))) (a1a (i:=3) scLevels.nd rfl (Or.inl rfl)) (a0g (a0u (i:=4) scLevels.nd rfl (Or.inr rfl) (a1h a2f (pv 3) a0p (fun _ _=>rfl))) (a0g (b7n (CompSc.to (N:=["machine","words","told","sets","face","ways"]) (osc:=a0e b2l) (vs:=["rooms"]) {}) rfl rfl scLevels.nd (j:=5) rfl rfl (a1i (pv 3)) (fun _ _ _ _=>a2h) (fun _ _ _ _=>(a6y hu1 (a6y hu1 (pv 2) (pv 5) (fun _ _=>rfl)) (pv 0) (fun _ _=>rfl)))) (a0j (a2n (a6x a1T a2B a2C a1l (pv 2) (a0f (a7m (a0y (a0b (pv 3) (a0b (a0k c_tiles hr.m rfl (a0y (a0b (pv 0) (a0b (pv 4) a0r rfl) rfl))) (a0b (pv 5) a0r rfl) rfl) rfl))) a0i))))))) (a0j (a0w (pv 2)))))),?_⟩
 refine⟨_,rfl,m,ts,n,rfl,M,hT,fun D fam ys H1 k1 T1 nD ff eD wb nw ap=>?_⟩
 have few:=ff.few M
 have fewB:(big fam).length<=32:=a0Y (a1K _ _) few
 refine⟨by show 0<=sizeLine;decide,fun to hto=>?_⟩
 have kt:=a0d hto (.lst [])
 have nto: ∀y∈ys,to∉y.2.2:=fun y hy hb=>by
  obtain⟨j,ej⟩:=a1A.mp hy
  have lj:=(a0B.mp ej).1
  have hl:=wb.len
  obtain⟨x',ex'⟩: ∃x',(big fam)[j]? =some x':=⟨_,a0A (by lia)⟩
  obtain⟨a',_⟩:=wb.each j x' y ex' ej
  obtain⟨j2,ej2⟩:=a1A.mp hb
  have lj2:=(a0B.mp ej2).1
  have z2:=a'.list j2 to _ ej2 (a0A (by rw[<-a'.len];exact lj2))
  rw[hto]at z2
  cases z2
 have toD:to≠D:=(a0h eD hto).symm
 have eD2:=kt _ _ eD
 refine⟨_,rfl,_,rfl,D,ts,big fam,ys,rfl,eD2,wb.same kt,fewB,fun wl o as H3 g3 nwl ewl Lw fras=>?_⟩
 have eD3:H3 D=some (.frz o (.dT (kvW (big fam) ys))):=g3 _ _ a0a
 have wb3:WB H3 D ts (big fam) ys:=((wb.same kt).off eD2).same g3
 have k13: ∀{b:Addr} {u:HO},b≠D->upd H1 to (.lst []) b=some u->H3 b=some u:=fun nb hb=>g3 _ _ (by rw[a0c nb];exact hb)
 have eto3:H3 to=some (.lst []):=k13 toD a0a
 have noD: ∀{b:Addr} {u:HO},L2.noT H b=some u->b≠D:=fun hb z=>by
  subst z
  rw[nD]at hb
  cases hb
 have kH3:Keeps H H3:=fun b u hb=>k13 (noD hb) (kt _ _ (k1 _ _ hb))
 have T3:Tabs H3:=(T1.same kt).most fun b u nd _ hb=>k13 (a5k hb eD2 fun e=>nd _ e) hb
 have clx: ∀d∈classes ts (big fam),d≠[]/\ ∀x∈d,x∈big fam:=fun d hd=>⟨(a0t hd).1,fun x hx=>((a0t hd).2.2.2 x hx).1⟩
 have fewC:(classes ts (big fam)).length<=32:=by
  unfold classes
  rw[a0D]
  exact a0Y (a1K _ _) fewB
 refine⟨D,wl,ts,big fam,ys,_,as,rfl,.inr ⟨o,eD3⟩,wb3,ewl,Lw,clx,b0g ts _,fewC,fun ol as2 told H4 g4 nol eol Lo od lim sub ia2=>?_⟩
 have lo:=Lo.len
 have tool:ol≠to:=(a0h eto3 nol).symm
 have nol2:to∉as2:=fun z=>by
  obtain⟨j,ej⟩:=a1A.mp z
  have lj:=(a0B.mp ej).1
  obtain⟨bs,e,_⟩:=Lo.is j to _ ej (a0A (by rw[<-lo];exact lj))
  have ec:=a2O (show j<told.length by lia)
  have z1:=g4 _ _ eto3
  rw[e]at z1
  injection z1 with z1
  injection z1 with z1
  have z2:bs=[]:=List.map_eq_nil_iff.mp z1
  obtain⟨bs',e',Tb'⟩:=Lo.is j to _ ej (a0A (by lia))
  rw[e]at e'
  injection e' with e'
  injection e' with e'
  rw[z2]at e'
  have z3:bs'=[]:=List.map_eq_nil_iff.mp e'.symm
  have z4:=Tb'.len
  rw[z3]at z4
  exact(a0t (sub _ ec)).1 (a2V.mp z4.symm)
 have kH4:Keeps H H4:=kH3.trans g4.keeps
 have T4:=T3.same g4
 have eto4:=g4 _ _ eto3
 have nTo:L2.noT H to=none:=by
  cases z:L2.noT H to with
  |none=>rfl
  |some u=>
   have z2:=k1 _ _ z;rw[hto]at z2;cases z2
 let Pv:Nat->L2.St->Hp->Prop:=fun i σ H'=>Keeps H H'/\Tabs H'/\H' ol=some (.lst (as2.map .ref))/\LsAt H' as2 told/\Rd H' D (.dT (kvW (big fam) ys))/\WB H' D ts (big fam) ys/\ ∃ls o3 o4 o5,H' to=some (.lst (ls.map .ref))/\LevsAt H' to ts fam (big fam) ys ls (told.take i)/\(∀a∈ls,c5d H H' a)/\σ=[some (.ref m),some (.ref D),some (.ref to),o3,o4,o5]
 refine⟨ol,rfl,⟨_,SqL.of eol⟩,a3z (xs:=as2.map .ref) Pv ⟨kH4,T4,eol,Lo,.inr ⟨o,g4 _ _ eD3⟩,wb3.same g4,[],none,none,none,eto4,⟨rfl,fun i a c e=>by simp at e⟩,(fun _ h=>nomatch h),rfl⟩ (fun i σ H' _ p=>SqL.of p.2.2.1) (fun i v σ H5 hv p=>?_) (fun σ H5 p=>?_)⟩
 ·obtain⟨k5,T5,eol5,Lo5,rd5,wb5,ls,o3,o4,o5,eto5,Lv5,nl5,rfl⟩:=p
  rw[a0G]at hv
  obtain⟨a,ea,rfl⟩:=a0O.mp hv
  have li:=(a0B.mp ea).1
  obtain⟨c,ec⟩: ∃c,told[i]? =some c:=⟨_,a0A (by lia)⟩
  obtain⟨bs,ha,Ta⟩:=Lo5.is i a c ea ec
  obtain⟨cne,_,cx,call⟩:=a0t (sub c (a0E ec))
  obtain⟨b0,at0,hb0,m0⟩:=b2v Ta cne
  have lbs:=Ta.len
  have c32:c.length<=32:=by
   rw[(a0t (sub c (a0E ec))).2.1];exact a0Y (a1K _ _) fewB
  have ato:a≠to:=fun z=>nol2 (z▸a0E ea)
  obtain⟨W,ws,wa,dg,wt,tt,ix,ex,ey⟩:=wb5.get rd5 cx hb0
  refine⟨_,rfl,a,_,_,_,rfl,rfl,SqL.of ha,at0,?_⟩
  refine⟨_,rfl,a,rfl,⟨_,SqL.of ha⟩,a1v (xs:=bs.map .ref) (fun j ys' H'=>H'=H5/\ ∃cs:As,ys'=cs.map V.ref/\cs.length=j/\(∀b∈cs,b∈wa)/\ ∀(k:Nat) (x:Nsq) (b:Addr),c[k]? =some x->cs[k]? =some b-> ∃word,(x,word)∈ws/\H5 b=some (.lst (word.map nv))) (by rw[a0D,a1B];lia) ⟨rfl,[],rfl,rfl,fun _ h=>(nomatch h),fun k x b _ e=>by simp at e⟩ (fun j ys' H' hi p=>?_) (fun j v ys' H' hv p=>?_) (fun ys' H' p wy hwy=>?_)⟩
  ·obtain⟨rfl,cs,rfl,e,_⟩:=p
   exact⟨SqL.of ha,by rw[a0D];lia⟩
  ·obtain⟨rfl,cs,rfl,e,sb,al⟩:=p
   rw[a0G]at hv;obtain⟨b,eb,rfl⟩:=a0O.mp hv;have lj:=(a0B.mp eb).1;obtain⟨x,exj⟩: ∃x,c[j]? =some x:=⟨_,a0A (by lia)⟩;have hb:=Ta.is j b x eb exj;obtain⟨_,r1,_⟩:=call x (a0E exj);obtain⟨⟨x',u⟩,hp,e'⟩:=a0Q.mp ((b2t tt x).mpr r1);have e2:x'=x:=e';subst e2;obtain⟨wl',v1,v2⟩:=wt.word tt.keys hp;have dg2:DGet H' W (.ref b) (some (.ref wl')):= .inr ⟨_,nk x',b,.inl wt.dict,rfl,by rw[a5r];exact hb,v1.symm⟩;refine⟨a1c,a4k ⟨_,rfl,_,rfl,D,_,rfl,dg,_,rfl,W,_,rfl,dg2,rfl,cs++[wl'],by simp,by simp[e],fun b' hb'=>?_,fun k x b' e1 e2=>?_⟩⟩
   ·exact(a0L.mp hb').elim (sb b') fun h=>by rw[a0H.mp h];exact d1c v1
   ·by_cases hk:k<cs.length
    ·rw[a0R hk]at e2
     exact al k x b' e1 e2
    ·rw[a0P (by lia)]at e2
     have z:k-cs.length=0:=by
      have:=(a0B.mp e2).1
      simp at this;lia
     rw[z]at e2;cases e2;have kj:k=j:=by lia
     subst kj;rw[exj]at e1;cases e1;exact⟨u,hp,v2⟩
  ·obtain⟨rfl,cs,rfl,ecs,sb,al⟩:=p
   rw[a0D]at ecs;have kw:=a0d hwy (.lst (cs.map V.ref));have wyto:wy≠to:=(a0h eto5 hwy).symm;have ewy:upd H' wy (.lst (cs.map V.ref)) wy=some (.lst (cs.map V.ref)):=a0a;generalize upd H' wy (.lst (cs.map V.ref))=H6 at kw ewy⊢;have eto6:=kw _ _ eto5;refine⟨_,rfl,.inl ⟨rfl,_,SqL.of eto6⟩,_,rfl,_,rfl,_,rfl,m,b0,ts,n,c.headD [],rfl,(M.keeps k5).same kw,kw _ _ hb0,T5.same kw,fun tl ds us fam1 H7 k7 T7 ntl etl Td ff1 eus=>?_⟩;have ef:fam1=fam:=ff1.uniq ff;subst ef;subst eus;have eto7:=k7 _ _ (nU eto6);have tlto:tl≠to:=fun z=>by
    subst z;rw[nU eto6]at ntl;cases ntl
   refine⟨_,rfl,by show 3<=sizeLine;decide,fun lv hlv=>?_⟩;have kl:=a0d hlv (.tup [.ref a,.ref tl,.ref wy]);have elv:upd H7 lv (.tup [.ref a,.ref tl,.ref wy]) lv=some (.tup [.ref a,.ref tl,.ref wy]):=a0a;have kk:Keeps H' (upd H7 lv (.tup [.ref a,.ref tl,.ref wy])):=(kw.keeps.trans k7).trans kl.keeps;have k6l:Keeps H6 (upd H7 lv (.tup [.ref a,.ref tl,.ref wy])):=k7.trans kl.keeps;have etl8:=kl _ _ etl;have Td8:=Td.same kl;have T8:=T7.same kl;have eto8:=kl _ _ eto7;generalize upd H7 lv (.tup [.ref a,.ref tl,.ref wy])=H8 at kl elv kk k6l etl8 Td8 T8 eto8⊢;have lls:=Lv5.len;rw[a1N]at lls;refine⟨to,_,_,rfl,rfl,eto8,by rw[a0D,a1B];lia,?_⟩;have at1: ∀{b:Addr} {u:HO},H' b=some u->(∀ps,u≠ .tbl ps)->H8 b=some u:=fun hb no=>kk _ _ (a7q hb no)
   refine⟨fun b u hb=>?_,?_,?_,?_,?_,?_,ls++[lv],_,_,_,by rw[a0a,a1G];rfl,⟨?_,fun j a' c' e1 e2=>?_⟩,fun a' ha'=>?_,rfl⟩
   ·rw[a0c fun(z:b=to)=>by subst z;rw[nTo]at hb;cases hb]
    exact(k5.trans kk) _ _ hb
   ·exact T8.most fun b' u _ nl hb'=>by rw[a0c (a5k hb' eto8 fun e=>nl _ e)];exact hb'
   ·rw[a0c tool]
    exact at1 eol5 fun _ e=>nomatch e
   ·exact(Lo5.keeps kk).off eto8 nol2
   ·rcases c8h rd5 (fun _ e=>nomatch e) kk with z|⟨o',z⟩
    ·exact .inl (by rw[a0c (nE z eto8)];exact z)
    ·exact .inr ⟨o',by rw[a0c (nE z eto8)];exact z⟩
   ·exact(wb5.keeps kk).off2 eto8 nto
   ·rw[a0M,a1N]
    simp only[List.length_singleton];lia
   ·have lt':told.take (i+1)=told.take i++[c]:=by rw[a1V,ec];rfl
    rw[lt']at e2;by_cases hj:j<ls.length
    ·rw[a0R hj]at e1
     rw[a0R (by rw[a1N];lia)]at e2;exact((Lv5.is j a' c' e1 e2).keeps kk).off eto8
    ·rw[a0P (by lia)]at e1
     rw[a0P (by rw[a1N];lia)]at e2;have z:j-ls.length=0:=by
      have:=(a0B.mp e1).1
      simp at this;lia
     have z':j-(told.take i).length=0:=by rw[a1N];lia
     rw[z]at e1;rw[z']at e2;cases e1;cases e2;refine LevAt.off ⟨a,tl,wy,bs,ds,cs,ix,(W,ws,wa),elv,ato,tlto,wyto,fun z=>nto _ (a0E ey) (sb _ z),at1 ha (fun _ e=>nomatch e),a1o Ta kk,etl8,Td8,k6l _ _ (nU ewy),by lia,ex,ey,tt,sb,fun k x b e1 e2=>?_⟩ eto8;obtain⟨word,z1,z2⟩:=al k x b e1 e2;exact⟨word,z1,at1 z2 fun _ e=>nomatch e⟩
   ·rcases a0L.mp ha' with z|z
    ·obtain⟨s',t',v',z1,z2⟩:=nl5 a' z
     exact⟨s',t',v',(by rw[a0c (nE (at1 z1 fun _ e=>nomatch e) eto8)];exact at1 z1 fun _ e=>nomatch e),z2⟩
    ·rw[a0H.mp z]
     refine⟨a,tl,wy,by rw[a0c (nE elv eto8)];exact elv,?_,?_,?_⟩
     ·have z1:=fras a (ia2 a (a0E ea))
      cases y:L2.noT H a with
      |none=>rfl
      |some u=>
       rw[kt _ _ (k1 _ _ y)]at z1;cases z1
     ·cases y:L2.noT H tl with
      |none=>rfl
      |some u=>
       have z1:=kw _ _ (k5 _ _ y);rw[a7q z1 (b0u y).2]at ntl;cases ntl
     ·cases y:L2.noT H wy with
      |none=>rfl
      |some u=>
       rw[k5 _ _ y]at hwy;cases hwy
 ·obtain⟨k5,T5,eol5,Lo5,rd5,wb5,ls,o3,o4,o5,eto5,Lv5,nl5,rfl⟩:=p
  rw[a0D,lo,a1Q]at Lv5
  exact⟨_,rfl,q to ls told fam ys H5 k5 T5 nTo eto5 ff od sub lim Lv5 nw ap nl5⟩
theorem sub_iff{x y:Nsq}:sub x y=true↔ ∀r∈x,r∈y:=by
 unfold sub
 rw[a5O]
 exact⟨fun h r hr=>a1F.mp (h r hr),fun h r hr=>a1F.mpr (h r hr)⟩
theorem b1c{n:Nat}{u v:Nsq}(hu:u∈a1f n)(hv:v∈a1f n)(h:sub u v=true)(ne:u≠v):u.length<v.length:=by
 obtain⟨u1,_⟩:=mem_setsU.mp hu
 obtain⟨v1,_⟩:=mem_setsU.mp hv
 have s:=sub_iff.mp h
 have e: ∃z∈List.range 5,u.contains z=false/\v.contains z=true:=by
  refine Classical.byContradiction fun no=>ne ?_
  rw[<-u1,<-v1]
  unfold a1w
  refine a6G fun z hz=>?_
  rw[a3P]
  constructor
  ·exact fun q=>a1F.mpr (s z (a1F.mp q))
  ·intro q
   cases c:u.contains z with
   |true=>rfl
   |false=>exact absurd ⟨z,hz,c,q⟩ no
 have z:=a7f (xs:=List.range 5) (p:=fun i=>u.contains i) (q:=fun i=>v.contains i) (fun z _ q=>a1F.mpr (s z (a1F.mp q))) e
 rw[a5W,a5W]at z
 unfold a1w at u1 v1
 rw[u1,v1]at z
 exact z
structure TileFacts(fam:LN)(x:Nsq)(us:LN):Prop where
 mem: ∀u∈us,u∈fam/\u≠x/\sub u x=true
 apart: ∀u∈us,∀v∈us,u≠v->sub u v=false
 up:us.Pairwise fun a b=>a4y gl a b=true
 all: ∀u∈fam,u≠x->sub u x=true-> ∃t∈us,sub u t=true
 few:us.length<=32
 few2:fam.length<=32
 l5: ∀u∈fam,u.length<=5
theorem a3b{H:Hp}{m:Addr}{ts:LN}{n:Nat}{fam:LN}(M:Mach H m ts n)(ff:FamOf ts n fam)(x:Nsq):TileFacts fam x (a1t fam x):=by
 have few:=ff.few M
 have ins: ∀u,u∈a2b fam x↔u∈fam/\u≠x/\sub u x=true:=fun u=>by
  unfold a2b
  rw[a1O,a2Y,a6Z]
 have cov: ∀u,a2v (a2b fam x) u=true↔ ∃v∈a2b fam x,v≠u/\sub u v=true:=fun u=>by
  unfold a2v
  rw[a7W]
  constructor
  ·rintro⟨v,h1,h2⟩
   rw[a2Y,a6Z]at h2;exact⟨v,h1,h2⟩
  ·rintro⟨v,h1,h2⟩
   exact⟨v,h1,by rw[a2Y,a6Z];exact h2⟩
 have til: ∀u,u∈a1t fam x↔u∈a2b fam x/\a2v (a2b fam x) u=false:=fun u=>by
  unfold a1t
  rw[a1O]
  refine and_congr Iff.rfl ?_
  cases a2v (a2b fam x) u<;>simp
 have lu: ∀u∈fam,u.length<=5:=fun u h=>a0Y (a3v M.n5 (ff.inU M h)) M.n5
 have climb: ∀(d:Nat) (u:Nsq),u∈a2b fam x->5-u.length<=d-> ∃t∈a1t fam x,sub u t=true:=by
  intro d
  induction d with
  | zero=>
   intro u hu hd;cases c:a2v (a2b fam x) u with
   |false=>exact⟨u,(til u).mpr ⟨hu,c⟩,sub_iff.mpr fun r hr=>hr⟩
   |true=>
    obtain⟨v,hv,h1,h2⟩:=(cov u).mp c;have:=b1c (ff.inU M ((ins u).mp hu).1) (ff.inU M ((ins v).mp hv).1) h2 (a3K h1)
    have:=lu v ((ins v).mp hv).1
    lia
  | succ d ih=>
   intro u hu hd;cases c:a2v (a2b fam x) u with
   |false=>exact⟨u,(til u).mpr ⟨hu,c⟩,sub_iff.mpr fun r hr=>hr⟩
   |true=>
    obtain⟨v,hv,h1,h2⟩:=(cov u).mp c;have:=b1c (ff.inU M ((ins u).mp hu).1) (ff.inU M ((ins v).mp hv).1) h2 (a3K h1)
    obtain⟨t,ht,h3⟩:=ih v hv (by lia);exact⟨t,ht,sub_iff.mpr fun r hr=>sub_iff.mp h3 r (sub_iff.mp h2 r hr)⟩
 refine⟨fun u hu=>(ins u).mp ((til u).mp hu).1,fun u hu v hv ne=>?_,?_,fun u h1 h2 h3=>climb 5 u ((ins u).mpr ⟨h1,h2,h3⟩) (by lia),?_,few,lu⟩
 ·cases c:sub u v with
  |false=>rfl
  |true=>
   have z:=(cov u).mpr ⟨v,((til v).mp hv).1,a3K ne,c⟩;rw[((til u).mp hu).2]at z;cases z
 ·exact(ff.up.filter _).filter _
 ·exact a0Y (a1K _ _) (a0Y (a1K _ _) few)
theorem c5f(x:Nsq):a4y gl x x=false:=(a2t gl [x]).irr x
theorem a9v{K:W.Frag}{H:Hp}{fs:As}{fam:LN}{n:Nat}(T:TupsAt H fs fam)(i:Nat)(d:Dt)(v:V)(e1:(fam.map fun u=>Dt.tup (dtN u))[i]? =some d)(e2:(fs.map V.ref)[i]? =some v):Rep K H (n+1) d v:=by
 rw[a0G]at e1 e2
 obtain⟨p,ep,rfl⟩:=a0O.mp e1
 obtain⟨a,ea,rfl⟩:=a0O.mp e2
 exact a7c (SqT.of (T.is i a p ea ep))
theorem d4q{u:Nsq}{fam:LN}:Dt.tup (dtN u)∈fam.map (fun u=>Dt.tup (dtN u))↔u∈fam:=by
 rw[a0Q]
 constructor
 ·rintro⟨v,h1,h2⟩
  injection h2 with h2
  rw[<-b6l h2]
  exact h1
 ·exact fun h=>⟨u,h,rfl⟩
def itr(f:Nat->Nat):Nat->Nat->Nat
 |0,r=>r
 |k+1,r=>itr f k (f r)
theorem b6p(f:Nat->Nat): ∀(a b r:Nat),itr f (a+b) r=itr f b (itr f a r)
 |0,b,r=>by rw[a7R];rfl
 |a+1,b,r=>by
  rw[Nat.add_right_comm]
  exact b6p f a b (f r)
theorem a7k{f:Nat->Nat}{d r:Nat}(h:itr f d r=r): ∀k,itr f (d * k) r=r
 |0=>rfl
 |k+1=>by rw[Nat.mul_succ,b6p,a7k h k,h]
theorem b2x(ts:LN)(r:Nat)(u v:Nsq):a4o ts r (u++v)=a4o ts (a4o ts r u) v:=by
 unfold a4o
 rw[a3W]
def c9n(u:Nsq):Nat->List Nat
 |0=>[]
 |k+1=>u++c9n u k
theorem b8u(ts:LN)(u:Nsq): ∀(k r:Nat),a4o ts r (c9n u k)=itr (fun r=>a4o ts r u) k r
 |0,_=>rfl
 |k+1,r=>by
  show a4o ts r (u++c9n u k)=_
  rw[b2x,b8u ts u k]
  rfl
theorem b8v{u:Nsq}{l:Nat}: ∀{k:Nat},l∈c9n u k->l∈u
 |0,h=>nomatch h
 |k+1,h=>(a0L.mp h).elim id b8v
theorem a8s(ts:LN)(x u v:Nsq):a2l (a0m ts) x (u++v)=a2l (a0m ts) (a2l (a0m ts) x u) v:=by
 unfold a2l
 rw[a3W]
theorem a6v{n:Nat}{x y:Nsq}(hx:x∈a1f n)(hy:y∈a1f n)(h: ∀r,r∈x↔r∈y):x=y:=by
 rw[<-(mem_setsU.mp hx).1,<-(mem_setsU.mp hy).1]
 exact b5a h
theorem b6q{n:Nat}{x:Nsq}(hx:x∈a1f n):x.Nodup:=by
 rw[<-(mem_setsU.mp hx).1]
 unfold a1w
 exact List.Nodup.sublist a8N List.nodup_range
theorem a1y{H:Hp}{m:Addr}{ts:LN}{n:Nat}(M:Mach H m ts n){x word:Nsq}(hx:x∈a1f n)(hw: ∀l∈word,l<ts.length){r:Nat}:r∈a2l (a0m ts) x word↔ ∃r0∈x,a4o ts r0 word=r:=by
 have n5:=M.n5
 rw[a6r M word x hx hw]
 constructor
 ·intro h
  obtain⟨r0,h1,h2⟩:=a0Q.mp (a8q h)
  exact⟨r0,h1,h2⟩
 ·rintro⟨r0,h1,rfl⟩
  have:=a4h M word r0 ((mem_setsU.mp hx).2 r0 h1) hw
  exact b8n (a0Q.mpr ⟨r0,h1,rfl⟩) (by lia)
theorem a2c{H:Hp}{m:Addr}{ts:LN}{n:Nat}(M:Mach H m ts n){x word:Nsq}(hx:x∈a1f n)(hw: ∀l∈word,l<ts.length):a2l (a0m ts) x word∈a1f n:=a7e hx (fun y hy l hl=>a7j M hy hl) word hw
structure Bij(ts:LN)(x y w p:Nsq):Prop where
 to:a2l (a0m ts) x w=y
 fro:a2l (a0m ts) y p=x
 lw: ∀l∈w,l<ts.length
 lp: ∀l∈p,l<ts.length
 here: ∀r∈x,a4o ts (a4o ts r w) p=r
 there: ∀r∈y,a4o ts (a4o ts r p) w=r
theorem Bij.symm{ts:LN}{x y w p:Nsq}(b:Bij ts x y w p):Bij ts y x p w:=⟨b.fro,b.to,b.lp,b.lw,b.there,b.here⟩
theorem c8i{x:Nsq}{f:Nat->Nat}(nd:x.Nodup)(on: ∀r∈x,∃r0∈x,f r0=r): ∀a∈x,∀b∈x,f a=f b->a=b:=fun a ha b hb e=>by
 by_cases ne:a=b
 ·exact ne
 have z:=a5H (l₂:=(x.erase a).map f) nd fun r hr=>by
  obtain⟨r0,h1,h2⟩:=on r hr
  by_cases ra:r0=a
  ·exact a0Q.mpr ⟨b,(List.mem_erase_of_ne (a3K ne)).mpr hb,by rw[<-e,<-ra,h2]⟩
  ·exact a0Q.mpr ⟨r0,(List.mem_erase_of_ne ra).mpr h1,h2⟩
 rw[a0D,List.length_erase_of_mem ha]at z
 have:=a7A ha
 lia
theorem c5g{x:Nsq}{f:Nat->Nat}(cl: ∀r∈x,f r∈x): ∀(k r:Nat),r∈x->itr f k r∈x
 |0,_,h=>h
 |k+1,r,h=>c5g cl k (f r) (cl r h)
theorem c5h{x:Nsq}{f:Nat->Nat}(cl: ∀r∈x,f r∈x)(inj: ∀a∈x,∀b∈x,f a=f b->a=b): ∀(k:Nat),∀a∈x,∀b∈x,itr f k a=itr f k b->a=b
 |0,_,_,_,_,e=>e
 |k+1,a,ha,b,hb,e=>inj a ha b hb (c5h cl inj k (f a) (cl a ha) (f b) (cl b hb) e)
theorem round{x:Nsq}{f:Nat->Nat}(l5:x.length<=5)(cl: ∀r∈x,f r∈x)(inj: ∀a∈x,∀b∈x,f a=f b->a=b)(r:Nat)(hr:r∈x):itr f 60 r=r:=by
 have: ∃d,1<=d/\d<=5/\itr f d r=r:=by
  by_cases h: ∃i j,i<j/\j<=5/\itr f i r=itr f j r
  ·obtain⟨i,j,h1,h2,h3⟩:=h
   refine⟨j-i,by lia,by lia,?_⟩;have e:j=(j-i)+i:=by lia
   rw[e,b6p]at h3;exact(c5h cl inj i r hr _ (c5g cl (j-i) r hr) h3).symm
  ·have nd:((List.range 6).map fun i=>itr f i r).Nodup:=by
    rw[List.nodup_iff_pairwise_ne,a7G];refine List.Pairwise.imp_of_mem ?_ List.pairwise_lt_range;intro i j hi hj lt e;exact h ⟨i,j,lt,by have:=a2J.mp hj;lia,e⟩
   have z:=a5H (l₂:=x) nd fun y hy=>by
    obtain⟨i,_,rfl⟩:=a0Q.mp hy;exact c5g cl i r hr
   rw[a0D,a5F]at z;lia
 obtain⟨d,h1,h2,h3⟩:=this
 have:d=1∨d=2∨d=3∨d=4∨d=5:=by lia
 rcases this with rfl|rfl|rfl|rfl|rfl
 ·exact a7k h3 60
 ·exact a7k h3 30
 ·exact a7k h3 20
 ·exact a7k h3 15
 ·exact a7k h3 12
theorem c9o{H:Hp}{m:Addr}{ts:LN}{n:Nat}(M:Mach H m ts n){x y w:Nsq}(hx:x∈a1f n)(lw: ∀l∈w,l<ts.length)(e:a2l (a0m ts) x w=y)(back:Rch ts y x): ∃p,Bij ts x y w p:=by
 obtain⟨v,lv,ev⟩:=back
 have hy:y∈a1f n:=by rw[<-e];exact a2c M hx lw
 have lwv: ∀l∈w++v,l<ts.length:=fun l hl=>(a0L.mp hl).elim (lw l) (lv l)
 have ex:a2l (a0m ts) x (w++v)=x:=by rw[a8s,e,ev]
 have cl: ∀r∈x,a4o ts r (w++v)∈x:=fun r hr=>by
  have z:=(a1y M hx lwv).mpr ⟨r,hr,rfl⟩
  rw[ex]at z
  exact z
 have on: ∀r∈x,∃r0∈x,a4o ts r0 (w++v)=r:=fun r hr=>(a1y M hx lwv).mp (by rw[ex];exact hr)
 have inj:=c8i (b6q hx) on
 have rd:=round (f:=fun r=>a4o ts r (w++v)) (a0Y (a3v M.n5 hx) M.n5) cl inj
 have here: ∀r∈x,a4o ts (a4o ts r w) (v++c9n (w++v) 59)=r:=fun r hr=>by
  rw[<-b2x,<-a1H,b2x,b8u]
  exact rd r hr
 have lp: ∀l∈v++c9n (w++v) 59,l<ts.length:=fun l hl=>(a0L.mp hl).elim (lv l) fun h=>lwv l (b8v h)
 have there: ∀r∈y,a4o ts (a4o ts r (v++c9n (w++v) 59)) w=r:=fun r hr=>by
  rw[<-e]at hr
  obtain⟨r0,h1,rfl⟩:=(a1y M hx lw).mp hr
  rw[here r0 h1]
 refine⟨v++c9n (w++v) 59,e,a6v (a2c M hy lp) hx fun r=>?_,lw,lp,here,there⟩
 rw[a1y M hy lp]
 constructor
 ·rintro⟨r0,h1,rfl⟩
  rw[<-e]at h1
  obtain⟨r1,h2,rfl⟩:=(a1y M hx lw).mp h1
  rw[here r1 h2]
  exact h2
 ·intro h
  exact⟨a4o ts r w,by rw[<-e];exact(a1y M hx lw).mpr ⟨r,h,rfl⟩,here r h⟩
theorem Bij.back{H:Hp}{m:Addr}{ts:LN}{n:Nat}(M:Mach H m ts n){x y w p u:Nsq}(b:Bij ts x y w p)(hu:u∈a1f n)(s:sub u x=true):a2l (a0m ts) (a2l (a0m ts) u w) p=u:=by
 have s':=sub_iff.mp s
 have h1:=a2c M hu b.lw
 refine a6v (a2c M h1 b.lp) hu fun r=>?_
 rw[a1y M h1 b.lp]
 constructor
 ·rintro⟨r0,z1,rfl⟩
  obtain⟨r1,z2,rfl⟩:=(a1y M hu b.lw).mp z1
  rw[b.here r1 (s' r1 z2)]
  exact z2
 ·intro z
  exact⟨a4o ts r w,(a1y M hu b.lw).mpr ⟨r,z,rfl⟩,b.here r (s' r z)⟩
theorem b2y{H:Hp}{m:Addr}{ts:LN}{n:Nat}(M:Mach H m ts n){u v w:Nsq}(hu:u∈a1f n)(hv:v∈a1f n)(lw: ∀l∈w,l<ts.length)(s:sub u v=true):sub (a2l (a0m ts) u w) (a2l (a0m ts) v w)=true:=by
 refine sub_iff.mpr fun r hr=>?_
 obtain⟨r0,z1,rfl⟩:=(a1y M hu lw).mp hr
 exact(a1y M hv lw).mpr ⟨r0,sub_iff.mp s r0 z1,rfl⟩
theorem c9p{H:Hp}{m:Addr}{ts:LN}{n:Nat}{fam:LN}(M:Mach H m ts n)(ff:FamOf ts n fam){u w:Nsq}(hu:u∈fam)(lw: ∀l∈w,l<ts.length):a2l (a0m ts) u w∈fam:=by
 have n5:=M.n5
 refine(ff.mem _).mpr ?_
 rcases (ff.mem u).mp hu with⟨w0,h1,h2⟩|⟨r,hr,rfl⟩
 ·refine .inl ⟨w0++w,fun l hl=>(a0L.mp hl).elim (h1 l) (lw l),?_⟩
  rw[a8s,h2]
 ·have lt:=a4h M w r hr lw
  refine .inr ⟨a4o ts r w,lt,a6v (a2c M (b5b n5 hr) lw) (b5b n5 lt) fun r'=>?_⟩
  rw[a1y M (b5b n5 hr) lw]
  constructor
  ·rintro⟨r0,z1,rfl⟩
   rw[a0H.mp z1];exact a0H.mpr rfl
  ·intro z
   exact⟨r,a0H.mpr rfl,(a0H.mp z).symm⟩
theorem c8j{n:Nat}{u v:Nsq}(hu:u∈a1f n)(hv:v∈a1f n)(a:sub u v=true)(b:sub v u=true):u=v:=a6v hu hv fun r=>⟨sub_iff.mp a r,sub_iff.mp b r⟩
theorem c5i{u v w:Nsq}(a:sub u v=true)(b:sub v w=true):sub u w=true:=sub_iff.mpr fun r hr=>sub_iff.mp b r (sub_iff.mp a r hr)
theorem b2z{H:Hp}{m:Addr}{ts:LN}{n:Nat}{fam:LN}(M:Mach H m ts n)(ff:FamOf ts n fam){x u:Nsq}:u∈a1t fam x↔u∈fam/\u≠x/\sub u x=true/\ ∀v∈fam,v≠x->sub v x=true->sub u v=true->v=u:=by
 have tf:=a3b M ff x
 constructor
 ·intro hu
  obtain⟨h1,h2,h3⟩:=tf.mem u hu
  refine⟨h1,h2,h3,fun v hv v1 v2 v3=>?_⟩
  obtain⟨t,ht,st⟩:=tf.all v hv v1 v2
  have ut:u=t:=by
   by_cases e:u=t
   ·exact e
   ·have z:=tf.apart u hu t ht e
    rw[c5i v3 st]at z;cases z
  subst ut
  exact c8j (ff.inU M hv) (ff.inU M h1) st v3
 ·rintro⟨h1,h2,h3,h4⟩
  obtain⟨t,ht,st⟩:=tf.all u h1 h2 h3
  obtain⟨t1,t2,t3⟩:=tf.mem t ht
  rw[<-h4 t t1 t2 t3 st]
  exact ht
theorem b6r{H:Hp}{m:Addr}{ts:LN}{n:Nat}{fam:LN}(M:Mach H m ts n)(ff:FamOf ts n fam){x y w p u:Nsq}(hx:x∈a1f n)(b:Bij ts x y w p)(hu:u∈a1t fam x):a2l (a0m ts) u w∈a1t fam y:=by
 obtain⟨h1,h2,h3,h4⟩:=(b2z M ff).mp hu
 have hy:y∈a1f n:=by rw[<-b.to];exact a2c M hx b.lw
 have uU:=ff.inU M h1
 have gU:=a2c M uU b.lw
 have su:sub (a2l (a0m ts) u w) y=true:=by
  have z:=b2y M uU hx b.lw h3
  rw[b.to]at z
  exact z
 refine(b2z M ff).mpr ⟨c9p M ff h1 b.lw,fun e=>h2 ?_,su,fun v hv v1 v2 v3=>?_⟩
 ·rw[<-b.back M uU h3,e,b.fro]
 ·have vU:=ff.inU M hv
  have bs:=b.symm
  have z1:=c9p M ff hv b.lp
  have z2:a2l (a0m ts) v p≠x:=fun e=>v1 (by rw[<-bs.back M vU v2,e,b.to])
  have z3:sub (a2l (a0m ts) v p) x=true:=by
   have z:=b2y M vU hy b.lp v2;rw[b.fro]at z;exact z
  have z4:sub u (a2l (a0m ts) v p)=true:=by
   have z:=b2y M gU vU b.lp v3;rw[b.back M uU h3]at z;exact z
  rw[<-bs.back M vU v2,h4 _ z1 z2 z3 z4]
def LvH(H:Hp)(a:Addr)(c us:LN)(wds:LN):Prop:= ∃(s t v:Addr) (bs ds cs:As),H a=some (.tup [.ref s,.ref t,.ref v])/\H s=some (.lst (bs.map .ref))/\TupsAt H bs c/\H t=some (.lst (ds.map .ref))/\TupsAt H ds us/\H v=some (.lst (cs.map .ref))/\cs.length=wds.length/\ ∀(k:Nat) (b:Addr) (wd:Nsq),cs[k]? =some b->wds[k]? =some wd->H b=some (.lst (wd.map nv))
theorem LvH.same{H H':Hp}{a:Addr}{c us wds:LN}(h:LvH H a c us wds)(g:Same H H'):LvH H' a c us wds:=by
 obtain⟨s,t,v,bs,ds,cs,h1,h2,h3,h4,h5,h6,h7,h8⟩:=h
 exact⟨s,t,v,bs,ds,cs,g _ _ h1,g _ _ h2,h3.same g,g _ _ h4,h5.same g,g _ _ h6,h7,fun k b wd e1 e2=>g _ _ (h8 k b wd e1 e2)⟩
structure LvP(ts fam:LN)(c us wds:LN):Prop where
 cls:c∈classes ts (big fam)
 tl:us=a1t fam (c.headD [])
 len:wds.length=c.length
 go: ∀(k:Nat) (x wd:Nsq),c[k]? =some x->wds[k]? =some wd->(∀l∈wd,l<ts.length)/\a2l (a0m ts) (c.headD []) wd=x
def c5j:Sp:=fun vs H Q _=> ∃(m a:Addr) (k j:Nat) (ts:LN) (n:Nat) (c us wds:LN) (u wd:Nsq),vs=[.ref m,.ref a,nv k,nv j]/\Mach H m ts n/\LvH H a c us wds/\us[j]? =some u/\wds[k]? =some wd/\u∈a1f n/\(∀l∈wd,l<ts.length)/\d3j H ((a2l (a0m ts) u wd).map nv) Q
def a9w:Sp:=fun vs H Q _=> ∃(m a:Addr) (k:Nat) (ts:LN) (n:Nat) (c us wds:LN) (wd:Nsq),vs=[.ref m,.ref a,nv k]/\Mach H m ts n/\LvH H a c us wds/\wds[k]? =some wd/\(∀u∈us,u∈a1f n)/\us.length<=32/\(∀l∈wd,l<ts.length)/\
 ∀l es H',Same H H'->H' l=some (.lst (es.map .ref))->TupsAt H' es (us.map fun u=>a2l (a0m ts) u wd)->Q (.ref l) H'
def a1p(ts us:LN)(wd wd2:Nsq)(l:Nat)(js:Nsq):Prop:=js.length=us.length/\ ∀(j:Nat) (u:Nsq) (j':Nat),us[j]? =some u->js[j]? =some j'-> ∃u',us[j']? =some u'/\a2l (a0m ts) u' wd2=a0m ts (a2l (a0m ts) u wd) l
def b3a:Sp:=fun vs H Q _=> ∃(m a:Addr) (k l:Nat) (ts:LN) (n:Nat) (fam c us wds:LN) (x wd:Nsq),vs=[.ref m,.ref a,nv k,nv l]/\Mach H m ts n/\FamOf ts n fam/\LvH H a c us wds/\LvP ts fam c us wds/\c[k]? =some x/\wds[k]? =some wd/\l<ts.length/\
 (a0m ts x l∉c-> ∀H',Same H H'->Q .non H')/\ ∀(k':Nat) (wd':Nsq),c[k']? =some (a0m ts x l)->wds[k']? =some wd'-> ∀p js H',Same H H'->H' p=some (.tup (js.map nv))->a1p ts us wd wd' l js->Q (.ref p) H'
theorem a9x{α:Type}{d:α}: ∀{ds:List α},d∈ds-> ∃j:Nat,ds[j]? =some d/\ ∀i:Nat,i<j->ds[i]? ≠some d
 | [],h=>nomatch h
 | e::ds,h=>by
  by_cases z:e=d
  ·exact⟨0,by rw[z];rfl,fun i hi=>absurd hi (a6U i)⟩
  ·obtain⟨j,h1,h2⟩:=a9x (ds:=ds) ((a1C.mp h).resolve_left fun e'=>z e'.symm)
   refine⟨j+1,h1,fun i hi=>?_⟩;cases i with
   |zero=>exact fun e'=>z (by injection e')
   |succ i=>exact h2 i (by lia)
theorem in_dts{u:Nsq}{fam:LN}:Dt.tup (dtN u)∈fam.map (fun u=>Dt.tup (dtN u))↔u∈fam:=d4q
theorem at_dts{u:Nsq}{fam:LN}{j:Nat}:(fam.map fun u=>Dt.tup (dtN u))[j]? =some (Dt.tup (dtN u))↔fam[j]? =some u:=by
 rw[a0G]
 constructor
 ·intro h
  obtain⟨v,e1,e2⟩:=a0O.mp h
  injection e2 with e2
  rw[<-b6l e2]
  exact e1
 ·intro h
  rw[h]
  rfl
theorem LvP.bij{H:Hp}{m:Addr}{ts:LN}{n:Nat}{fam c us wds:LN}(M:Mach H m ts n)(ff:FamOf ts n fam)(lp:LvP ts fam c us wds){k:Nat}{x wd:Nsq}(ex:c[k]? =some x)(ew:wds[k]? =some wd): ∃p,Bij ts (c.headD []) x wd p:=by
 obtain⟨_,_,cx,call⟩:=a0t lp.cls
 obtain⟨l1,l2⟩:=lp.go k x wd ex ew
 exact c9o M (ff.inU M (a1O.mp cx).1) l1 l2 (call x (a0E ex)).2.2
theorem c5k{H:Hp}{m:Addr}{ts:LN}{n:Nat}{fam c us wds:LN}(M:Mach H m ts n)(ff:FamOf ts n fam)(lp:LvP ts fam c us wds){k k' l:Nat}{x wd wd':Nsq}(ex:c[k]? =some x)(ew:wds[k]? =some wd)(ll:l<ts.length)(ey:c[k']? =some (a0m ts x l))(ew':wds[k']? =some wd'){u:Nsq}(hu:u∈us):a0m ts (a2l (a0m ts) u wd) l∈us.map fun u=>a2l (a0m ts) u wd':=by
 obtain⟨_,_,cx,call⟩:=a0t lp.cls
 have fU:=ff.inU M (a1O.mp cx).1
 obtain⟨p,b1⟩:=lp.bij M ff ex ew
 obtain⟨p',b3⟩:=lp.bij M ff ey ew'
 obtain⟨xb,rx1,rx2⟩:=call x (a0E ex)
 obtain⟨yb,ry1,ry2⟩:=call _ (a0E ey)
 have xU:=ff.inU M (a1O.mp xb).1
 have yU:=ff.inU M (a1O.mp yb).1
 obtain⟨p2,b2⟩:=c9o M (w:=[l]) xU (fun z hz=>by rw[a0H.mp hz];exact ll) rfl (ry2.trans rx1)
 have hu':=hu
 rw[lp.tl]at hu'
 have t1:=b6r M ff fU b1 hu'
 have t2:a0m ts (a2l (a0m ts) u wd) l∈a1t fam (a0m ts x l):=b6r M ff xU b2 t1
 obtain⟨f1,f2,f3,_⟩:=(b2z M ff).mp t2
 have t3:=b6r M ff yU b3.symm t2
 rw[<-lp.tl]at t3
 exact a0Q.mpr ⟨_,t3,b3.symm.back M (ff.inU M f1) f3⟩
theorem LvP.nd{ts:LN}{n:Nat}{fam c us wds:LN}(ff:FamOf ts n fam)(lp:LvP ts fam c us wds):c.Nodup:=by
 have fnd:fam.Nodup:=ff.up.imp fun {a b} z e=>by
  subst e
  rw[(a2t gl fam).irr]at z
  cases z
 rw[(a0t lp.cls).2.1]
 exact List.Nodup.sublist (a8N.trans a8N) fnd
theorem LvP.inU{H:Hp}{m:Addr}{ts:LN}{n:Nat}{fam c us wds:LN}(M:Mach H m ts n)(ff:FamOf ts n fam)(lp:LvP ts fam c us wds):(∀u∈us,u∈a1f n)/\us.length<=32:=by
 have tf:=a3b M ff (c.headD [])
 rw[<-lp.tl]at tf
 exact⟨fun u hu=>ff.inU M (tf.mem u hu).1,tf.few⟩
theorem d1y(F:Fun K "tile" "tile" d1s f fd)(c_carried:a0q P w K mg base "carried" 3 ["machine","rooms","word"] (a5b K)):FnOk P w K mg base CX0 5 f fd ["machine","level","k","j"] c5j:=by
 refine F.ok d4l (fun vs H Q E h=>?_) (fun cdv A outer s H vs Q E hr h=>?_)
 ·obtain⟨m,a,k,j,ts,n,c,us,wds,u,wd,rfl,_⟩:=h
  rfl
 obtain⟨m,a,k,j,ts,n,c,us,wds,u,wd,rfl,M,lv,eu,ew,hU,lw,q⟩:=h
 have hu:=hr.units
 obtain⟨s',t',v',bs,ds,cs,h1,h2,h3,h4,h5,h6,h7,h8⟩:=lv
 have l5:=h5.len
 have lj:=(a0B.mp eu).1
 have lk:=(a0B.mp ew).1
 obtain⟨d,ed⟩: ∃d,ds[j]? =some d:=⟨_,a0A (by lia)⟩
 obtain⟨b,eb⟩: ∃b,cs[k]? =some b:=⟨_,a0A (by lia)⟩
 have hd:=h5.is j d u ed eu
 have hb:=h8 k b wd eb ew
 refine⟨_,(a0j (a0w (a0k c_carried hr.m rfl (a0y (a0b (pv 0) (a0b (a1h a2f (a1h a1k (pv 1) a0p (fun _ _=>rfl)) (pv 3) (fun _ _=>rfl)) (a0b (a1h a2f (a1h a1k (pv 1) a0p (fun _ _=>rfl)) (pv 2) (fun _ _=>rfl)) a0r rfl) rfl) rfl))))),?_⟩
 refine⟨_,rfl,_,rfl,a,_,_,_,rfl,rfl,SqT.of h1,rfl,_,rfl,t',_,_,_,rfl,rfl,SqL.of h4,a3r (by rw[a0G,ed];rfl),_,rfl,a,_,_,_,rfl,rfl,SqT.of h1,rfl,_,rfl,v',_,_,_,rfl,rfl,SqL.of h6,a3r (by rw[a0G,eb];rfl),m,d,b,ts,n,u,wd,rfl,M,SqT.of hd,a0Y (a3v M.n5 hU) M.n5,(mem_setsU.mp hU).2,SqL.of hb,lw,fun p H2 g2 e2=>?_⟩
 rw[<-a6r M wd u hU lw]at e2
 exact q p H2 g2 e2
theorem a9y(F:Fun K "tiles_of_set" "tiles_of_set" a4f f fd)(c_tile:a0q P w K mg base "tile" 5 ["machine","level","k","j"] c5j)(m_len:mg "len"=none)(m_range:mg "range"=none):FnOk P w K mg base CX0 7 f fd ["machine","level","k"] a9w:=by
 refine F.ok b4u (fun vs H Q E h=>?_) (fun cdv A outer s H vs Q E hr h=>?_)
 ·obtain⟨m,a,k,ts,n,c,us,wds,wd,rfl,_⟩:=h
  rfl
 obtain⟨m,a,k,ts,n,c,us,wds,wd,rfl,M,lv,ew,uU,few,lw,q⟩:=h
 have hu:=hr.units
 obtain⟨s',t',v',bs,ds,cs,h1,h2,h3,h4,h5,h6,h7,h8⟩:=id lv
 have l5:=h5.len
 refine⟨_,(a0j (a0w (a1d (CompSc.to (N:=["machine","level","k"]) (osc:=a0e a4f) (vs:=["j"]) {}) rfl rfl (a2e rfl m_range (a0f (a0n a0l rfl m_len a4F (a0f (a1h a1k (pv 1) a0p (fun _ _=>rfl)) a0i)) a0i)) (fun _ _ _ _=>a2h) (fun _ _ _ _=>(a0k c_tile hr.m rfl (a0y (a0b (pv 1) (a0b (pv 2) (a0b (pv 3) (a0b (pv 0) a0r rfl) rfl) rfl) rfl))))))),?_⟩
 refine⟨_,rfl,a,_,_,_,rfl,rfl,SqT.of h1,rfl,t',_,rfl,.inl (SqL.of h4),(us.length:Int),by rw[a0D,l5],by lia,by lia,a3s (fun i ys H'=>Same H H'/\ ∃es,ys=es.map V.ref/\es.length=i/\TupsAt H' es ((us.take i).map fun u=>a2l (a0m ts) u wd)) (by rw[a1W];exact small (by lia)) ⟨Same.refl _,[],rfl,rfl,rfl,fun i b u e=>by simp at e⟩ (fun i ys H' _ p=>?_) (fun i ys H' hi p=>?_) (fun ys H1 p sg hsg=>?_)⟩
 ·obtain⟨_,es,rfl,e,_⟩:=p
  rw[a0D]
  lia
 ·obtain⟨g,es,rfl,e,T1⟩:=p
  have e0:V.int (0+(i:Int))=nv i:=by show V.int (0+(i:Int))=V.int (i:Int);rw[a7S]
  have hi':i<us.length:=by simpa using hi
  obtain⟨u,eu⟩: ∃u,us[i]? =some u:=⟨_,a0A hi'⟩
  rw[e0]
  refine⟨a1c,a4k ⟨_,rfl,_,rfl,_,rfl,_,rfl,m,a,k,i,ts,n,c,us,wds,u,wd,rfl,M.same g,lv.same g,eu,ew,uU u (a0E eu),lw,fun p H2 g2 e2=>?_⟩⟩
  refine⟨g.trans g2,es++[p],by simp,by simp[e],?_⟩
  rw[a1V,eu,a1G]
  exact a3w (T1.same g2) e2
 obtain⟨g1,es,rfl,er,T1⟩:=p
 rw[a1W,a1Q]at T1
 have k1:=a0d hsg (.lst (es.map V.ref))
 exact q sg es _ (g1.trans k1) a0a (T1.same k1)
theorem a9z(F:Fun K "tiles_turned" "tiles_turned" a3p f fd)(c_carried:a0q P w K mg base "carried" 3 ["machine","rooms","word"] (a5b K))(c_tiles_of_set:a0q P w K mg base "tiles_of_set" 7 ["machine","level","k"] a9w)(m_tuple:mg "tuple"=none):FnOk P w K mg base CX0 9 f fd ["machine","level","k","letter"] b3a:=by
 refine F.ok scTilesTurned (fun vs H Q E h=>?_) (fun cdv A outer s H vs Q E hr h=>?_)
 ·obtain⟨m,a,k,l,ts,n,fam,c,us,wds,x,wd,rfl,_⟩:=h
  rfl
 obtain⟨m,a,k,l,ts,n,fam,c,us,wds,x,wd,rfl,M,ff,lv,lp,ex,ew,ll,q1,q2⟩:=h
 have hu:=hr.units
 obtain⟨s',t',v',bs,ds,cs,h1,h2,h3,h4,h5,h6,h7,h8⟩:=id lv
 obtain⟨cne,ceq,cx,call⟩:=a0t lp.cls
 have lb:=h3.len
 have lk:=(a0B.mp ex).1
 obtain⟨b,eb⟩: ∃b,bs[k]? =some b:=⟨_,a0A (by lia)⟩
 have hb:=h3.is k b x eb ex
 have bigU: ∀y∈big fam,y∈a1f n:=fun y hy=>ff.inU M (a1O.mp hy).1
 have mx:=a0E ex
 have hU:=bigU x (call x mx).1
 refine⟨_,(a0g (a0u (i:=4) scTilesTurned.nd rfl (Or.inl rfl) (a0k c_carried hr.m rfl (a0y (a0b (pv 0) (a0b (a1h a2f (a1h a1k (pv 1) a0p (fun _ _=>rfl)) (pv 2) (fun _ _=>rfl)) (a0b (a2r (a0f (pv 3) a0i)) a0r rfl) rfl) rfl)))) (a0g (a5n (a1r (c3q hu) (pv 4) (a1h a1k (pv 1) a0p (fun _ _=>rfl)) (by with_unfolding_all rfl)) (a0j (a0w b7a)) a2m) (a0g (a0u (i:=5) scTilesTurned.nd rfl (Or.inr rfl) (a0k c_tiles_of_set hr.m rfl (a0y (a0b (pv 0) (a0b (pv 1) (a0b (a6x a1T PySem.F.slot_list_index PySem.F.type_list_index (b4k hu) (a1h a1k (pv 1) a0p (fun _ _=>rfl)) (a0f (pv 4) a0i)) a0r rfl) rfl) rfl)))) (a0j (a0w (a1j a2g rfl m_tuple a7K (a0f (a1d (CompSc.to (N:=["machine","level","k","letter","there","ends"]) (osc:=a0e a3p) (vs:=["part"]) {}) rfl rfl (a1i (a0k c_tiles_of_set hr.m rfl (a0y (a0b (pv 0) (a0b (pv 1) (a0b (pv 2) a0r rfl) rfl) rfl)))) (fun _ _ _ _=>a2h) (fun _ _ _ _=>(d1e (K:=K) c3r rfl (a6x a1T PySem.F.slot_list_index PySem.F.type_list_index (b4k hu) (pv 6) (a0f (a0k c_carried hr.m rfl (a0y (a0b (pv 1) (a0b (pv 0) (a0b (a2r (a0f (pv 4) a0i)) a0r rfl) rfl) rfl))) a0i))))) a0i))))))),?_⟩
 obtain⟨uU,few⟩:=lp.inU M ff
 have lwd:=(lp.go k x wd ex ew).1
 have l1: ∀z∈[l],z<ts.length:=fun z hz=>by rw[a0H.mp hz];exact ll
 refine⟨_,rfl,_,rfl,a,_,_,_,rfl,rfl,SqT.of h1,rfl,_,rfl,s',_,_,_,rfl,rfl,SqL.of h2,a3r (by rw[a0G,eb];rfl),_,rfl,by show 1<=sizeLine;decide,fun p1 hp1=>?_⟩
 have kp:=a0d hp1 (.lst [nv l])
 refine⟨m,b,p1,ts,n,x,[l],rfl,M.same kp,SqT.of (kp _ _ hb),a0Y (a3v M.n5 hU) M.n5,(mem_setsU.mp hU).2,SqL.of a0a,l1,fun th H2 g2' e2=>?_⟩
 have g2:=kp.trans g2'
 have e2':H2 th=some (.tup ((a0m ts x l).map nv)):=e2
 generalize hy:a0m ts x l=y at e2' q1 q2
 have lvc:=g2 _ _ h2
 refine⟨_,rfl,_,rfl,a,_,_,_,rfl,rfl,SqT.of (g2 _ _ h1),rfl,s',1,.tup (dtN y),c.map fun u=>Dt.tup (dtN u),_,rfl,SqL.of lvc,by rw[a0D,a0D,lb],a7c (SqT.of e2'),a9v (h3.same g2),by decide,fun cc hc=>⟨_,rfl,?_⟩⟩
 by_cases my:y∈c
 ·have hc':cc=true:=hc.mpr (in_dts.mpr my)
  subst hc'
  refine b0d ?_
  obtain⟨k',ey,no⟩:=a9x my
  have lk':=(a0B.mp ey).1
  obtain⟨wd',ew'⟩: ∃wd',wds[k']? =some wd':=⟨_,a0A (by rw[lp.len];exact lk')⟩
  have lwd':=(lp.go k' y wd' ey ew').1
  refine⟨_,rfl,_,rfl,_,rfl,a,_,_,_,rfl,rfl,SqT.of (g2 _ _ h1),rfl,.inl ⟨rfl,_,SqL.of lvc⟩,_,rfl,s',_,1,.tup (dtN y),c.map fun u=>Dt.tup (dtN u),_,k',rfl,rfl,SqL.of lvc,by rw[a0D,a0D,lb],a7c (SqT.of e2'),a9v (h3.same g2),by decide,at_dts.mpr ey,fun i hi e=>no i hi (at_dts.mp e),?_⟩
  refine⟨m,a,k',ts,n,c,us,wds,wd',rfl,M.same g2,lv.same g2,ew',uU,few,lwd',fun en es H3 g3' een Ten=>?_⟩
  have g3:=g2.trans g3'
  have len:=Ten.len
  rw[a0D]at len
  refine⟨_,rfl,_,rfl,_,rfl,m,a,k,ts,n,c,us,wds,wd,rfl,M.same g3,lv.same g3,ew,uU,few,lwd,fun pl ps H4 g4' epl Tps=>?_⟩
  have g4:=g3.trans g4'
  have lps:=Tps.len
  rw[a0D]at lps
  refine⟨pl,rfl,⟨_,SqL.of epl⟩,a1v (xs:=ps.map .ref) (fun i ys' H'=>Same H4 H'/\ ∃js:Nsq,ys'=js.map nv/\js.length=i/\ ∀(j:Nat) (u:Nsq) (j':Nat),us[j]? =some u->js[j]? =some j'-> ∃u',us[j']? =some u'/\a2l (a0m ts) u' wd'=a0m ts (a2l (a0m ts) u wd) l) (by rw[a0D,a1B];lia) ⟨Same.refl _,[],rfl,rfl,fun j u j' _ e=>by simp at e⟩ (fun i ys' H' hi p=>?_) (fun i v ys' H' hv p=>?_) (fun ys' H5 p tl htl=>?_)⟩
  ·obtain⟨g,js,rfl,e,_⟩:=p
   exact⟨SqL.of (g _ _ epl),by rw[a0D];lia⟩
  ·obtain⟨g,js,rfl,e,al⟩:=p
   rw[a0G]at hv;obtain⟨d,ed,rfl⟩:=a0O.mp hv;have li:=(a0B.mp ed).1;obtain⟨u,eu⟩: ∃u,us[i]? =some u:=⟨_,a0A (by lia)⟩;have mu:=a0E eu;have hd:=g _ _ (Tps.is i d _ ed (by rw[a0G,eu];rfl));have guU:=a2c M (uU u mu) lwd;have gH:=g4.trans g;refine⟨a1c,a4k ⟨_,rfl,.inl ⟨rfl,_,SqL.of ((g4'.trans g) _ _ een)⟩,_,rfl,_,rfl,_,rfl,by show 1<=sizeLine;decide,fun p1 hp1=>?_⟩⟩;have kp:=a0d hp1 (.lst [nv l]);refine⟨m,d,p1,ts,n,_,[l],rfl,M.same (gH.trans kp),SqT.of (kp _ _ hd),a0Y (a3v M.n5 guU) M.n5,(mem_setsU.mp guU).2,SqL.of a0a,l1,fun ca H6 g6' e6=>?_⟩;have e6':H6 ca=some (.tup ((a0m ts (a2l (a0m ts) u wd) l).map nv)):=e6;have g6:=(g4'.trans g).trans (kp.trans g6');have mi:=c5k M ff lp ex ew ll (by rw[hy];exact ey) ew' mu;obtain⟨j0,ej0,no0⟩:=a9x mi;refine⟨en,_,1,.tup (dtN (a0m ts (a2l (a0m ts) u wd) l)),(us.map fun u=>a2l (a0m ts) u wd').map fun u=>Dt.tup (dtN u),_,j0,rfl,rfl,SqL.of (g6 _ _ een),by rw[a0D,a0D,a0D,len],a7c (SqT.of e6'),a9v (Ten.same g6),by decide,at_dts.mpr ej0,fun i hi e=>no0 i hi (at_dts.mp e),?_⟩;refine⟨g.trans (kp.trans g6'),js++[j0],by simp,by simp[e],fun j u2 j' e1 e2=>?_⟩;by_cases hj:j<js.length
   ·rw[a0R hj]at e2
    exact al j u2 j' e1 e2
   ·rw[a0P (by lia)]at e2
    have z:j-js.length=0:=by
     have:=(a0B.mp e2).1
     simp at this;lia
    rw[z]at e2;cases e2;have ji:j=i:=by lia
    subst ji;rw[eu]at e1;cases e1;rw[a0G]at ej0;obtain⟨u',f1,f2⟩:=a0O.mp ej0;exact⟨u',f1,f2⟩
  ·obtain⟨g5,js,rfl,ej,al⟩:=p
   rw[a0D]at ej;have kt:=a0d htl (.lst (js.map nv));refine⟨tl,_,rfl,.inl ⟨SqL.of a0a,fun r hr'=>?_⟩⟩;have kr:=a0d hr' (.tup (js.map nv));exact q2 k' wd' ey ew' r js _ (((g4.trans g5).trans kt).trans kr) a0a ⟨by lia,al⟩
 ·have hc':cc=false:=by
   cases cc with
   |false=>rfl
   |true=>exact absurd (in_dts.mp (hc.mp rfl)) my
  subst hc'
  exact b0n (q1 my H2 g2)
theorem hqT0:(tabsL[0]'(by decide))∈tabsL:=a2O _
theorem hqT1:(tabsL[1]'(by decide))∈tabsL:=a2O _
def img(t u:Nsq):Nsq:=a1w (u.map fun r=>t.getD r 0)
theorem mem_nrm{xs:Nsq}{r:Nat}:r∈a1w xs↔r<5/\r∈xs:=by
 unfold a1w
 rw[a1O,a2J,a1F]
theorem d4r{xs ys:Nsq}(h: ∀r,r∈xs↔r∈ys):a1w xs=a1w ys:=by
 unfold a1w
 refine a6G fun i _=>?_
 rw[a3P,a1F,a1F]
 exact h i
theorem c8k{f:Nat->Nat}{n r:Nat}(h:r<n):((List.range n).map f).getD r 0=f r:=by
 rw[a0N,a0G,a3V h]
 rfl
theorem c8l{H:Hp}{m:Addr}{ts:LN}{n:Nat}(M:Mach H m ts n){u w:Nsq}(hu:u∈a1f n)(lw: ∀l∈w,l<ts.length):a2l (a0m ts) u w=img (c0j ts n w) u:=by
 rw[a6r M w u hu lw]
 unfold img a7v c0j
 congr 1
 refine a4O fun r hr=>?_
 rw[c8k ((mem_setsU.mp hu).2 r hr)]
theorem c0s{H:Hp}{m:Addr}{ts:LN}{n:Nat}(M:Mach H m ts n){w:Nsq}(lw: ∀l∈w,l<ts.length):c0j ts n w∈a6q n n:=by
 refine mem_mapsU.mpr ⟨c4q ts n w,fun r hr=>?_⟩
 obtain⟨x,hx,rfl⟩:=a0Q.mp hr
 exact a4h M w x (a2J.mp hx) lw
def ixl(us:LN)(x:Nsq):Nat:=us.findIdx fun y=>decide (y=x)
theorem c5l{us:LN}{x:Nsq}(h:x∈us):ixl us x<us.length/\us[ixl us x]? =some x:=by
 have l:ixl us x<us.length:=List.findIdx_lt_length_of_exists ⟨x,h,a1E rfl⟩
 refine⟨l,?_⟩
 rw[a0A l]
 have z:decide (us[ixl us x]=x)=true:=List.findIdx_getElem (p:=fun y=>decide (y=x)) (w:=l)
 rw[a2F z]
theorem c9q{us:LN}{x:Nsq}{j:Nat}(nd:us.Nodup)(h:us[j]? =some x):ixl us x=j:=by
 obtain⟨l,e⟩:=c5l (a0E h)
 exact(a2G l nd).mp (e.trans h.symm)
def ind(us:LN)(t:Nsq):Nsq:=us.map fun u=>ixl us (img t u)
def gU(us:LN)(n:Nat):LN:=((a6q n n).filter fun t=>us.all fun u=>us.contains (img t u)).map (ind us)
theorem mem_gU{us:LN}{n:Nat}{x:Nsq}:x∈gU us n↔ ∃t∈a6q n n,(∀u∈us,img t u∈us)/\x=ind us t:=by
 unfold gU
 rw[a0Q]
 constructor
 ·rintro⟨t,ht,rfl⟩
  obtain⟨h1,h2⟩:=a1O.mp ht
  exact⟨t,h1,fun u hu=>a1F.mp (a5O.mp h2 u hu),rfl⟩
 ·rintro⟨t,h1,h2,rfl⟩
  exact⟨t,a1O.mpr ⟨h1,a5O.mpr fun u hu=>a1F.mpr (h2 u hu)⟩,rfl⟩
theorem c9r{us:LN}{n:Nat}(h:n<=5):(gU us n).length<=4000:=by
 unfold gU
 rw[a0D]
 exact a0Y (a1K _ _) (c4s h)
theorem d1z{us:LN}{n:Nat}{x:Nsq}(h:x∈gU us n):x.length=us.length/\ ∀r∈x,r<us.length:=by
 obtain⟨t,_,g,rfl⟩:=mem_gU.mp h
 refine⟨by simp[ind],fun r hr=>?_⟩
 obtain⟨u,hu,rfl⟩:=a0Q.mp hr
 exact(c5l (g u hu)).1
theorem b8w{us:LN}{n:Nat}(nd:us.Nodup)(hU: ∀u∈us,u∈a1f n):List.range us.length∈gU us n:=by
 have id1: ∀u∈us,img (List.range n) u=u:=fun u hu=>by
  obtain⟨h1,h2⟩:=mem_setsU.mp (hU u hu)
  unfold img
  have:u.map (fun r=>(List.range n).getD r 0)=u.map id:=a4O fun r hr=>by
   rw[a0N,a3V (h2 r hr)];rfl
  rw[this,List.map_id,h1]
 refine mem_gU.mpr ⟨List.range n,b6i n,fun u hu=>by rw[id1 u hu];exact hu,?_⟩
 refine a3X fun j=>?_
 unfold ind
 rw[a0G]
 by_cases h:j<us.length
 ·rw[a3V h,a0A h]
  show some j=some (ixl us (img (List.range n) us[j]))
  rw[id1 _ (a2O h),c9q nd (a0A h)]
 ·rw[a1Y (by simp;lia),List.getElem?_eq_none (by lia)]
  rfl
theorem d2a{n:Nat}{t t2 u:Nsq}(n5:n<=5)(ht:t∈a6q n n)(hu:u∈a1f n):img t2 (img t u)=img (beh t t2) u:=by
 obtain⟨t1,t3⟩:=mem_mapsU.mp ht
 obtain⟨_,u2⟩:=mem_setsU.mp hu
 unfold img
 refine d4r fun r=>?_
 have e: ∀x∈u,(beh t t2).getD x 0=t2.getD (t.getD x 0) 0:=fun x hx=>by
  have hl:x<t.length:=by rw[t1];exact u2 x hx
  unfold beh
  rw[a0N,a0G,a0A hl,a0N (l:=t),a0A hl]
  rfl
 have lt5: ∀x∈u,t.getD x 0<5:=fun x hx=>by
  have:=a9h t3 (by rw[t1];exact u2 x hx)
  lia
 rw[a0Q,a0Q]
 constructor
 ·rintro⟨y,hy,rfl⟩
  obtain⟨_,hy⟩:=mem_nrm.mp hy
  obtain⟨x,hx,rfl⟩:=a0Q.mp hy
  exact⟨x,hx,e x hx⟩
 ·rintro⟨x,hx,rfl⟩
  exact⟨t.getD x 0,mem_nrm.mpr ⟨lt5 x hx,a0Q.mpr ⟨x,hx,rfl⟩⟩,(e x hx).symm⟩
theorem c5m{n:Nat}{t t2:Nsq}(h:t∈a6q n n)(h2:t2∈a6q n n):beh t t2∈a6q n n:=by
 obtain⟨a1,a2⟩:=mem_mapsU.mp h
 obtain⟨b1,b2⟩:=mem_mapsU.mp h2
 refine mem_mapsU.mpr ⟨by unfold beh;rw[List.length_map,a1],fun r hr=>?_⟩
 obtain⟨x,hx,rfl⟩:=a0Q.mp hr
 exact a9h b2 (by rw[b1];exact a2 x hx)
theorem c5n{us:LN}{n:Nat}{x y:Nsq}(n5:n<=5)(hU: ∀u∈us,u∈a1f n)(hx:x∈gU us n)(hy:y∈gU us n):beh x y∈gU us n:=by
 obtain⟨t,h1,g1,rfl⟩:=mem_gU.mp hx
 obtain⟨t2,h2,g2,rfl⟩:=mem_gU.mp hy
 have e: ∀u∈us,img (beh t t2) u=img t2 (img t u):=fun u hu=>(d2a n5 h1 (hU u hu)).symm
 refine mem_gU.mpr ⟨beh t t2,c5m h1 h2,fun u hu=>by rw[e u hu];exact g2 _ (g1 u hu),?_⟩
 unfold ind
 show(us.map fun u=>ixl us (img t u)).map (fun x=>(us.map fun u=>ixl us (img t2 u)).getD x 0)=_
 rw[a3O]
 refine a4O fun u hu=>?_
 obtain⟨l,ev⟩:=c5l (g1 u hu)
 show(us.map fun u=>ixl us (img t2 u)).getD (ixl us (img t u)) 0=ixl us (img (beh t t2) u)
 rw[a0N,a0G,ev,e u hu]
 rfl
theorem b3b{H:Hp}{m:Addr}{ts:LN}{n:Nat}{fam c us wds:LN}(M:Mach H m ts n)(ff:FamOf ts n fam)(lp:LvP ts fam c us wds):us.Nodup:=by
 have tf:=a3b M ff (c.headD [])
 rw[<-lp.tl]at tf
 exact tf.up.imp fun {a b} z e=>by
  subst e
  rw[c5f]at z
  cases z
theorem c5o{H:Hp}{m:Addr}{ts:LN}{n:Nat}{fam c us wds:LN}(M:Mach H m ts n)(ff:FamOf ts n fam)(lp:LvP ts fam c us wds){k k' l:Nat}{x wd wd' js:Nsq}(ex:c[k]? =some x)(ew:wds[k]? =some wd)(ll:l<ts.length)(ey:c[k']? =some (a0m ts x l))(ew':wds[k']? =some wd')(tb:a1p ts us wd wd' l js):
  js∈gU us n:=by
 obtain⟨uU,_⟩:=lp.inU M ff
 have nd:=b3b M ff lp
 have lwd:=(lp.go k x wd ex ew).1
 obtain⟨p,b⟩:=lp.bij M ff ey ew'
 have tf:=a3b M ff (c.headD [])
 rw[<-lp.tl]at tf
 have lw: ∀z∈wd++[l]++p,z<ts.length:=fun z hz=>by
  rcases a0L.mp hz with h|h
  ·rcases a0L.mp h with h|h
   ·exact lwd z h
   ·rw[a0H.mp h]
    exact ll
  ·exact b.lp z h
 have at1: ∀(j:Nat) (u:Nsq) (j':Nat),us[j]? =some u->js[j]? =some j'->us[j']? =some (img (c0j ts n (wd++[l]++p)) u):=fun j u j' eu ej=>by
  obtain⟨u',f1,f2⟩:=tb.2 j u j' eu ej
  have hu':=a0E f1
  rw[<-c8l M (uU u (a0E eu)) lw,a8s,a8s]
  show us[j']? =some (a2l (a0m ts) (a0m ts (a2l (a0m ts) u wd) l) p)
  rw[<-f2,b.back M (uU u' hu') (tf.mem u' hu').2.2]
  exact f1
 have lj:=tb.1
 refine mem_gU.mpr ⟨_,c0s M lw,fun u hu=>?_,?_⟩
 ·obtain⟨j,ej⟩:=a4X hu
  obtain⟨j',ej'⟩: ∃j',js[j]? =some j':=⟨_,a0A (by rw[lj];exact(a0B.mp ej).1)⟩
  exact a0E (at1 j u j' ej ej')
 ·refine a3X fun j=>?_
  unfold ind
  rw[a0G]
  cases ej:us[j]? with
  |none=>
   have:=List.getElem?_eq_none_iff.mp ej
   rw[a1Y (by lia)];rfl
  |some u=>
   have:=(a0B.mp ej).1
   obtain⟨j',ej'⟩: ∃j',js[j]? =some j':=⟨_,a0A (by lia)⟩;rw[ej'];exact a1Z some (c9q nd (at1 j u j' ej ej')).symm
theorem b6s{H:Hp}{m:Addr}{ts:LN}{n:Nat}{fam c us wds:LN}(M:Mach H m ts n)(ff:FamOf ts n fam)(lp:LvP ts fam c us wds){k' l:Nat}{y wd wd' js js':Nsq}(ey:c[k']? =some y)(ew':wds[k']? =some wd')(tb:a1p ts us wd wd' l js)(tb':a1p ts us wd wd' l js'):js=js':=by
 obtain⟨uU,_⟩:=lp.inU M ff
 have nd:=b3b M ff lp
 obtain⟨p,b⟩:=lp.bij M ff ey ew'
 have tf:=a3b M ff (c.headD [])
 rw[<-lp.tl]at tf
 refine a4q (by rw[tb.1,tb'.1]) fun j a a' e1 e2=>?_
 obtain⟨u,eu⟩: ∃u,us[j]? =some u:=⟨_,a0A (by rw[<-tb.1];exact(a0B.mp e1).1)⟩
 obtain⟨v,f1,f2⟩:=tb.2 j u a eu e1
 obtain⟨v',g1,g2⟩:=tb'.2 j u a' eu e2
 have hv:=a0E f1
 have hv':=a0E g1
 have e:v=v':=by
  rw[<-b.back M (uU v hv) (tf.mem v hv).2.2,<-b.back M (uU v' hv') (tf.mem v' hv').2.2,f2,g2]
 subst e
 exact(a2G (a0B.mp f1).1 nd).mp (f1.trans g1.symm)
theorem c0t{H:Hp}{m:Addr}{ts:LN}{n:Nat}{fam c us wds:LN}(M:Mach H m ts n)(ff:FamOf ts n fam)(lp:LvP ts fam c us wds):0<us.length:=by
 obtain⟨_,_,cx,_⟩:=a0t lp.cls
 obtain⟨h1,h2⟩:=a1O.mp cx
 have tf:=a3b M ff (c.headD [])
 rw[<-lp.tl]at tf
 obtain⟨_,u2⟩:=mem_setsU.mp (ff.inU M h1)
 cases e:c.headD []with
 |nil=>
  rw[e]at h2
  cases h2
 | cons r rs=>
  rw[e]at tf u2 h2
  obtain⟨t,ht,_⟩:=tf.all [r] ((ff.mem [r]).mpr (.inr ⟨r,u2 r (a0S ..),rfl⟩)) (fun z=>by
   have z2:=a1Z List.length z;have h2:=a2F h2;rw[<-z2]at h2;simp at h2) (by simp[sub])
  exact a7A ht
structure Makers(ts c us wds mk:LN):Prop where
 mem: ∀t∈mk,∃(k l k':Nat) (x wd wd':Nsq),c[k]? =some x/\wds[k]? =some wd/\l<ts.length/\c[k']? =some (a0m ts x l)/\wds[k']? =some wd'/\a1p ts us wd wd' l t
 all: ∀(k l:Nat) (x wd:Nsq),c[k]? =some x->wds[k]? =some wd->l<ts.length->a0m ts x l∈c-> ∃(k':Nat) (wd' t:Nsq),t∈mk/\c[k']? =some (a0m ts x l)/\wds[k']? =some wd'/\a1p ts us wd wd' l t
theorem b1d: ∀{ws:TW} {as:As},as.length=ws.length->(a2u ws as).map (·.1)=(ws.map (·.1)).map nk
 | [],[],_=>rfl
 |p::ws,a::as,h=>a1Z (nk p.1:: ·) (b1d (ws:=ws) (as:=as) (Nat.succ.inj h))
def b0a(mk:LN)(x:Nsq)(i:Nat):Nsq:=beh x (mk.getD i [])
def b0b:Sp:=fun vs H Q _=> ∃(m a:Addr) (ts:LN) (n:Nat) (fam c us wds:LN),vs=[.ref m,.ref a]/\Mach H m ts n/\FamOf ts n fam/\LvH H a c us wds/\LvP ts fam c us wds/\
 ∀l rs mk H',Same H H'->H' l=some (.lst (rs.map .ref))->TupsAt H' rs mk->Makers ts c us wds mk->mk.length<=200->Q (.ref l) H'
def b6t:Sp:=fun vs H Q _=> ∃(m a:Addr) (ts:LN) (n:Nat) (fam c us wds:LN),vs=[.ref m,.ref a]/\Mach H m ts n/\FamOf ts n fam/\LvH H a c us wds/\LvP ts fam c us wds/\Tabs H/\
 ∀l bs gs mk ws H',Keeps H H'->Tabs H'->L2.noT H l=none->H' l=some (.lst (bs.map .ref))->TupsAt H' bs gs->gs.Perm (ws.map (·.1))->gs.Pairwise (fun x y=>ltl x y=true)->Makers ts c us wds mk->Told (b0a mk) mk.length (List.range us.length) ws->Q (.ref l) H'
theorem b3c(F:Fun K "all_tiles_turned" "all_tiles_turned" a3h f fd)(c_tiles_turned:a0q P w K mg base "tiles_turned" 9 ["machine","level","k","letter"] b3a)(m_len:mg "len"=none)(m_range:mg "range"=none):FnOk P w K mg base CX0 11 f fd ["machine","level"] b0b:=by
 refine F.ok scAllTilesTurned (fun vs H Q E h=>?_) (fun cdv A outer s H vs Q E hr h=>?_)
 ·obtain⟨m,a,ts,n,fam,c,us,wds,rfl,_⟩:=h
  rfl
 obtain⟨m,a,ts,n,fam,c,us,wds,rfl,M,ff,lv,lp,q⟩:=h
 have hu:=hr.units
 refine⟨_,(a0g (a0u (i:=2) scAllTilesTurned.nd rfl (Or.inl rfl) (a2r a0i)) (a0g (a2w a2E rfl (a2e rfl m_range (a0f (a0n a0l rfl m_len a4F (a0f (a1h a1k (pv 1) a0p (fun _ _=>rfl)) a0i)) a0i)) (a1a (i:=3) scAllTilesTurned.nd rfl (Or.inl rfl)) (a0j (a2w a2E rfl (a2e rfl m_range (a0f (a0n a0l rfl m_len a4F (a0f (pv 0) a0i)) a0i)) (a1a (i:=4) scAllTilesTurned.nd rfl (Or.inl rfl)) (a0g (a0u (i:=5) scAllTilesTurned.nd rfl (Or.inl rfl) (a0k c_tiles_turned hr.m rfl (a0y (a0b (pv 0) (a0b (pv 1) (a0b (pv 3) (a0b (pv 4) a0r rfl) rfl) rfl) rfl)))) (a0j (a5n (a1r c1f (pv 5) b7a (a1u _)) (a0j (a2n (a6x a1T a2B a2C a1l (pv 2) (a0f (pv 5) a0i)))) a2m)))))) (a0j (a0w (pv 2))))),?_⟩
 obtain⟨s',t',v',bs,ds,cs,h1,h2,h3,h4,h5,h6,h7,h8⟩:=id lv
 have lb:=h3.len
 have t1:=M.some1
 have t4:=M.few
 obtain⟨rs,hm,hrl,_⟩:=M.refs
 have c32:c.length<=32:=by
  rw[(a0t lp.cls).2.1]
  exact a0Y (a1K _ _) (a0Y (a1K _ _) (ff.few M))
 refine⟨by show 0<=sizeLine;decide,fun fo hfo=>?_⟩
 have k0:=a0d hfo (.lst [])
 let Mk:Nat->Nat->List Nsq->Prop:=fun k l mk=>mk.length<=4 * k+l/\(∀t∈mk,∃(k l k':Nat) (x wd wd':Nsq),c[k]? =some x/\wds[k]? =some wd/\l<ts.length/\c[k']? =some (a0m ts x l)/\wds[k']? =some wd'/\a1p ts us wd wd' l t)/\
  ∀(i j:Nat) (x wd:Nsq),(i<k∨i=k/\j<l)->c[i]? =some x->wds[i]? =some wd->j<ts.length->a0m ts x j∈c-> ∃(k':Nat) (wd' t:Nsq),t∈mk/\c[k']? =some (a0m ts x j)/\wds[k']? =some wd'/\a1p ts us wd wd' j t
 let Pk:Nat->L2.St->Hp->Prop:=fun k σ H'=>Same H H'/\ ∃(qs:As) (mk:LN) (o3 o4 o5:Option V),H' fo=some (.lst (qs.map .ref))/\TupsAt H' qs mk/\Mk k 0 mk/\σ=[some (.ref m),some (.ref a),some (.ref fo),o3,o4,o5]
 refine⟨_,rfl,a,_,_,_,rfl,rfl,SqT.of (k0 _ _ h1),rfl,s',_,rfl,.inl (SqL.of (k0 _ _ h2)),(c.length:Int),by rw[a0D,lb],by lia,by lia,a6a Pk ⟨k0,[],[],none,none,none,a0a,⟨rfl,fun i b u e=>by simp at e⟩,⟨Nat.zero_le _,(fun t ht=>nomatch ht),fun i j x wd hij=>by lia⟩,rfl⟩ (fun k σ H1 hk p=>?_) (fun σ H1 p=>?_)⟩
 ·obtain⟨g1,qs,mk,o3,o4,o5,e1,T1,K1,rfl⟩:=p
  have hk':k<c.length:=by simpa using hk
  have zk:V.int ((0:Int)+((k:Nat):Int))=nv k:=by show V.int (0+(k:Int))=V.int (k:Int);rw[a7S]
  rw[zk]
  obtain⟨wd,ew⟩: ∃wd,wds[k]? =some wd:=⟨_,a0A (by rw[lp.len];exact hk')⟩
  obtain⟨x,ex⟩: ∃x,c[k]? =some x:=⟨_,a0A hk'⟩
  let Pl:Nat->L2.St->Hp->Prop:=fun l σ H'=>Same H H'/\ ∃(qs:As) (mk:LN) (o4 o5:Option V),H' fo=some (.lst (qs.map .ref))/\TupsAt H' qs mk/\Mk k l mk/\σ=[some (.ref m),some (.ref a),some (.ref fo),some (nv k),o4,o5]
  refine⟨_,rfl,m,_,rfl,.inr (SqT.of (g1 _ _ hm)),(ts.length:Int),by rw[a0D,hrl],by lia,by lia,a6a Pl ⟨g1,qs,mk,_,_,e1,T1,K1,rfl⟩ (fun l σ H2 hl p=>?_) (fun σ H2 p=>?_)⟩
  ·obtain⟨g2,qs,mk,o4,o5,e2,T2,K2,rfl⟩:=p
   have hl':l<ts.length:=by simpa using hl
   have zl:V.int ((0:Int)+((l:Nat):Int))=nv l:=by show V.int (0+(l:Int))=V.int (l:Int);rw[a7S]
   rw[zl];obtain⟨kz,km,ka⟩:=K2;refine⟨_,rfl,_,rfl,_,rfl,_,rfl,m,a,k,l,ts,n,fam,c,us,wds,x,wd,rfl,M.same g2,ff,lv.same g2,lp,ex,ew,hl',fun my H3 g3=>?_,fun k' wd' ey ew' tp js H3 g3 etp tb=>?_⟩
   ·refine⟨_,rfl,rfl,_,rfl,b0d ⟨g2.trans g3,qs,mk,_,_,g3 _ _ e2,T2.same g3,⟨by lia,km,fun i j x' wd'' hij e1' e2' e3' e4'=>?_⟩,rfl⟩⟩
    by_cases z:i=k/\j=l
    ·obtain⟨rfl,rfl⟩:=z
     rw[ex]at e1';cases e1';exact absurd e4' my
    ·exact ka i j x' wd'' (by lia) e1' e2' e3' e4'
   ·refine⟨_,rfl,rfl,_,rfl,b0n ?_⟩
    have e3:=g3 _ _ e2;have lq:=T2.len;refine⟨_,rfl,.inl ⟨rfl,_,SqL.of e3⟩,_,rfl,fo,_,_,rfl,rfl,e3,by rw[a0D,a1B];lia,?_⟩;refine⟨a1b (g2.trans g3) hfo,qs++[tp],mk++[js],_,_,by rw[a0a,a1G];rfl,a3w ⟨lq,fun i b u e1 e2=>?_⟩ ?_,⟨by rw[a0M,a4S];lia,fun t ht=>?_,fun i j x' wd'' hij e1' e2' e3' e4'=>?_⟩,rfl⟩
    ·have z:=(T2.same g3).is i b u e1 e2
     rw[a0c (nE z e3)];exact z
    ·rw[a0c (nE etp e3)]
     exact etp
    ·rcases a0L.mp ht with z|z
     ·exact km t z
     ·rw[a0H.mp z]
      exact⟨k,l,k',x,wd,wd',ex,ew,hl',ey,ew',tb⟩
    ·by_cases z:i=k/\j=l
     ·obtain⟨rfl,rfl⟩:=z
      rw[ex]at e1';cases e1';rw[ew]at e2';cases e2';exact⟨k',wd',js,a0L.mpr (.inr (a0H.mpr rfl)),ey,ew',tb⟩
     ·obtain⟨k2,wd2,t,r1,r2⟩:=ka i j x' wd'' (by lia) e1' e2' e3' e4'
      exact⟨k2,wd2,t,a0L.mpr (.inl r1),r2⟩
  ·obtain⟨g2,qs,mk,o4,o5,e2,T2,⟨kz,km,ka⟩,rfl⟩:=p
   have el:(ts.length:Int).toNat=ts.length:=a1W _;rw[el]at kz ka;exact⟨g2,qs,mk,_,_,_,e2,T2,⟨by lia,km,fun i j x' wd'' hij e1' e2' e3' e4'=>ka i j x' wd'' (by lia) e1' e2' e3' e4'⟩,rfl⟩
 ·obtain⟨g1,qs,mk,o3,o4,o5,e1,T1,⟨kz,km,ka⟩,rfl⟩:=p
  have el:(c.length:Int).toNat=c.length:=a1W _
  rw[el]at kz ka
  exact⟨_,rfl,q fo qs mk H1 g1 e1 T1 ⟨km,fun k l x wd e1 e2 e3 e4=>ka k l x wd (.inl (a0B.mp e1).1) e1 e2 e3 e4⟩ (by lia)⟩
theorem b5d{fl c lm cc:Addr}{oc:Obj}{mk us:LN}{n:Nat}{rs:As}{Hc:Hp}{pm ct:Vl}{params:Arguments}{body:Expr}{scope:Scope}{sx fx a1 a2:Expr}{kw skw:List Keyword}{lp cp scp rp:Pos}{s0:Stmt}(e:a1m a1e=[s0,.Return (some (.Call sx [.Call fx [a1,a2,.Lambda params body scope lp] kw cp] skw scp)) rp])
  (c_behind:a0q P w K mg base "behind" 1 ["one","other"] b2q) (hl:Hc lm=some (.lst (rs.map .ref))) (Tm:TupsAt Hc rs mk) (mU: ∀t∈mk,t∈gU us n) (few:us.length<=32) (h1:Hc fl=some (b1q fl (a3j "level_group.<locals>.<lambda>" params body scope "makers" c pm (.ref cc) ct))) (h2:Hc c=some (a3d c lm oc)) (h3:Hc cc=some (a5u cc "level_group.<locals>.<lambda>")):
  FnOk P w K mg base CX0 5 fl (a3j "level_group.<locals>.<lambda>" params body scope "makers" c pm (.ref cc) ct) ["turn","number"] (a7r (Same Hc) (gU us n) mk.length (b0a mk))/\Binds K (a3j "level_group.<locals>.<lambda>" params body scope "makers" c pm (.ref cc) ct) ["turn","number"] []:=by
 cases e
 refine⟨c9c (k:=4) (m:=lm) (oc:=oc) ⟨rfl,rfl,rfl,by decide+kernel,by decide+kernel,rfl,by decide+kernel⟩ (fun vs H Q E h=>?_) (fun vs H Q E h=>?_) (fun A outer s H vs Q E hr h=>?_),.all fun us hl=>match us,hl with| [_,_],_=>rfl⟩
 ·obtain⟨t,x,l,rfl,_⟩:=h
  rfl
 ·obtain⟨t,x,l,rfl,g,_⟩:=h
  exact⟨g _ _ h1,g _ _ h2,g _ _ h3⟩
 ·obtain⟨t,x,l,rfl,g,ht,hx,hl',q⟩:=h
  refine⟨_,(a0k c_behind hr.m rfl (a0y (a0b (pv 0) (a0b (a1h a2f (pv 2) (pv 1) (fun _ _=>rfl)) a0r rfl) rfl))),?_⟩
  have hc:=g _ _ h2
  have off: ∀{b:Addr} {u:HO},(∀φ,u≠ .ext φ)->H b=some u->(L2.drop H c) b=some u:=fun nu hb=>by
   rw[a0o (a5k hb hc fun e=>nu _ e)];exact hb
  have ln:=Tm.len
  obtain⟨r,er⟩: ∃r,rs[l]? =some r:=⟨_,a0A (by lia)⟩
  have et:mk[l]? =some (mk.getD l []):=by rw[a0N,a0A hl'];rfl
  have hr1:=off (u:= .tup _) (fun _ e=>nomatch e) (g _ _ (Tm.is l r _ er et))
  have mt:=mU _ (a0E et)
  obtain⟨x1,x2⟩:=d1z hx
  obtain⟨y1,y2⟩:=d1z mt
  refine⟨_,rfl,_,rfl,_,rfl,lm,_,_,_,rfl,rfl,SqL.of (off (u:= .lst _) (fun _ e=>nomatch e) (g _ _ hl)),a3r (j:=l) (v:= .ref r) (by rw[a0G,er];rfl),t,r,x,mk.getD l [],rfl,off (u:= .tup _) (fun _ e=>nomatch e) ht,hr1,fun y hy=>by rw[y1];exact x2 y hy,by lia,fun p H3 g3 e3 free=>q p _ (fun y o ho=>?_) ?_⟩
  ·by_cases hy:y=c
   ·subst hy
    rw[hc]at ho;cases ho;exact a0a
   ·rw[a0c hy]
    exact g3 _ _ (by rw[a0o hy];exact ho)
  ·rw[a0c (a0h e3 free)]
   exact e3
theorem b0h{cd T:Addr}(F:DefAt K "level_group" a1e f fd .none (.ref cd))(hC:PySem.W.CodeHd base cd T)(bm:b1r mg base)(hq:(("level_group.<locals>.<lambda>":Str),(⟨121,61,121,110⟩:Pos),T)∈tabsL)(c_all_tiles_turned:a0q P w K mg base "all_tiles_turned" 11 ["machine","level"] b0b)(c_still:a0q P w K mg base "still" 1 ["rooms"] b2p)(c_behind:a0q P w K mg base "behind" 1 ["one","other"] b2q)
  (c_reached:b1u P w K mg base "reached" 8 ["start","letters","step","most"] (a5c P w K mg base) [.non]) (m_len:mg "len"=none) (m_sorted:mg "sorted"=none):FnOk P w K mg base CX0 13 f fd ["machine","level"] b6t:=by
 refine F.fnOk scLevelGroup (fun vs H Q E h=>?_) (fun A outer s H vs Q E h hr=>?_)
 ·obtain⟨m,a,ts,n,fam,c,us,wds,rfl,_⟩:=h
  rfl
 obtain⟨m,a,ts,n,fam,c,us,wds,rfl,M,ff,lv,lp,hT,q⟩:=h
 refine⟨_,?_,(a0g (a0u (i:=2) scLevelGroup.nd rfl (Or.inr rfl) (a0k c_all_tiles_turned hr.m rfl (a0y (a0b (pv 0) (a0b (pv 1) a0r rfl) rfl)))) (a0j (a0w (a0n (c0f rfl) rfl m_sorted boot_sorted (a0f (b4j c_reached hr.m rfl (j:=2) rfl rfl rfl rfl (a0y (a0b (a0k c_still hr.m rfl (a0f (a0n a0l rfl m_len a4F (a0f (a1h a1k (pv 1) a0p (fun _ _=>rfl)) a0i)) a0i)) (a0b (a0n a0l rfl m_len a4F (a0f (pv 2) a0i)) (a0b (c9g (qual:="level_group.<locals>.<lambda>") rfl hC bm (fun _ _ _ _ _=>rfl) rfl rfl) a0r rfl) rfl) rfl))) a0i)))))⟩
 refine⟨_,rfl,_,rfl,m,a,ts,n,fam,c,us,wds,rfl,M,ff,lv,lp,fun lm rs mk H1 g1 elm Tm Mk few200=>?_⟩
 obtain⟨s',t',v',bs,ds,cs,h1,h2,h3,h4,h5,h6,h7,h8⟩:=id (lv.same g1)
 have l5:=h5.len
 obtain⟨uU,few⟩:=lp.inU M ff
 have n5:=M.n5
 have nd:=b3b M ff lp
 have mU: ∀t∈mk,t∈gU us n:=fun t ht=>by
  obtain⟨k,l,k',x,wd,wd',e1,e2,e3,e4,e5,e6⟩:=Mk.mem t ht
  exact c5o M ff lp e1 e2 e3 e4 e5 e6
 refine⟨_,rfl,a,_,_,_,rfl,rfl,SqT.of h1,rfl,t',_,rfl,.inl (SqL.of h4),?_⟩
 try dsimp only
 rw[a0D,l5]
 refine⟨us.length,rfl,by lia,fun st H2 g2 e2=>?_⟩
 have elm2:=g2 _ _ elm
 have Tm2:=Tm.same g2
 have T2:Tabs H2:=(hT.same g1).same g2
 refine⟨_,rfl,lm,_,rfl,.inl (SqL.of elm2),?_⟩
 try dsimp only
 rw[a0D,Tm2.len]
 have end1: ∀(H3:Hp) (D:Addr) (ws:TW) (as:As),Keeps H H3->Tabs H3->WordsAt H3 D ws as->Told (b0a mk) mk.length (List.range us.length) ws->c4h [.ref D] H3 Q:=fun H3 D ws as k3 t3 W TT=>by
  have inG: ∀p∈ws,p.1∈gU us n:=fun p hp=>by
   obtain⟨r1,r2⟩:=TT.run p hp;rw[<-r2];refine a7e (b8w nd uU) (fun x hx l hl=>c5n n5 uU hx ?_) p.2 r1;rw[a0N,a0A hl];exact mU _ (a2O hl)
  refine⟨D,_,ws.map (·.1),rfl,W.dict,?_,fun t ht e=>?_,?_,fun l bs gs hl Tb pm up=>?_⟩
  ·exact b1d W.len
  ·obtain⟨p,hp,rfl⟩:=a0Q.mp ht
   have z:=(d1z (inG p hp)).1;rw[e]at z;have:=c0t M ff lp
   simp at z;lia
  ·refine a0Y (a7p (U:=gU us n) TT.keys fun x hx=>?_) (c9r n5)
   obtain⟨p,hp,rfl⟩:=a0Q.mp hx;exact inG p hp
  ·have gl:=a0d hl (.lst (bs.map V.ref))
   refine q l bs gs mk ws _ (k3.trans gl.keeps) (t3.same gl) ?_ a0a (Tb.same gl) pm up Mk TT;cases y:L2.noT H l with
   |none=>rfl
   |some o=>
    have z:=k3 _ _ y;rw[hl]at z;cases z
 have go: ∀(fl cc:Addr) (ct:Vl) (H3:Hp) (tps:AV),H2 T=some (.tbl tps)->KeepsBut T H2 H3->H3 T=some (.tbl (a3e (⟨121,61,121,110⟩:Pos) cc))->H3 cc=some (a5u cc "level_group.<locals>.<lambda>")-> ∀(params:Arguments) (body:Expr) (scope:Scope) (pm:Vl) (c':Addr),H3 fl=some (b1q fl (a3j "level_group.<locals>.<lambda>" params body scope "makers" c' pm (.ref cc) ct))->
   ∀oc,H3 c'=none->(FnOk P w K mg base CX0 5 fl (a3j "level_group.<locals>.<lambda>" params body scope "makers" c' pm (.ref cc) ct) ["turn","number"] (a7r (Same (upd H3 c' (a3d c' lm oc))) (gU us n) mk.length (b0a mk)))->Binds K (a3j "level_group.<locals>.<lambda>" params body scope "makers" c' pm (.ref cc) ct) ["turn","number"] []->
   a5c P w K mg base [.ref st,nv mk.length,.ref fl,.non] (upd H3 c' (a3d c' lm oc)) (fun r H4=>H4 c'=some (a3d c' lm oc)/\c4h [r] (L2.drop H4 c') Q) E0:=fun fl cc ct H3 tps hT0 kb h1 h2 params body scope pm c' h3 oc hc hF hB=>by
  have k1:=kb.keeps hT0
  have kc:=a0d hc (a3d c' lm oc)
  refine⟨st,fl,_,_,List.range us.length,mk.length,gU us n,b0a mk,rfl,kc _ _ (k1 _ _ (nU e2)),kc _ _ h3,b8w nd uU,fun x hx l hl=>c5n n5 uU hx ?_,c9r n5,by lia,hF,hB,fun D ws as H4 g4 W nw TT=>⟨g4 _ _ a0a,end1 _ D ws as (fun b o hb=>?_) (T2.but hq hT0 (fun b o nb hb=>?_) (.inr ⟨cc,?_,?_⟩)) ⟨W.len,?_,fun j a r e1 e2=>?_⟩ TT⟩⟩
  ·rw[a0N,a0A hl]
   exact mU _ (a2O hl)
  ·have z:=((g1.trans g2).keeps.trans k1) b o hb
   rw[a0o (a0h z hc)];exact g4 _ _ (kc _ _ z)
  ·have z:=kb b o nb hb
   rw[a0o (a0h z hc)];exact g4 _ _ (kc _ _ z)
  ·rw[a0o (a0h h1 hc)]
   exact g4 _ _ (kc _ _ h1)
  ·rw[a0o (a0h h2 hc)]
   exact g4 _ _ (kc _ _ h2)
  ·rw[a0o (nE W.dict (g4 _ _ a0a))]
   exact W.dict
  ·have z:=W.list j a r e1 e2
   rw[a0o (nE z (g4 _ _ a0a))];exact z
 rcases T2 _ hq with hT1|⟨cc,hT1,hcc⟩
 ·refine .inl ⟨hT1,fun fl cc ct hfl hcc ne=>⟨lm,rfl,fun oc hc=>?_⟩⟩
  obtain⟨k1,hT2,hc1⟩:=d4o (⟨121,61,121,110⟩:Pos) "level_group.<locals>.<lambda>" hT1 hfl hcc ne _
  have kc:=a0d hc (a3d (s.heap.objs.size+1) lm oc)
  have k1':=k1.keeps hT1
  obtain⟨F1,F2⟩:=b5d rfl c_behind (kc _ _ (k1' _ _ (nU elm2))) ((a1o Tm2 k1').same kc) mU few (kc _ _ a0a) a0a (kc _ _ hc1)
  exact go fl cc ct _ _ hT1 k1 hT2 hc1 _ _ _ _ _ a0a oc hc F1 F2
 ·refine .inr ⟨cc,hT1,hcc,fun fl ct hfl=>⟨lm,rfl,fun oc hc=>?_⟩⟩
  have k1: ∀lo,Same H2 (upd H2 fl lo):=fun lo=>a0d hfl lo
  have kc:=a0d hc (a3d (s.heap.objs.size+1) lm oc)
  obtain⟨F1,F2⟩:=b5d rfl c_behind (kc _ _ (k1 _ _ _ elm2)) ((Tm2.same (k1 _)).same kc) mU few (kc _ _ a0a) a0a (kc _ _ (k1 _ _ _ hcc))
  exact go fl cc ct _ _ hT1 (fun b o _ hb=>k1 _ _ _ hb) (k1 _ _ _ hT1) (k1 _ _ _ hcc) _ _ _ _ _ a0a oc hc F1 F2
theorem LvH.keeps{H H':Hp}{a:Addr}{c us wds:LN}(h:LvH H a c us wds)(g:Keeps H H'):LvH H' a c us wds:=by
 obtain⟨s,t,v,bs,ds,cs,h1,h2,h3,h4,h5,h6,h7,h8⟩:=h
 exact⟨s,t,v,bs,ds,cs,g _ _ (nU h1),g _ _ (nU h2),a1o h3 g,g _ _ (nU h4),a1o h5 g,g _ _ (nU h6),h7,fun k b wd e1 e2=>g _ _ (nU (h8 k b wd e1 e2))⟩
theorem b0c{H H':Hp}{l:Addr}{o:HO}(g:Keeps H H')(n:L2.noT H l=none):Keeps H (upd H' l o):=fun b u hb=>by
 rw[a0c (fun z=>by rw[z,n]at hb;cases hb)]
 exact g b u hb
inductive Gen (S:Nsq->Prop) (N:Nat):Nsq->Prop
 |base:Gen S N (List.range N)
 |step {x m:Nsq}:Gen S N x->S m->Gen S N (beh x m)
theorem c8m{mk:LN}{N:Nat}: ∀(v x:Nsq),(∀i∈v,i<mk.length)->Gen (· ∈mk) N x->Gen (· ∈mk) N (a2l (b0a mk) x v):=by
 intro v
 induction v with
 |nil=>exact fun x _ h=>h
 |cons i v ih=>
  intro x hv h
  have li:=hv i (a0S ..)
  refine ih (b0a mk x i) (fun l hl=>hv l (a0X _ hl)) ?_
  show Gen _ _ (beh x (mk.getD i []))
  rw[a0N,a0A li]
  exact .step h (a2O li)
theorem c8n{mk:LN}{N:Nat}{ws:TW}(T:Told (b0a mk) mk.length (List.range N) ws)(t:Nsq):t∈ws.map (·.1)↔Gen (· ∈mk) N t:=by
 constructor
 ·intro h
  obtain⟨p,hp,rfl⟩:=a0Q.mp h
  obtain⟨r1,r2⟩:=T.run p hp
  rw[<-r2]
  exact c8m p.2 _ r1 .base
 ·intro h
  induction h with
  |base=>exact a0Q.mpr ⟨_,a0E T.head,rfl⟩
  | @step x m _ hm ih=>
   obtain⟨i,hi⟩:=a4X hm;have li:=(a0B.mp hi).1;obtain⟨p,hp,rfl⟩:=a0Q.mp ih;obtain⟨r1,r2⟩:=T.run p hp;obtain⟨u,h2,_⟩:=T.least _ (p.2++[i]) rfl fun x hx=>(a0L.mp hx).elim (r1 x) fun z=>by rw[a0H.mp z];exact li
   have e3:a2l (b0a mk) (List.range N) (p.2++[i])=beh p.1 m:=by
    have eb:b0a mk p.1 i=beh p.1 m:=by
     show beh _ (mk.getD i [])=_
     rw[a0N,hi];rfl
    rw[<-eb,<-r2];unfold a2l;rw[a3W];rfl
   rw[e3]at h2;exact a0Q.mpr ⟨_,h2,rfl⟩
theorem d2b{S S':Nsq->Prop}{N:Nat}(h: ∀t,S t↔S' t)(t:Nsq):Gen S N t↔Gen S' N t:=by
 have e:S=S':=funext fun t=>propext (h t)
 rw[e]
def IsMk(ts c us wds:LN)(t:Nsq):Prop:= ∃(k l k':Nat) (x wd wd':Nsq),c[k]? =some x/\wds[k]? =some wd/\l<ts.length/\c[k']? =some (a0m ts x l)/\wds[k']? =some wd'/\a1p ts us wd wd' l t
theorem c0u{H:Hp}{m:Addr}{ts:LN}{n:Nat}{fam c us wds mk:LN}(M:Mach H m ts n)(ff:FamOf ts n fam)(lp:LvP ts fam c us wds)(Mk:Makers ts c us wds mk)(t:Nsq):t∈mk↔IsMk ts c us wds t:=by
 refine⟨Mk.mem t,?_⟩
 rintro⟨k,l,k',x,wd,wd',e1,e2,e3,e4,e5,e6⟩
 obtain⟨k2,wd2,t2,m2,f4,f5,f6⟩:=Mk.all k l x wd e1 e2 e3 (a0E e4)
 have ek:=(a2G (a0B.mp e4).1 (lp.nd ff)).mp (e4.trans f4.symm)
 subst ek
 rw[e5]at f5
 cases f5
 rw[b6s M ff lp e4 e5 e6 f6]
 exact m2
theorem c5p{x u v:Nsq}: ∀{ws:TW},(ws.map (·.1)).Nodup->(x,u)∈ws->(x,v)∈ws->u=v
 | [],_,h,_=>nomatch h
 | p::ws,nd,h1,h2=>by
  obtain⟨n1,n2⟩:=a2X.mp nd
  rcases a1C.mp h1 with e1|e1
  ·rcases a1C.mp h2 with e2|e2
   ·rw[<-e1]at e2
    injection e2 with _ e2
    exact e2.symm
   ·exact absurd (a0Q.mpr ⟨_,e2,by rw[<-e1]⟩) n1
  ·rcases a1C.mp h2 with e2|e2
   ·exact absurd (a0Q.mpr ⟨_,e1,by rw[<-e2]⟩) n1
   ·exact c5p n2 e1 e2
def Wds(ts c wds:LN):Prop:=wds.length=c.length/\ ∃ws,Told (a0m ts) ts.length (c.headD []) ws/\ ∀(k:Nat) (x wd:Nsq),c[k]? =some x->wds[k]? =some wd->(x,wd)∈ws
theorem Wds.uniq{ts c wds wds':LN}(h:Wds ts c wds)(h':Wds ts c wds'):wds=wds':=by
 obtain⟨l1,ws,T,a⟩:=h
 obtain⟨l2,ws',T',b⟩:=h'
 cases T.uniq T'
 refine a3X fun k=>?_
 by_cases hk:k<c.length
 ·obtain⟨wd,e1⟩: ∃wd,wds[k]? =some wd:=⟨_,a0A (by lia)⟩
  obtain⟨wd',e2⟩: ∃wd',wds'[k]? =some wd':=⟨_,a0A (by lia)⟩
  have ex:=a0A hk
  rw[e1,e2,c5p T.keys (a k _ wd ex e1) (b k _ wd' ex e2)]
 ·rw[a1Y (by lia),a1Y (by lia)]
theorem Ord.uniq{ts:LN}{cs told told':L3q}(h:Ord ts cs told)(h':Ord ts cs told'):told=told':=by
 induction h generalizing told' with
 |nil=>
  cases h' with
  |nil=>rfl
  |cons h r=>cases h
 | cons h r ih=>
  cases h' with
  |nil=>cases h
  |cons h2 r2=>
   rw[h]at h2;cases h2;rw[ih r2]
theorem LevAt.lvw{H:Hp}{l:Addr}{ts fam:LN}{ys:List WE}{a:Addr}{c:LN}(h:LevAt H l ts fam (big fam) ys a c)(hc:c∈classes ts (big fam)): ∃wds,LvH H a c (a1t fam (c.headD [])) wds/\LvP ts fam c (a1t fam (c.headD [])) wds/\Wds ts c wds:=by
 obtain⟨s,t,v,bs,ds,cs,i,y,h1,h2,h3,h4,h5,h6,h7,h8,h9,h10,h11,h12,h13,h14,h15,h16⟩:=h
 obtain⟨wds,l1,l2⟩:=a5y (n:=c.length) (P:=fun k wd=> ∃x b,c[k]? =some x/\cs[k]? =some b/\(x,wd)∈y.2.1/\H b=some (.lst (wd.map nv))) fun k hk=>by
  obtain⟨x,ex⟩: ∃x,c[k]? =some x:=⟨_,a0A hk⟩
  obtain⟨b,eb⟩: ∃b,cs[k]? =some b:=⟨_,a0A (by lia)⟩
  obtain⟨wd,z1,z2⟩:=h16 k x b ex eb
  exact⟨wd,x,b,ex,eb,z1,z2⟩
 have inw: ∀(k:Nat) (x wd:Nsq),c[k]? =some x->wds[k]? =some wd->(x,wd)∈y.2.1:=fun k x wd e1 e2=>by
  obtain⟨x',b',z1,_,z3,_⟩:=l2 k wd e2
  rw[e1]at z1
  cases z1
  exact z3
 refine⟨wds,⟨s,t,v,bs,ds,cs,h1,h6,h7,h8,h9,h10,by lia,fun k b wd e1 e2=>?_⟩,⟨hc,rfl,l1,fun k x wd e1 e2=>h14.run _ (inw k x wd e1 e2)⟩,l1,y.2.1,h14,inw⟩
 obtain⟨x',b',_,z2,_,z4⟩:=l2 k wd e2
 rw[e1]at z2
 cases z2
 exact z4
def c5q:Sp:=fun vs H Q _=> ∃i:Int,vs=[.int i]/\Q (.bl true) H
theorem c8o(F:Fun K "_law_whole" "_law_whole" a9p f fd)(m_isinstance:mg "isinstance"=none)(m_int:mg "int"=none)(m_bool:mg "bool"=none):FnOk P w K mg base CX0 1 f fd ["_law_found"] c5q:=by
 refine F.ok c0g (fun vs H Q E h=>?_) (fun cdv A outer s H vs Q E hr h=>?_)
 ·obtain⟨i,rfl,_⟩:=h
  rfl
 obtain⟨i,rfl,q⟩:=h
 refine⟨_,(a0j (a0w (b3i (a0n a5f rfl m_isinstance a6E (a0y (a0b (pv 0) (a0b (b9q rfl m_int boot_int) a0r rfl) rfl))) (b3h (d2l (a0n a5f rfl m_isinstance a6E (a0y (a0b (pv 0) (a0b (b9q rfl m_bool boot_bool) a0r rfl) rfl)))))))),?_⟩
 refine⟨_,rfl,_,_,_,_,rfl,.int i,b5r,_,rfl,b0n ?_⟩
 exact⟨_,rfl,_,_,_,_,rfl,.int i,b4a,_,rfl,q⟩
theorem isi_tup_tup{K:W.Frag}:PySem.W.kitOne K (.type "tuple") (.type "tuple")=some true:=by rfl
def c5r:Sp:=fun vs H Q _=> ∃(c:Addr) (xs:Nsq),vs=[.ref c]/\H c=some (.tup (xs.map nv))/\xs.length<=4000/\ ∀H',Same H H'->Q (.bl true) H'
theorem c5s(F:Fun K "_law_is_row" "_law_is_row" a6p f fd)(c__law_whole:a0q P w K mg base "_law_whole" 1 ["_law_found"] c5q)(m_isinstance:mg "isinstance"=none)(m_tuple:mg "tuple"=none):FnOk P w K mg base CX0 3 f fd ["_law_found"] c5r:=by
 refine F.ok c0h (fun vs H Q E h=>?_) (fun cdv A outer s H vs Q E hr h=>?_)
 ·obtain⟨c,xs,rfl,_⟩:=h
  rfl
 obtain⟨c,xs,rfl,hR,hz,q⟩:=h
 have hu:=hr.units
 refine⟨_,(a0j (a0w (b3i (a0n a5f rfl m_isinstance a6E (a0y (a0b (pv 0) (a0b (b9q rfl m_tuple a7K) a0r rfl) rfl))) (b3h (a5p (b7p hu) (a1d (CompSc.to (N:=["_law_found"]) (osc:=a0e a6p) (vs:=["_law_one"]) {}) rfl rfl (b7h (pv 0)) (fun _ _ _ _=>a7a (a8t (a5z (a0k c__law_whole hr.m rfl (a0f (pv 0) a0i))))) (fun _ _ _ _=>(pv 0))) (a2r a0i) (a1u _)))))),?_⟩
 refine⟨_,rfl,_,_,_,_,rfl,.tup hR,isi_tup_tup,_,rfl,b0n ?_⟩
 refine⟨_,rfl,c,rfl,⟨_,SqT.of hR⟩,b9o (f:=fun _=>false) (by rw[a0D,a1B];lia) (SqT.of hR) (fun v Q hv q=>?_) (fun v Q hv q=>⟨_,rfl,q⟩) (fun l hl=>?_)⟩
 ·obtain⟨x,hx,rfl⟩:=a0Q.mp hv
  exact⟨_,rfl,(x:Int),rfl,_,rfl,q⟩
 have g2:=a0d hl (.lst ((xs.map nv).filter fun _=>false))
 refine⟨(by show 0<=sizeLine;decide),fun l2 hl2=>?_⟩
 have g3:=a0d hl2 (.lst [])
 have e3:(upd (upd H l (.lst ((xs.map nv).filter fun _=>false))) l2 (.lst [])) l=some (.lst []):=by
  rw[g3 _ _ a0a]
  simp
 refine⟨l,l2,0,_,_,rfl,rfl,d3i (is:=[]) (SqL.of e3),d3i (is:=[]) (SqL.of a0a),by decide,fun c hc=>?_⟩
 have hc':c=true:=hc.mpr rfl
 subst hc'
 exact q _ (g2.trans g3)
structure Lv where
 c:LN
 us:LN
 wds:LN
 gs:LN
structure GrpOf(ts c us wds gs:LN):Prop where
 up:gs.Pairwise fun x y=>ltl x y=true
 mem: ∀t,t∈gs↔Gen (IsMk ts c us wds) us.length t
theorem GrpOf.uniq{ts c us wds gs gs':LN}(h:GrpOf ts c us wds gs)(h':GrpOf ts c us wds gs'):gs=gs':=a5x a5s b7z h.up h'.up fun t=>(h.mem t).trans (h'.mem t).symm
theorem c9s{H:Hp}{m:Addr}{ts:LN}{n:Nat}{fam c us wds mk gs:LN}{ws:TW}(M:Mach H m ts n)(ff:FamOf ts n fam)(lp:LvP ts fam c us wds)(pm:gs.Perm (ws.map (·.1)))(up:gs.Pairwise (fun x y=>ltl x y=true))(Mk:Makers ts c us wds mk)(TT:Told (b0a mk) mk.length (List.range us.length) ws):GrpOf ts c us wds gs:=
 ⟨up,fun t=>by rw[pm.mem_iff,c8n TT,d2b (c0u M ff lp Mk)]⟩
structure LvOk(ts fam:LN)(L:Lv):Prop where
 p:LvP ts fam L.c L.us L.wds
 w:Wds ts L.c L.wds
 g:GrpOf ts L.c L.us L.wds L.gs
theorem LvOk.uniq{ts fam:LN}{L L':Lv}(h:LvOk ts fam L)(h':LvOk ts fam L')(e:L.c=L'.c):L=L':=by
 obtain⟨c,us,wds,gs⟩:=L
 obtain⟨c',us',wds',gs'⟩:=L'
 cases e
 have e2:us=us':=h.p.tl.trans h'.p.tl.symm
 cases e2
 cases h.w.uniq h'.w
 cases h.g.uniq h'.g
 rfl
structure RowOf(ts:LN)(n:Nat)(fam:LN)(Ls:List Lv):Prop where
 ff:FamOf ts n fam
 od:Ord ts (classes ts (big fam)) (Ls.map (·.c))
 few:Ls.length<=32
 ok: ∀L∈Ls,LvOk ts fam L
theorem RowOf.uniq{ts:LN}{n:Nat}{fam fam':LN}{Ls Ls':List Lv}(h:RowOf ts n fam Ls)(h':RowOf ts n fam' Ls'):fam=fam'/\Ls=Ls':=by
 cases h.ff.uniq h'.ff
 refine⟨rfl,?_⟩
 have e:=h.od.uniq h'.od
 have len:Ls.length=Ls'.length:=by rw[<-a0D (f:=(·.c)),e,a0D]
 refine a7V len fun i h1 h2=>(h.ok _ (a2O h1)).uniq (h'.ok _ (a2O h2)) ?_
 have z:=a1Z (fun l=>l[i]?) e
 simpa[h1,h2]using z
def kvA(xs:LN)(as:As):List (List Key×V):=a2u (xs.map fun x=>(x,[])) as
theorem b6u{xs:LN}{as:As}(h:as.length=xs.length):(kvA xs as).length=xs.length:=by
 unfold kvA L2.a2u
 rw[List.length_zipWith,a0D,h,Nat.min_self]
theorem b6v{xs:LN}{as:As}{x:Nsq}{a:Addr}(h:as.length=xs.length)(hx:x∉xs):b3t (kvA xs as) (nk x) (.ref a)=kvA (xs++[x]) (as++[a]):=by
 unfold kvA
 rw[b1n _ (b0t (by rw[b6o];exact hx)),a1G]
 exact(b1s (ws:=xs.map fun x=>(x,[])) (p:=(x,[])) (a:=a) (by rw[a0D,h])).symm
def tl(ts us:LN)(wd:Nsq):LN:=us.map fun u=>a2l (a0m ts) u wd
def TiledAs(H:Hp)(ts us wds:LN)(as:As):Prop:= ∀(k:Nat) (wd:Nsq) (a:Addr),wds[k]? =some wd->as[k]? =some a-> ∃es,H a=some (.lst (es.map .ref))/\TupsAt H es (tl ts us wd)
def TiledAt(H:Hp)(t:Addr)(ts c us wds:LN):Prop:= ∃as,H t=some (.dT (kvA c as))/\as.length=c.length/\TiledAs H ts us wds as
def TurnL(H:Hp)(ts c us wds:LN)(x wd:Nsq)(vs:List V):Prop:=vs.length=ts.length/\ ∀(l:Nat) (v:V),vs[l]? =some v->(a0m ts x l∉c/\v= .non)∨ ∃(p:Addr) (js:Nsq) (k':Nat) (wd':Nsq),v= .ref p/\H p=some (.tup (js.map nv))/\c[k']? =some (a0m ts x l)/\wds[k']? =some wd'/\a1p ts us wd wd' l js
def TurnsAs(H:Hp)(ts c us wds:LN)(as:As):Prop:= ∀(k:Nat) (x wd:Nsq) (a:Addr),c[k]? =some x->wds[k]? =some wd->as[k]? =some a-> ∃vs,H a=some (.lst vs)/\TurnL H ts c us wds x wd vs
def TurnsAt(H:Hp)(t:Addr)(ts c us wds:LN):Prop:= ∃as,H t=some (.dT (kvA c as))/\as.length=c.length/\TurnsAs H ts c us wds as
def Stays(f:HO->Bool)(H H':Hp):Prop:= ∀b o,f o=false->H b=some o->H' b=some o
def isTb:HO->Bool
 | .tbl _=>true
 |_=>false
def isTD:HO->Bool
 | .tbl _=>true
 | .dT _=>true
 |_=>false
def isIn:HO->Bool
 | .ins _ _ _=>true
 |_=>false
def isLs:HO->Bool
 | .lst _=>true
 |_=>false
abbrev Lts:=Stays isTD
abbrev d4s:=Stays isLs
theorem Stays.a{f:HO->Bool}{H H':Hp}{b:Addr}{o:HO}(g:Stays f H H')(h:H b=some o)(d:f o=false:=by rfl):H' b=some o:=g b o d h
theorem nz{H:Hp}{a:Addr}{o:HO}(h:H a=some o)(d:isTb o=false:=by rfl):L2.noT H a=some o:=a7q h fun φ e=>by subst e;cases d
theorem a5j{H H':Hp}(g:Keeps H H'):Stays isTb H H':=fun b o d h=>g b o (nz h d)
theorem a2z{H H':Hp}(g:Same H H'):Lts H H':=fun b o _ h=>g b o h
theorem Stays.off{H:Hp}{D:Addr}{kvs:List (List Key×V)}{o:HO}(h:H D=some (.dT kvs)):Lts H (upd H D o):=fun b u n hb=>by
 rw[a0c (a5k hb h fun e=>by rw[e]at n;cases n)]
 exact hb
theorem Stays.offL{H:Hp}{D:Addr}{xs:List V}{o:HO}(h:H D=some (.lst xs)):d4s H (upd H D o):=fun b u n hb=>by
 rw[a0c (a5k hb h fun e=>by rw[e]at n;cases n)]
 exact hb
theorem Stays.offI{H:Hp}{D C d:Addr}{fs:List (Str×V)}{o:HO}(h:H D=some (.ins C d fs)):Stays isIn H (upd H D o):=fun b u n hb=>by
 rw[a0c (a5k hb h fun e=>by rw[e]at n;cases n)]
 exact hb
section
variable{f:HO->Bool}{H H':Hp}{ts c us wds:LN}
theorem Stays.tups{bs:As}{us:LN}(g:Stays f H H')(T:TupsAt H bs us)(f2: ∀xs,f (.tup xs)=false:=by intro;rfl):TupsAt H' bs us:=⟨T.len,fun i b u e1 e2=>g _ _ (f2 _) (T.is i b u e1 e2)⟩
theorem TiledAs.lts{as:As}(h:TiledAs H ts us wds as)(g:Stays f H H')(f1: ∀xs,f (.lst xs)=false:=by intro;rfl)(f2: ∀xs,f (.tup xs)=false:=by intro;rfl):TiledAs H' ts us wds as:=fun k wd a e1 e2=>let⟨es,z1,z2⟩:=h k wd a e1 e2;⟨es,g _ _ (f1 _) z1,g.tups z2 f2⟩
theorem TurnL.lts{x wd:Nsq}{vs:List V}(h:TurnL H ts c us wds x wd vs)(g:Stays f H H')(f2: ∀xs,f (.tup xs)=false:=by intro;rfl):TurnL H' ts c us wds x wd vs:=⟨h.1,fun l v e=>(h.2 l v e).imp id fun⟨p,js,k',wd',z1,z2,z3⟩=>⟨p,js,k',wd',z1,g _ _ (f2 _) z2,z3⟩⟩
theorem TurnsAs.lts{as:As}(h:TurnsAs H ts c us wds as)(g:Stays f H H')(f1: ∀xs,f (.lst xs)=false:=by intro;rfl)(f2: ∀xs,f (.tup xs)=false:=by intro;rfl):TurnsAs H' ts c us wds as:=fun k x wd a e1 e2 e3=>let⟨vs,z1,z2⟩:=h k x wd a e1 e2 e3;⟨vs,g _ _ (f1 _) z1,z2.lts g f2⟩
theorem TiledAt.keeps{t:Addr}(h:TiledAt H t ts c us wds)(g:Keeps H H'):TiledAt H' t ts c us wds:=let⟨as,z1,z2,z3⟩:=h;⟨as,g _ _ (nz z1),z2,z3.lts (a5j g)⟩
theorem TurnsAt.keeps{t:Addr}(h:TurnsAt H t ts c us wds)(g:Keeps H H'):TurnsAt H' t ts c us wds:=let⟨as,z1,z2,z3⟩:=h;⟨as,g _ _ (nz z1),z2,z3.lts (a5j g)⟩
end
def lpF(m g t u:Addr)(k:Nat):List (Str×V):=[("machine",.ref m),("group",.ref g),("tiles",.ref t),("turns",.ref u),("tile_count",nv k)]
section
variable{m g t u:Addr}{k:Nat}
theorem d4t:(lpF m g t u k).lookup ("group":Str)=some (.ref g):=by kernel_rfl
theorem lpF_k:(lpF m g t u k).lookup ("tile_count":Str)=some (nv k):=by kernel_rfl
end
def StepAt(C:Addr)(H:Hp)(q m:Addr)(ts:LN)(L:Lv):Prop:= ∃(dx g t u:Addr) (gr:As),H q=some (.ins C dx (lpF m g t u L.us.length))/\H g=some (.lst (gr.map .ref))/\TupsAt H gr L.gs/\TiledAt H t ts L.c L.us L.wds/\TurnsAt H u ts L.c L.us L.wds
theorem StepAt.keeps{C:Addr}{H H':Hp}{q m:Addr}{ts:LN}{L:Lv}(h:StepAt C H q m ts L)(k:Keeps H H'):StepAt C H' q m ts L:=
 let⟨dx,g,t,u,gr,h1,h2,h3,h4,h5⟩:=h;⟨dx,g,t,u,gr,k _ _ (nz h1),k _ _ (nz h2),a1o h3 k,h4.keeps k,h5.keeps k⟩
structure StepsAt(C:Addr)(H:Hp)(qs:As)(m:Addr)(ts:LN)(Ls:List Lv):Prop where
 len:qs.length=Ls.length
 is: ∀(i:Nat) (q:Addr) (L:Lv),qs[i]? =some q->Ls[i]? =some L->StepAt C H q m ts L
theorem StepsAt.keeps{C:Addr}{H H':Hp}{qs:As}{m:Addr}{ts:LN}{Ls:List Lv}(h:StepsAt C H qs m ts Ls)(k:Keeps H H'):StepsAt C H' qs m ts Ls:=⟨h.len,fun i q L e1 e2=>(h.is i q L e1 e2).keeps k⟩
def rowF(r s:Addr):List (Str×V):=[("rooms",.ref r),("steps",.ref s)]
theorem d4u{r s:Addr}:(rowF r s).lookup ("steps":Str)=some (.ref s):=by kernel_rfl
def RowAt(CL CR:Addr)(H:Hp)(p m:Addr)(ts:LN)(n:Nat)(Ls:List Lv):Prop:= ∃(dx r s:Addr) (qs:As),H p=some (.ins CR dx (rowF r s))/\H r=some (.tup ((List.range n).map nv))/\H s=some (.lst (qs.map .ref))/\StepsAt CL H qs m ts Ls
theorem RowAt.keeps{CL CR:Addr}{H H':Hp}{p m:Addr}{ts:LN}{n:Nat}{Ls:List Lv}(h:RowAt CL CR H p m ts n Ls)(k:Keeps H H'):RowAt CL CR H' p m ts n Ls:=
 let⟨dx,r,s,qs,h1,h2,h3,h4⟩:=h;⟨dx,r,s,qs,k _ _ (nz h1),k _ _ (nz h2),k _ _ (nz h3),h4.keeps k⟩
def b8x(C:Addr):Sp:=fun vs H Q _=> ∃(H0:Hp) (p dx m a:Addr) (ts:LN) (n:Nat) (fam c us wds:LN),vs=[.ref p,.ref m,.ref a]/\Same H0 H/\H0 p=none/\H p=some (.ins C dx [])/\Mach H0 m ts n/\FamOf ts n fam/\LvH H0 a c us wds/\LvP ts fam c us wds/\Tabs H0/\
 ∀gs H',Keeps H0 H'->Tabs H'->GrpOf ts c us wds gs->StepAt C H' p m ts ⟨c,us,wds,gs⟩->Q .non H'
def b5e(CL CR:Addr):Sp:=fun vs H Q _=> ∃(H0:Hp) (p dx m:Addr) (ts:LN) (n:Nat),vs=[.ref p,.ref m]/\Same H0 H/\H0 p=none/\H p=some (.ins CR dx [])/\Mach H0 m ts n/\Tabs H0/\
 ∀fam Ls H',Keeps H0 H'->Tabs H'->RowOf ts n fam Ls->RowAt CL CR H' p m ts n Ls->Q .non H'
theorem Tabs.offI{H:Hp}{p C dx:Addr}{fs:List (Str×V)}{o:HO}(t:Tabs H)(h:H p=some (.ins C dx fs)):Tabs (upd H p o):=fun q hq=>by
 have k: ∀{b:Addr} {u:HO},u≠ .ins C dx fs->H b=some u->upd H p o b=some u:=fun n hb=>by
  rw[a0c (a5k hb h n)]
  exact hb
 rcases t q hq with t|⟨cc,t1,t2⟩
 ·exact .inl (k (fun e=>nomatch e) t)
 ·exact .inr ⟨cc,k (fun e=>nomatch e) t1,k (fun e=>nomatch e) t2⟩
theorem Tabs.offD{H:Hp}{D:Addr}{kvs:List (List Key×V)}{o:HO}(t:Tabs H)(h:H D=some (.dT kvs)):Tabs (upd H D o):=t.most fun b u n _ hb=>by
 rw[a0c (a5k hb h fun e=>n _ e)]
 exact hb
theorem a3x{H H':Hp}{l:Addr}{o:HO}(g:Keeps H H')(n:H l=none):Keeps H (upd H' l o):=b0c g (b1t n)
theorem b1e{H H':Hp}{l:Addr}(g:Keeps H H')(n:H' l=none):L2.noT H l=none:=by
 cases y:L2.noT H l with
 |none=>rfl
 |some o=>
  rw[g _ _ y]at n
  cases n
theorem StepAt.off{C C':Addr}{H:Hp}{q m p d:Addr}{ts:LN}{L:Lv}{fs:List (Str×V)}{o:HO}(h:StepAt C H q m ts L)(hp:H p=some (.ins C' d fs))(n:fs.length≠5):StepAt C (upd H p o) q m ts L:=by
 obtain⟨dx,g,t,u,gr,h1,h2,h3,⟨as,t1,t2,t3⟩,as2,u1,u2,u3⟩:=h
 have lo:Stays isIn H (upd H p o):=Stays.offI hp
 refine⟨dx,g,t,u,gr,?_,lo.a h2,lo.tups h3,⟨as,lo.a t1,t2,t3.lts lo⟩,as2,lo.a u1,u2,u3.lts lo⟩
 rw[a0c (a5k h1 hp fun e=>by injection e with _ _ e;exact n (by rw[<-e];rfl))]
 exact h1
theorem a5d{α:Type}{P:Nat->α->Prop}{xs:List α}{x:α}(h: ∀k y,xs[k]? =some y->P k y)(hx:P xs.length x)(k:Nat)(y:α)(e:(xs++[x])[k]? =some y):P k y:=by
 by_cases hk:k<xs.length
 ·rw[a0R hk]at e
  exact h k y e
 ·have lk:=(a0B.mp e).1
  rw[a0M,a4S]at lk
  have ek:k=xs.length:=by lia
  subst ek
  rw[a0P (a0J _),a6C]at e
  cases e
  exact hx
theorem c0v{C:Addr}(F:Fun K "__init__" "LevelParts.__init__" a2k f fd)(u_LevelParts:OwnC K C ["machine","group","tiles","turns","tile_count"])(c_level_group:a0q P w K mg base "level_group" 13 ["machine","level"] b6t)(c_tiles_of_set:a0q P w K mg base "tiles_of_set" 7 ["machine","level","k"] a9w)(c_tiles_turned:a0q P w K mg base "tiles_turned" 9 ["machine","level","k","letter"] b3a)(m_enumerate:mg "enumerate"=none)(m_range:mg "range"=none)(m_len:mg "len"=none):FnOk P w K mg base CX0 15 f fd ["self","machine","level"] (b8x C):=by
 refine F.ok scLevelPartsInit (fun vs H Q E h=>?_) (fun cdv A outer s H vs Q E hr h=>?_)
 ·obtain⟨H0,p,dx,m,a,ts,n,fam,c,us,wds,rfl,_⟩:=h
  rfl
 obtain⟨H0,p,dx,m,a,ts,n,fam,c,us,wds,rfl,g0,np,hp,M,ff,lv,lp,hT,q⟩:=h
 have hu:=hr.units
 have hu1:=a7w hr
 obtain⟨s',t',v',bs,ds,cs,h1,h2,h3,h4,h5,h6,h7,h8⟩:=id lv
 have lb:=h3.len
 have l5:=h5.len
 obtain⟨uU,few⟩:=lp.inU M ff
 obtain⟨rs,hm,hrl,_⟩:=M.refs
 have t4:=M.few
 have nd:=lp.nd ff
 have c32:c.length<=32:=by
  rw[(a0t lp.cls).2.1]
  exact a0Y (a1K _ _) (a0Y (a1K _ _) (ff.few M))
 refine⟨_,(a0g (a8y (pv 0) (pv 1) rfl) (a0g (a8y (pv 0) (a0k c_level_group hr.m rfl (a0y (a0b (pv 1) (a0b (pv 2) a0r rfl) rfl))) rfl) (a0g (a8y (pv 0) a6d rfl) (a0g (a8y (pv 0) a6d rfl) (a0g (a2w a2E rfl (b2f rfl m_enumerate (a0f (a1h a1k (pv 2) a0p (fun _ _=>rfl)) a0i)) (b3j rfl (a2p (a1a (i:=3) scLevelPartsInit.nd rfl (Or.inr rfl)) (a2p (a1a (i:=4) scLevelPartsInit.nd rfl (Or.inl rfl)) a8u))) (a0g (a6z hu1 (b0k (pv 0) rfl) (pv 4) (a0k c_tiles_of_set hr.m rfl (a0y (a0b (pv 1) (a0b (pv 2) (a0b (pv 3) a0r rfl) rfl) rfl))) rfl) (a0j (a6z hu1 (b0k (pv 0) rfl) (pv 4) (a1d (CompSc.to (N:=["self","machine","level","k","rooms"]) (osc:=a0e a2k) (vs:=["letter"]) {}) rfl rfl (a2e rfl m_range (a0f (a0n a0l rfl m_len a4F (a0f (pv 1) a0i)) a0i)) (fun _ _ _ _=>a2h) (fun _ _ _ _=>(a0k c_tiles_turned hr.m rfl (a0y (a0b (pv 2) (a0b (pv 3) (a0b (pv 4) (a0b (pv 0) a0r rfl) rfl) rfl) rfl))))) rfl)))) (a0j (a8y (pv 0) (a0n a0l rfl m_len a4F (a0f (a1h a1k (pv 2) a0p (fun _ _=>rfl)) a0i)) rfl))))))),?_⟩
 refine⟨_,rfl,_,rfl,p,C,dx,_,rfl,hp,u_LevelParts.cl,u_LevelParts.no,by show 0<1000;decide,?_⟩
 have g1:Same H0 (upd H p (.ins C dx (a2q "machine" (.ref m) []))):=a1b g0 np
 have p1:upd H p (.ins C dx (a2q "machine" (.ref m) [])) p=some (.ins C dx (a2q "machine" (.ref m) [])):=a0a
 generalize upd H p (.ins C dx (a2q "machine" (.ref m) []))=H1 at g1 p1⊢
 refine⟨_,rfl,_,rfl,m,a,ts,n,fam,c,us,wds,rfl,M.same g1,ff,lv.same g1,lp,hT.same g1,fun g gr gs mk ws H2 k2 T2 ng eg Tg pm up Mk TT=>?_⟩
 have G:=c9s M ff lp pm up Mk TT
 have p2:=k2 _ _ (nz p1)
 refine⟨_,rfl,p,C,dx,_,rfl,p2,u_LevelParts.cl,u_LevelParts.no,by show 1<1000;decide,?_⟩
 have gp:g≠p:=nE eg p2
 have k3:Keeps H0 (upd H2 p (.ins C dx (a2q "group" (.ref g) (a2q "machine" (.ref m) [])))):=a3x (g1.keeps.trans k2) np
 have T3:Tabs (upd H2 p (.ins C dx (a2q "group" (.ref g) (a2q "machine" (.ref m) [])))):=T2.offI p2
 have p3:upd H2 p (.ins C dx (a2q "group" (.ref g) (a2q "machine" (.ref m) []))) p=some (.ins C dx [("machine",.ref m),("group",.ref g)]):=by rw[a0a];exact a1Z (fun l=>some (HO.ins C dx l)) (by kernel_rfl)
 have eg3:upd H2 p (.ins C dx (a2q "group" (.ref g) (a2q "machine" (.ref m) []))) g=some (.lst (gr.map .ref)):=by rw[a0c gp];exact eg
 have Tg3:TupsAt (upd H2 p (.ins C dx (a2q "group" (.ref g) (a2q "machine" (.ref m) [])))) gr gs:=a3q Tg p2 fun _ e=>nomatch e
 generalize upd H2 p (.ins C dx (a2q "group" (.ref g) (a2q "machine" (.ref m) [])))=H3 at k3 T3 p3 eg3 Tg3⊢
 intro t ht
 have kt:=a0d ht (.dT [])
 have npt:p≠t:=a0h p3 ht
 have ntT:=b1e k3 ht
 refine⟨_,rfl,p,C,dx,_,rfl,kt _ _ p3,u_LevelParts.cl,u_LevelParts.no,by show 2<1000;decide,?_⟩
 have k4:Keeps H0 (upd (upd H3 t (.dT [])) p (.ins C dx (a2q "tiles" (.ref t) [("machine",.ref m),("group",.ref g)]))):=a3x (k3.trans kt.keeps) np
 have T4:Tabs (upd (upd H3 t (.dT [])) p (.ins C dx (a2q "tiles" (.ref t) [("machine",.ref m),("group",.ref g)]))):=(T3.same kt).offI (kt _ _ p3)
 have p4:upd (upd H3 t (.dT [])) p (.ins C dx (a2q "tiles" (.ref t) [("machine",.ref m),("group",.ref g)])) p=some (.ins C dx [("machine",.ref m),("group",.ref g),("tiles",.ref t)]):=by rw[a0a];exact a1Z (fun l=>some (HO.ins C dx l)) (by kernel_rfl)
 have eg4:upd (upd H3 t (.dT [])) p (.ins C dx (a2q "tiles" (.ref t) [("machine",.ref m),("group",.ref g)])) g=some (.lst (gr.map .ref)):=by rw[a0c gp];exact kt _ _ eg3
 have Tg4:TupsAt (upd (upd H3 t (.dT [])) p (.ins C dx (a2q "tiles" (.ref t) [("machine",.ref m),("group",.ref g)]))) gr gs:=a3q (Tg3.same kt) (kt _ _ p3) fun _ e=>nomatch e
 have et4:upd (upd H3 t (.dT [])) p (.ins C dx (a2q "tiles" (.ref t) [("machine",.ref m),("group",.ref g)])) t=some (.dT []):=by rw[a0c npt.symm];exact a0a
 generalize upd (upd H3 t (.dT [])) p (.ins C dx (a2q "tiles" (.ref t) [("machine",.ref m),("group",.ref g)]))=H4 at k4 T4 p4 eg4 Tg4 et4⊢
 clear k3 T3 p3 eg3 Tg3 kt ht k2 T2 p2 eg Tg g1 p1 g0 hp
 intro u hu'
 have kt:=a0d hu' (.dT [])
 have npu:p≠u:=a0h p4 hu'
 have ntu:t≠u:=a0h et4 hu'
 refine⟨_,rfl,p,C,dx,_,rfl,kt _ _ p4,u_LevelParts.cl,u_LevelParts.no,by show 3<1000;decide,?_⟩
 have k5:Keeps H0 (upd (upd H4 u (.dT [])) p (.ins C dx (a2q "turns" (.ref u) [("machine",.ref m),("group",.ref g),("tiles",.ref t)]))):=a3x (k4.trans kt.keeps) np
 have T5:Tabs (upd (upd H4 u (.dT [])) p (.ins C dx (a2q "turns" (.ref u) [("machine",.ref m),("group",.ref g),("tiles",.ref t)]))):=(T4.same kt).offI (kt _ _ p4)
 have p5:upd (upd H4 u (.dT [])) p (.ins C dx (a2q "turns" (.ref u) [("machine",.ref m),("group",.ref g),("tiles",.ref t)])) p=some (.ins C dx [("machine",.ref m),("group",.ref g),("tiles",.ref t),("turns",.ref u)]):=by rw[a0a];exact a1Z (fun l=>some (HO.ins C dx l)) (by kernel_rfl)
 have eg5:upd (upd H4 u (.dT [])) p (.ins C dx (a2q "turns" (.ref u) [("machine",.ref m),("group",.ref g),("tiles",.ref t)])) g=some (.lst (gr.map .ref)):=by rw[a0c gp];exact kt _ _ eg4
 have Tg5:TupsAt (upd (upd H4 u (.dT [])) p (.ins C dx (a2q "turns" (.ref u) [("machine",.ref m),("group",.ref g),("tiles",.ref t)]))) gr gs:=a3q (Tg4.same kt) (kt _ _ p4) fun _ e=>nomatch e
 have et5:upd (upd H4 u (.dT [])) p (.ins C dx (a2q "turns" (.ref u) [("machine",.ref m),("group",.ref g),("tiles",.ref t)])) t=some (.dT []):=by rw[a0c npt.symm];exact kt _ _ et4
 have eu5:upd (upd H4 u (.dT [])) p (.ins C dx (a2q "turns" (.ref u) [("machine",.ref m),("group",.ref g),("tiles",.ref t)])) u=some (.dT []):=by rw[a0c npu.symm];exact a0a
 have nuT:=b1e k4 hu'
 generalize upd (upd H4 u (.dT [])) p (.ins C dx (a2q "turns" (.ref u) [("machine",.ref m),("group",.ref g),("tiles",.ref t)]))=H5 at k5 T5 p5 eg5 Tg5 et5 eu5⊢
 clear k4 T4 p4 eg4 Tg4 et4 kt hu'
 let Pv:Nat->L2.St->Hp->Prop:=fun i σ H'=>Keeps H0 H'/\Tabs H'/\H' p=some (.ins C dx [("machine",.ref m),("group",.ref g),("tiles",.ref t),("turns",.ref u)])/\H' g=some (.lst (gr.map .ref))/\TupsAt H' gr gs/\(∃as,H' t=some (.dT (kvA (c.take i) as))/\as.length=i/\TiledAs H' ts us wds as)/\(∃as,H' u=some (.dT (kvA (c.take i) as))/\as.length=i/\TurnsAs H' ts c us wds as)/\ ∃o3 o4,σ=[some (.ref p),some (.ref m),some (.ref a),o3,o4]
 have nk0:=fun {H':Hp} (k:Keeps H0 H')=>a5j k
 refine⟨_,rfl,a,_,_,_,rfl,rfl,SqT.of ((nk0 k5).a h1),rfl,s',_,rfl,SqL.of ((nk0 k5).a h2),a8l (xs:=bs.map .ref) Pv ⟨k5,T5,p5,eg5,Tg5,⟨[],et5,rfl,fun k wd a _ e=>by simp at e⟩,⟨[],eu5,rfl,fun k x wd a _ _ e=>by simp at e⟩,_,_,rfl⟩ (fun i σ H' _ p=>SqL.of ((nk0 p.1).a h2)) (fun i Tp v σ H6 hv nT pv=>?_) (fun σ H6 pv=>?_)⟩
 ·obtain⟨k6,T6,p6,eg6,Tg6,⟨as,et6,la,ta⟩,⟨as2,eu6,la2,tb⟩,o3,o4,rfl⟩:=pv
  rw[a0G]at hv
  obtain⟨b,eb,rfl⟩:=a0O.mp hv
  have li:=(a0B.mp eb).1
  obtain⟨x,ex⟩: ∃x,c[i]? =some x:=⟨_,a0A (by lia)⟩
  obtain⟨wd,ew⟩: ∃wd,wds[i]? =some wd:=⟨_,a0A (by rw[lp.len];lia)⟩
  have lwd:=(lp.go i x wd ex ew).1
  have tk:c.take (i+1)=c.take i++[x]:=by rw[a1V,ex];rfl
  have xn:x∉c.take i:=fun h=>by
   obtain⟨j,ej⟩:=a1A.mp h;have lj:=(a0B.mp ej).1;rw[a1N]at lj;rw[a4Z (by lia)]at ej;have:=(a2G (by lia) nd).mp (ej.trans ex.symm)
   lia
  have lt:(c.take i).length=i:=by rw[a1N];lia
  have kT:=a0d nT (.tup [.int (i:Nat),.ref b])
  have eT:upd H6 Tp (.tup [.int (i:Nat),.ref b]) Tp=some (.tup [.int (i:Nat),.ref b]):=a0a
  generalize upd H6 Tp (.tup [.int (i:Nat),.ref b])=H7 at kT eT⊢
  have k7:=k6.trans kT.keeps
  refine⟨Tp,_,rfl,SqT.of eT,rfl,_,_,rfl,_,_,rfl,rfl,?_⟩
  refine⟨_,rfl,_,rfl,_,rfl,m,a,i,ts,n,c,us,wds,wd,rfl,M.keeps k7,LvH.keeps lv k7,ew,uU,few,lwd,fun l es H8 g8 el Tes=>?_⟩
  have g68:=kT.trans g8
  have k8:=k6.trans g68.keeps
  have hb8:=(nk0 k8).a (h3.is i b x eb ex)
  refine⟨_,rfl,p,C,dx,_,_,rfl,g68 _ _ p6,u_LevelParts.cl,u_LevelParts.no,(by kernel_rfl),_,rfl,t,_,rfl,DPut.t (g68 _ _ et6) (by rw[a5r];exact hb8) (by rw[b6u (by lia),a1B];lia),?_⟩
  rw[b6v (by lia) xn,<-tk]
  have et8:=g68 _ _ et6
  have lo:Lts H6 (upd H8 t (.dT (kvA (c.take (i+1)) (as++[l])))):=fun b o n hb=>Stays.off et8 b o n (g68 _ _ hb)
  have lo8:Lts H8 (upd H8 t (.dT (kvA (c.take (i+1)) (as++[l])))):=Stays.off et8
  have k9:Keeps H0 (upd H8 t (.dT (kvA (c.take (i+1)) (as++[l])))):=b0c k8 ntT
  have T9:Tabs (upd H8 t (.dT (kvA (c.take (i+1)) (as++[l])))):=(T6.same g68).offD et8
  have et9:upd H8 t (.dT (kvA (c.take (i+1)) (as++[l]))) t=some (.dT (kvA (c.take (i+1)) (as++[l]))):=a0a
  have eu9:upd H8 t (.dT (kvA (c.take (i+1)) (as++[l]))) u=some (.dT (kvA (c.take i) as2)):=by rw[a0c ntu.symm];exact g68 _ _ eu6
  have ta9:TiledAs (upd H8 t (.dT (kvA (c.take (i+1)) (as++[l])))) ts us wds (as++[l]):=fun k wd' a' e1 e2=>a5d (P:=fun k a=> ∀wd,wds[k]? =some wd-> ∃es,upd H8 t (.dT (kvA (c.take (i+1)) (as++[l]))) a=some (.lst (es.map .ref))/\TupsAt (upd H8 t (.dT (kvA (c.take (i+1)) (as++[l])))) es (tl ts us wd)) (fun k a e wd e'=>(ta.lts lo) k wd a e' e) (fun wd' e=>by
   rw[la,ew]at e;cases e;exact⟨es,lo8.a el,lo8.tups Tes⟩) k a' e2 wd' e1
  have p9:=lo.a p6
  have eg9:=lo.a eg6
  have Tg9:=lo.tups Tg6
  have tb9:=tb.lts lo
  generalize upd H8 t (.dT (kvA (c.take (i+1)) (as++[l])))=H9 at k9 T9 et9 eu9 ta9 p9 eg9 Tg9 tb9⊢
  clear lo lo8 g68 g8 k8 hb8 et8 kT eT k7 el Tes
  refine⟨_,rfl,m,_,rfl,.inr (SqT.of ((nk0 k9).a hm)),(ts.length:Int),by rw[a0D,hrl],by lia,by lia,a3s (fun j ys H'=>Same H9 H'/\ys.length=j/\ ∀(l:Nat) (v:V),ys[l]? =some v->(a0m ts x l∉c/\v= .non)∨ ∃(p:Addr) (js:Nsq) (k':Nat) (wd':Nsq),v= .ref p/\H' p=some (.tup (js.map nv))/\c[k']? =some (a0m ts x l)/\wds[k']? =some wd'/\a1p ts us wd wd' l js) (by rw[a1W];exact small (by lia)) ⟨Same.refl _,rfl,fun l v e=>by simp at e⟩ (fun j ys H' _ pv=>Nat.le_of_eq pv.2.1) (fun j ys H' hj pv=>?_) (fun ys H' pv sg hsg=>?_)⟩
  ·obtain⟨g,ly,al⟩:=pv
   have e0:V.int (0+(j:Int))=nv j:=by show V.int (0+(j:Int))=V.int (j:Int);rw[a7S]
   have hj':j<ts.length:=by simpa using hj
   rw[e0];have k10:=k9.trans g.keeps;refine⟨a1c,a4k ⟨_,rfl,_,rfl,_,rfl,_,rfl,m,a,i,j,ts,n,fam,c,us,wds,x,wd,rfl,M.keeps k10,ff,LvH.keeps lv k10,lp,ex,ew,hj',fun no H2 g2=>?_,fun k' wd' ey ew' pp js H2 g2 ep tb'=>?_⟩⟩
   ·refine⟨g.trans g2,by rw[a0M,ly];rfl,fun l v e=>a5d (P:=fun l v=>(a0m ts x l∉c/\v=V.non)∨ ∃(p:Addr) (js:Nsq) (k':Nat) (wd':Nsq),v= .ref p/\H2 p=some (.tup (js.map nv))/\c[k']? =some (a0m ts x l)/\wds[k']? =some wd'/\a1p ts us wd wd' l js) (fun l v e=>(al l v e).imp id fun⟨p,js,k',wd',z1,z2,z3⟩=>⟨p,js,k',wd',z1,g2 _ _ z2,z3⟩) (.inl ⟨by rw[ly];exact no,rfl⟩) l v e⟩
   ·refine⟨g.trans g2,by rw[a0M,ly];rfl,fun l v e=>a5d (P:=fun l v=>(a0m ts x l∉c/\v=V.non)∨ ∃(p:Addr) (js:Nsq) (k':Nat) (wd':Nsq),v= .ref p/\H2 p=some (.tup (js.map nv))/\c[k']? =some (a0m ts x l)/\wds[k']? =some wd'/\a1p ts us wd wd' l js) (fun l v e=>(al l v e).imp id fun⟨p,js,k',wd',z1,z2,z3⟩=>⟨p,js,k',wd',z1,g2 _ _ z2,z3⟩) (.inr ⟨pp,js,k',wd',rfl,ep,by rw[ly];exact ey,ew',by rw[ly];exact tb'⟩) l v e⟩
  ·obtain⟨g,ly,al⟩:=pv
   rw[a1W]at ly;have ks:=a0d hsg (.lst ys);have es:upd H' sg (.lst ys) sg=some (.lst ys):=a0a;have g10:=g.trans ks;have TL:TurnL (upd H' sg (.lst ys)) ts c us wds x wd ys:=TurnL.lts ⟨ly,al⟩ (a2z ks);generalize upd H' sg (.lst ys)=H10 at ks es g10 TL⊢;have k10:=k9.trans g10.keeps;have hb10:=(nk0 k10).a (h3.is i b x eb ex);have eu10:=g10 _ _ eu9;refine⟨_,rfl,p,C,dx,_,_,rfl,g10 _ _ p9,u_LevelParts.cl,u_LevelParts.no,(by kernel_rfl),_,rfl,u,_,rfl,DPut.t eu10 (by rw[a5r];exact hb10) (by rw[b6u (by lia),a1B];lia),?_⟩;rw[b6v (by lia) xn,<-tk];have lo:Lts H9 (upd H10 u (.dT (kvA (c.take (i+1)) (as2++[sg])))):=fun b o n hb=>Stays.off eu10 b o n (g10 _ _ hb)
   have lo10:Lts H10 (upd H10 u (.dT (kvA (c.take (i+1)) (as2++[sg])))):=Stays.off eu10;refine⟨b0c k10 nuT,(T9.same g10).offD eu10,lo.a p9,lo.a eg9,lo.tups Tg9,⟨as++[l],by rw[a0c ntu];exact g10 _ _ et9,by rw[a0M,la];rfl,ta9.lts lo⟩,⟨as2++[sg],a0a,by rw[a0M,la2];rfl,fun k x' wd' a' e1 e2 e3=>?_⟩,_,_,rfl⟩;refine a5d (P:=fun k a=> ∀x wd,c[k]? =some x->wds[k]? =some wd-> ∃vs,upd H10 u (.dT (kvA (c.take (i+1)) (as2++[sg]))) a=some (.lst vs)/\TurnL (upd H10 u (.dT (kvA (c.take (i+1)) (as2++[sg])))) ts c us wds x wd vs) (fun k a e x wd e1 e2=>(tb9.lts lo) k x wd a e1 e2 e) (fun x' wd' e1 e2=>?_) k a' e3 x' wd' e1 e2;rw[la2,ex]at e1;rw[la2,ew]at e2;cases e1;cases e2;exact⟨ys,lo10.a es,TL.lts lo10⟩
 ·obtain⟨k6,T6,p6,eg6,Tg6,⟨as,et6,la,ta⟩,⟨as2,eu6,la2,tb⟩,o3,o4,rfl⟩:=pv
  rw[a0D,lb]at et6 eu6 la la2
  rw[a1Q]at et6 eu6
  refine⟨_,rfl,a,_,_,_,rfl,rfl,SqT.of ((nk0 k6).a h1),rfl,t',_,rfl,.inl (SqL.of ((nk0 k6).a h4)),_,rfl,p,C,dx,_,rfl,p6,u_LevelParts.cl,u_LevelParts.no,by show 4<1000;decide,?_⟩
  rw[show((ds.map V.ref).length)=us.length by rw[a0D,l5]]
  have lo:Stays isIn H6 (upd H6 p (.ins C dx (a2q "tile_count" (nv us.length) [("machine",.ref m),("group",.ref g),("tiles",.ref t),("turns",.ref u)]))):=Stays.offI p6
  refine q gs _ (a3x k6 np) (T6.offI p6) G ⟨dx,g,t,u,gr,?_,lo.a eg6,lo.tups Tg6,⟨as,lo.a et6,la,ta.lts lo⟩,as2,lo.a eu6,la2,tb.lts lo⟩
  rw[a0a]
  exact a1Z (fun l=>some (HO.ins C dx l)) (by kernel_rfl)
theorem b6w{CL CR T:Addr}(F:Fun K "__init__" "Row.__init__" a8p f fd)(u_Row:OwnC K CR ["rooms","steps"])(c_LevelParts:c4j P w K mg base "LevelParts" CL 15 ["self","machine","level"] (b8x CL))(c_levels:a0q P w K mg base "levels" 18 ["machine"] (b2w T (⟨49,40,49,93⟩:Pos)))(c_still:a0q P w K mg base "still" 1 ["rooms"] b2p)(m_len:mg "len"=none):FnOk P w K mg base CX0 20 f fd ["self","machine"] (b5e CL CR):=by
 refine F.ok c4o (fun vs H Q E h=>?_) (fun cdv A outer s H vs Q E hr h=>?_)
 ·obtain⟨H0,p,dx,m,ts,n,rfl,_⟩:=h
  rfl
 obtain⟨H0,p,dx,m,ts,n,rfl,g0,np,hp,M,hT,q⟩:=h
 have hu:=hr.units
 have hu1:=a7w hr
 obtain⟨rs,r0,hm,hrl,at0,hr0,ln0,_⟩:=M.at (l:=0) M.some1
 have n5:=M.n5
 refine⟨_,(a0g (a8y (pv 0) (a0k c_still hr.m rfl (a0f (a0n a0l rfl m_len a4F (a0f (a1h a1k (pv 1) a0p (fun _ _=>rfl)) a0i)) a0i)) rfl) (a0j (a8y (pv 0) (a1d (CompSc.to (N:=["self","machine"]) (osc:=a0e a8p) (vs:=["level"]) {}) rfl rfl (a1i (a0k c_levels hr.m rfl (a0f (pv 1) a0i))) (fun _ _ _ _=>a2h) (fun _ _ _ _=>(b2g c_LevelParts hr.m rfl (a0y (a0b (pv 2) (a0b (pv 0) a0r rfl) rfl))))) rfl))),?_⟩
 refine⟨_,rfl,m,_,_,_,rfl,rfl,SqT.of (g0 _ _ hm),at0,r0,_,rfl,.inr (SqT.of (g0 _ _ hr0)),?_⟩
 try dsimp only
 rw[a0D,ln0]
 refine⟨n,rfl,by lia,fun r H1 g1 er=>?_⟩
 have p1:=g1 _ _ hp
 have np1:p≠r:=nE p1 er
 refine⟨_,rfl,p,CR,dx,_,rfl,p1,u_Row.cl,u_Row.no,by show 0<1000;decide,?_⟩
 have g2:Same H0 (upd H1 p (.ins CR dx (a2q "rooms" (.ref r) []))):=a1b (g0.trans g1) np
 have p2:upd H1 p (.ins CR dx (a2q "rooms" (.ref r) [])) p=some (.ins CR dx [("rooms",.ref r)]):=a0a
 have er2:upd H1 p (.ins CR dx (a2q "rooms" (.ref r) [])) r=some (.tup ((List.range n).map nv)):=by rw[a0c np1.symm];exact er
 generalize upd H1 p (.ins CR dx (a2q "rooms" (.ref r) []))=H2 at g2 p2 er2⊢
 clear g1 er p1 g0 hp
 refine⟨_,rfl,m,ts,n,rfl,M.same g2,hT.same g2,fun l as told fam ys H3 k3 T3 nl el ff od sub lim LL nw ap nwl=>?_⟩
 have k03:=g2.keeps.trans k3
 have la:=LL.len
 refine⟨l,rfl,⟨_,SqL.of el⟩,a1v (xs:=as.map .ref) (fun i vs H'=>Keeps H3 H'/\Tabs H'/\ ∃(qs:As) (Ls:List Lv),vs=qs.map V.ref/\Ls.length=i/\Ls.map (·.c)=told.take i/\(∀L∈Ls,LvOk ts fam L)/\StepsAt CL H' qs m ts Ls) (by rw[a0D];exact small (by lia)) ⟨Keeps.refl _,T3,[],[],rfl,rfl,rfl,(fun L h=>nomatch h),rfl,fun i q L e=>by simp at e⟩ (fun i vs H' _ pv=>?_) (fun i v vs H' hv pv=>?_) (fun vs H' pv sg hsg=>?_)⟩
 ·obtain⟨k4,_,qs,Ls,rfl,lq,_,_,S⟩:=pv
  exact⟨SqL.of (k4 _ _ (nz el)),by rw[a0D,S.len,lq];exact a0J _⟩
 ·obtain⟨k4,T4,qs,Ls,rfl,lq,eL,oks,S⟩:=pv
  rw[a0G]at hv
  obtain⟨lv,elv,rfl⟩:=a0O.mp hv
  have li:=(a0B.mp elv).1
  obtain⟨c,ec⟩: ∃c,told[i]? =some c:=⟨_,a0A (by lia)⟩
  obtain⟨wds,lvh,lp,wd⟩:=(LL.is i lv c elv ec).lvw (sub c (a0E ec))
  have k04:=k03.trans k4
  refine⟨a1c,a4k ⟨_,rfl,_,rfl,fun x dx' nx ndx nex=>?_⟩⟩
  have gx:Same H' (upd (upd H' dx' (.own x)) x (.ins CL dx' [])):=fun b o hb=>by
   rw[a0c (a0h hb nx),a0c (a0h hb ndx)];exact hb
  refine⟨H',x,dx',m,lv,ts,n,fam,c,_,wds,rfl,gx,nx,a0a,M.keeps k04,ff,LvH.keeps lvh k4,lp,T4,fun gs H5 k5 T5 G St=>⟨rfl,k4.trans k5,T5,qs++[x],Ls++[⟨c,a1t fam (c.headD []),wds,gs⟩],by rw[a1G];rfl,by rw[a0M,lq];rfl,?_,fun L hL=>?_,⟨by rw[a0M,a0M,S.len];rfl,fun j q' L e1 e2=>?_⟩⟩⟩
  ·rw[a1G,eL,a1V,ec]
   rfl
  ·rcases a0L.mp hL with z|z
   ·exact oks L z
   ·rw[a0H.mp z]
    exact⟨lp,wd,G⟩
  ·refine a5d (P:=fun j q=> ∀L,(Ls++[⟨c,a1t fam (c.headD []),wds,gs⟩])[j]? =some L->StepAt CL H5 q m ts L) (fun j q e L e2=>?_) (fun L e2=>?_) j q' e1 L e2
   ·have lj:=(a0B.mp e).1
    rw[a0R (by rw[<-S.len];exact lj)]at e2;exact(S.is j q L e e2).keeps k5
   ·rw[S.len,a0P (a0J _),a6C]at e2
    cases e2;exact St
 ·obtain⟨k4,T4,qs,Ls,rfl,lq,eL,oks,S⟩:=pv
  rw[a0D]at lq eL
  rw[la,a1Q]at eL
  have ks:=a0d hsg (.lst (qs.map V.ref))
  have k2s:=(k3.trans k4).trans ks.keeps
  have p5:=k2s _ _ (nz p2)
  refine⟨_,rfl,p,CR,dx,_,rfl,p5,u_Row.cl,u_Row.no,by show 1<1000;decide,?_⟩
  have lo:Stays isIn (upd H' sg (.lst (qs.map V.ref))) (upd (upd H' sg (.lst (qs.map V.ref))) p (.ins CR dx (a2q "steps" (.ref sg) [("rooms",.ref r)]))):=Stays.offI p5
  refine q fam Ls _ (a3x ((k03.trans k4).trans ks.keeps) np) ((T4.same ks).offI p5) ⟨ff,by rw[eL];exact od,by rw[lq,la];exact lim,oks⟩ ⟨dx,r,sg,qs,?_,lo.a (k2s _ _ (nz er2)),lo.a a0a,S.len,fun i q' L e1 e2=>((S.is i q' L e1 e2).keeps ks.keeps).off p5 (by show ¬1=5;decide)⟩
  rw[a0a]
  exact a1Z (fun l=>some (HO.ins CR dx l)) (by kernel_rfl)
def c0w(k:Nat)(L:Lv):List (Bool×Nat×Nat):=(if 1<L.gs.length then[(true,k,L.gs.length)]else[])++[(false,k,L.us.length)]
def a3i(Ls:List Lv):Nat->List (Bool×Nat×Nat)
 |0=>[]
 |i+1=>a3i Ls i++(match Ls[i]? with|some L=>c0w i L|none=>[])
def b3d(Ls:List Lv):List (Bool×Nat×Nat):=a3i Ls Ls.length
theorem c5t(k:Nat)(L:Lv):(c0w k L).length<=2:=by
 unfold c0w
 by_cases h:1<L.gs.length
 ·rw[if_pos h]
  exact a0J 2
 ·rw[if_neg h]
  exact a6M 1
theorem a4j(Ls:List Lv): ∀i,(a3i Ls i).length<=2 * i
 |0=>a0J _
 | i+1=>by
  have z:=a4j Ls i
  unfold a3i
  rw[a0M]
  cases e:Ls[i]? with
  |none=>
   simp only[List.length_nil];lia
  |some L=>
   have y:=c5t i L;simp only
   lia
theorem b1f{Ls:List Lv}{i:Nat}{L:Lv}(e:Ls[i]? =some L):a3i Ls (i+1)=a3i Ls i++c0w i L:=by
 show a3i Ls i++_=_
 rw[e]
def c8p:Bool->Str
 |true=>"turn"
 |false=>"bring"
structure PartsAt(H:Hp)(as:As)(ps:List (Bool×Nat×Nat)):Prop where
 len:as.length=ps.length
 is: ∀(i:Nat) (a:Addr) (p:Bool×Nat×Nat),as[i]? =some a->ps[i]? =some p->H a=some (.tup [.str (c8p p.1),nv p.2.1,nv p.2.2])
theorem PartsAt.st{f:HO->Bool}{H H':Hp}{as:As}{ps:List (Bool×Nat×Nat)}(h:PartsAt H as ps)(g:Stays f H H')(f2: ∀xs,f (.tup xs)=false:=by intro;rfl):PartsAt H' as ps:=⟨h.len,fun i a p e1 e2=>g _ _ (f2 _) (h.is i a p e1 e2)⟩
theorem PartsAt.snoc{H:Hp}{as:As}{ps:List (Bool×Nat×Nat)}{a:Addr}{p:Bool×Nat×Nat}(h:PartsAt H as ps)(e:H a=some (.tup [.str (c8p p.1),nv p.2.1,nv p.2.2])):PartsAt H (as++[a]) (ps++[p]):=by
 refine⟨by rw[a0M,a0M,h.len];rfl,fun i a' p' e1 e2=>?_⟩
 refine a5d (P:=fun i a'=> ∀p',(ps++[p])[i]? =some p'->H a'=some (.tup [.str (c8p p'.1),nv p'.2.1,nv p'.2.2])) (fun i a' e1 p' e2=>?_) (fun p' e2=>?_) i a' e1 p' e2
 ·rw[a0R (by rw[<-h.len];exact(a0B.mp e1).1)]at e2
  exact h.is i a' p' e1 e2
 ·rw[h.len,a0P (a0J _),a6C]at e2
  cases e2
  exact e
def d4v(C:Addr):Sp:=fun vs H Q _=> ∃(q m:Addr) (ts:LN) (L:Lv),vs=[.ref q]/\StepAt C H q m ts L/\Q (.bl (decide (1<L.gs.length))) H
def c5u(CL CR:Addr):Sp:=fun vs H Q _=> ∃(p m:Addr) (ts:LN) (n:Nat) (Ls:List Lv),vs=[.ref p]/\RowAt CL CR H p m ts n Ls/\Ls.length<=32/\
 ∀l as H',Same H H'->H l=none->H' l=some (.lst (as.map .ref))->PartsAt H' as (b3d Ls)->Q (.ref l) H'
theorem b3e{C:Addr}(F:Fun K "is_turning" "LevelParts.is_turning" a1s f fd)(u_LevelParts:OwnC K C ["machine","group","tiles","turns","tile_count"])(m_len:mg "len"=none):FnOk P w K mg base CX0 1 f fd ["self"] (d4v C):=by
 refine F.ok a5a (fun vs H Q E h=>?_) (fun cdv A outer s H vs Q E hr h=>?_)
 ·obtain⟨q,m,ts,L,rfl,_⟩:=h
  rfl
 obtain⟨q,m,ts,L,rfl,⟨dx,g,t,u,gr,h1,h2,h3,_⟩,k⟩:=h
 refine⟨_,(a0j (a0w (a5p c6f (a0n a0l rfl m_len a4F (a0f (b0k (pv 0) rfl) a0i)) a0p (a1u _)))),?_⟩
 refine⟨_,rfl,q,C,dx,_,_,rfl,h1,u_LevelParts.cl,u_LevelParts.no,d4t,g,_,rfl,.inl (SqL.of h2),_,_,rfl,rfl,?_⟩
 show Q (.bl (decide ((1:Int)<(((gr.map V.ref).length:Nat):Int)))) H
 rw[a0D,h3.len,show decide ((1:Int)<((L.gs.length:Nat):Int))=decide (1<L.gs.length)from decide_eq_decide.mpr (by lia)]
 exact k
theorem c8q{CL CR:Addr}(F:Fun K "parts" "Row.parts" a9r f fd)(u_LevelParts:OwnC K CL ["machine","group","tiles","turns","tile_count"])(u_Row:OwnC K CR ["rooms","steps"])(c_LevelParts_is_turning:c4i P w K mg base CL "is_turning" 1 ["self"] (d4v CL))(m_enumerate:mg "enumerate"=none)(m_len:mg "len"=none):FnOk P w K mg base CX0 3 f fd ["self"] (c5u CL CR):=by
 refine F.ok scRowParts (fun vs H Q E h=>?_) (fun cdv A outer s H vs Q E hr h=>?_)
 ·obtain⟨p,m,ts,n,Ls,rfl,_⟩:=h
  rfl
 obtain⟨p,m,ts,n,Ls,rfl,⟨dx,r,st,qs,h1,h2,h3,S⟩,few,q⟩:=h
 have hu:=hr.units
 refine⟨_,(a0g (a0u (i:=1) scRowParts.nd rfl (Or.inl rfl) (a2r a0i)) (a0g (a2w a2E rfl (b2f rfl m_enumerate (a0f (b0k (pv 0) rfl) a0i)) (b3j rfl (a2p (a1a (i:=2) scRowParts.nd rfl (Or.inl rfl)) (a2p (a1a (i:=3) scRowParts.nd rfl (Or.inl rfl)) a8u))) (a0g (c2h (a5n (a5z (a6o (pv 3) u_LevelParts.cl c_LevelParts_is_turning hr.m)) (a0j (a2n (a6x a1T a2B a2C a1l (pv 1) (a0f (a7m (a0y (a0b b7b (a0b (pv 2) (a0b (a0n a0l rfl m_len a4F (a0f (b0k (pv 3) rfl) a0i)) a0r rfl) rfl) rfl))) a0i)))) a2m)) (a0j (a2n (a6x a1T a2B a2C a1l (pv 1) (a0f (a7m (a0y (a0b b7b (a0b (pv 2) (a0b (b0k (pv 3) rfl) a0r rfl) rfl) rfl))) a0i)))))) (a0j (a0w (pv 1))))),?_⟩
 refine⟨by show 0<=sizeLine;decide,fun fo hfo=>?_⟩
 have k0:=a0d hfo (.lst [])
 have lq:=S.len
 let Pv:Nat->L2.St->Hp->Prop:=fun i σ H'=>Same H H'/\ ∃(as:As) (o2 o3:Option V),H' fo=some (.lst (as.map .ref))/\PartsAt H' as (a3i Ls i)/\σ=[some (.ref p),some (.ref fo),o2,o3]
 refine⟨_,rfl,p,CR,dx,_,_,rfl,k0 _ _ h1,u_Row.cl,u_Row.no,d4u,st,_,rfl,SqL.of (k0 _ _ h3),a8l (xs:=qs.map .ref) Pv ⟨k0,[],_,_,a0a,⟨rfl,fun i a p e=>by simp at e⟩,rfl⟩ (fun i σ H' _ p=>SqL.of (p.1 _ _ h3)) (fun i Tp v σ H1 hv nT pv=>?_) (fun σ H1 pv=>?_)⟩
 ·obtain⟨g1,as,o2,o3,ef,PA1,rfl⟩:=pv
  rw[a0G]at hv
  obtain⟨b,eb,rfl⟩:=a0O.mp hv
  have li:=(a0B.mp eb).1
  obtain⟨L,eL⟩: ∃L,Ls[i]? =some L:=⟨_,a0A (by lia)⟩
  have kT:=a0d nT (.tup [.int (i:Nat),.ref b])
  have eT:upd H1 Tp (.tup [.int (i:Nat),.ref b]) Tp=some (.tup [.int (i:Nat),.ref b]):=a0a
  generalize upd H1 Tp (.tup [.int (i:Nat),.ref b])=H2 at kT eT⊢
  have g2:=g1.trans kT
  have SA:=(S.is i b L eb eL).keeps g2.keeps
  obtain⟨dxl,g,t,u,gr,s1,s2,s3,s4⟩:=id SA
  refine⟨Tp,_,rfl,SqT.of eT,rfl,_,_,rfl,_,_,rfl,rfl,?_⟩
  have f0:=kT _ _ ef
  have lz:=a4j Ls i
  have la:=PA1.len
  have hps: ∀{H':Hp},Same H2 H'->H' fo=some (.lst (as.map .ref)):=fun g=>g _ _ f0
  refine⟨fun σ' H'=>Same H H'/\ ∃as',H' fo=some (.lst (as'.map .ref))/\PartsAt H' as' (a3i Ls i++(if 1<L.gs.length then[(true,i,L.gs.length)]else[]))/\σ'=[some (.ref p),some (.ref fo),some (nv i),some (.ref b)],⟨_,rfl,b,dxl,_,rfl,s1,(by kernel_rfl),b,m,ts,L,rfl,SA,_,rfl,c6p (fun c=>?_) (fun c=>?_)⟩,fun σ' H' z=>?_⟩
  ·have c1:1<L.gs.length:=a2F c
   refine⟨_,rfl,.inl ⟨rfl,_,SqL.of f0⟩,_,rfl,_,rfl,b,CL,dxl,_,_,rfl,s1,u_LevelParts.cl,u_LevelParts.no,d4t,g,_,rfl,.inl (SqL.of s2),by show 3<=sizeLine;decide,fun tp htp=>?_⟩;rw[show(gr.map V.ref).length=L.gs.length by rw[a0D,s3.len]];have kt:=a0d htp (.tup [.str "turn",nv i,nv L.gs.length]);refine⟨fo,_,_,rfl,rfl,kt _ _ f0,by rw[a0D,a1B];lia,?_⟩;have lo:d4s (upd H2 tp (.tup [.str "turn",nv i,nv L.gs.length])) (upd (upd H2 tp (.tup [.str "turn",nv i,nv L.gs.length])) fo (.lst (as.map V.ref++[.ref tp]))):=Stays.offL (kt _ _ f0);rw[if_pos c1];exact⟨a1b (g2.trans kt) hfo,as++[tp],by rw[a0a,a1G];rfl,((PA1.st (a2z (kT.trans kt))).st lo).snoc (lo.a a0a),rfl⟩
  ·have c1: ¬1<L.gs.length:=a8V (a8Z.mpr c)
   rw[if_neg c1,a2K];exact⟨g2,as,f0,PA1.st (a2z kT),rfl⟩
  ·obtain⟨g3,as',f3,PA3,rfl⟩:=z
   obtain⟨dxl,g,t,u,gr,s1,s2,s3,s4⟩:=(S.is i b L eb eL).keeps g3.keeps;have lz3:as'.length<=2 * i+2:=by
    rw[PA3.len,a0M];have:(if 1<L.gs.length then[(true,i,L.gs.length)]else[]).length<=2:=by
     by_cases h:1<L.gs.length
     ·rw[if_pos h];exact a6M 1
     ·rw[if_neg h];exact a3E 2
    lia
   refine⟨_,rfl,.inl ⟨rfl,_,SqL.of f3⟩,_,rfl,_,rfl,b,CL,dxl,_,_,rfl,s1,u_LevelParts.cl,u_LevelParts.no,lpF_k,by show 3<=sizeLine;decide,fun tp htp=>?_⟩;have kt:=a0d htp (.tup [.str "bring",nv i,nv L.us.length]);refine⟨fo,_,_,rfl,rfl,kt _ _ f3,by rw[a0D,a1B];lia,?_⟩;have lo:d4s (upd H' tp (.tup [.str "bring",nv i,nv L.us.length])) (upd (upd H' tp (.tup [.str "bring",nv i,nv L.us.length])) fo (.lst (as'.map V.ref++[.ref tp]))):=Stays.offL (kt _ _ f3);refine⟨a1b (g3.trans kt) hfo,as'++[tp],_,_,by rw[a0a,a1G];rfl,?_,rfl⟩;rw[b1f eL];unfold c0w;rw[<-a1H];exact((PA3.st (a2z kt)).st lo).snoc (lo.a a0a)
 ·obtain⟨g1,as,o2,o3,ef,PA1,rfl⟩:=pv
  rw[a0D,lq]at PA1
  exact⟨_,rfl,q fo as H1 g1 hfo ef PA1⟩
def PlanAt(H:Hp)(a m:Addr)(ts:LN)(L:Lv):Prop:= ∃(d g ml lv:Addr) (gr:As),H a=some (.tup [.ref d,.ref g,.ref ml])/\TiledAt H d ts L.c L.us L.wds/\H g=some (.lst (gr.map .ref))/\TupsAt H gr L.gs/\H ml=some (.lst [.ref m,.ref lv])/\LvH H lv L.c L.us L.wds
theorem PlanAt.keeps{H H':Hp}{a m:Addr}{ts:LN}{L:Lv}(h:PlanAt H a m ts L)(k:Keeps H H'):PlanAt H' a m ts L:=
 let⟨d,g,ml,lv,gr,h1,h2,h3,h4,h5,h6⟩:=h;⟨d,g,ml,lv,gr,k _ _ (nz h1),h2.keeps k,k _ _ (nz h3),a1o h4 k,k _ _ (nz h5),LvH.keeps h6 k⟩
structure PlansAt(H:Hp)(as:As)(m:Addr)(ts:LN)(Ls:List Lv):Prop where
 len:as.length=Ls.length
 is: ∀(i:Nat) (a:Addr) (L:Lv),as[i]? =some a->Ls[i]? =some L->PlanAt H a m ts L
def c9t:Sp:=fun vs H Q _=> ∃(m:Addr) (ts:LN) (n:Nat),vs=[.ref m]/\Mach H m ts n/\Tabs H/\
 ∀l as fam Ls H',Keeps H H'->Tabs H'->RowOf ts n fam Ls->H' l=some (.lst (as.map .ref))->PlansAt H' as m ts Ls->Q (.ref l) H'
theorem drop_le{H:Hp}{a:Addr}:Same (L2.drop H a) H:=fun b o hb=>by
 by_cases e:b=a
 ·subst e
  rw[a2i]at hb
  cases hb
 ·rw[a0o e]at hb
  exact hb
theorem b8y{H:Hp}{a:Addr}{o:HO}:L2.drop (upd H a o) a=L2.drop H a:=by
 funext b
 by_cases e:b=a
 ·subst e
  rw[a2i,a2i]
 ·rw[a0o e,a0o e,a0c e]
theorem c0x{H H':Hp}{a:Addr}(k:Keeps H H'):Keeps (L2.drop H a) (L2.drop H' a):=fun b o hb=>by
 obtain⟨z,n⟩:=b0u hb
 by_cases e:b=a
 ·subst e
  rw[a2i]at z
  cases z
 ·rw[a0o e]at z⊢
  exact k _ _ (a7q z n)
theorem b8z{H:Hp}{a b:Addr}{o:HO}(hb:L2.noT H b=none)(ha:H a=some o)(n:isTb o=false:=by rfl):b≠a:=fun e=>by
 rw[e,nz ha n]at hb
 cases hb
theorem LevAt.drop{H H0:Hp}{l fo:Addr}{ts fam xs:LN}{ys:List WE}{a:Addr}{c:LN}{us vs:List V}(h:LevAt H l ts fam xs ys a c)(hl:H fo=some (.lst us))(h0:H0 fo=some (.lst vs))(hn:c5d H0 H a)(nw: ∀y∈ys,∀b∈y.2.2,L2.noT H0 b=none):LevAt (L2.drop H fo) l ts fam xs ys a c:=by
 obtain⟨s,t,v,bs,ds,cs,i,y,h1,h2,h3,h4,h5,h6,h7,h8,h9,h10,h11,h12,h13,h14,h15,h16⟩:=h
 obtain⟨s',t',v',e,n1,n2,n3⟩:=hn
 rw[h1]at e
 cases e
 have off: ∀{b:Addr} {u:HO},(∀xs,u≠ .lst xs)->H b=some u->(L2.drop H fo) b=some u:=fun nu hb=>by
  rw[a0o (a5k hb hl fun e=>nu _ e)]
  exact hb
 have offL: ∀{b:Addr} {u:HO},L2.noT H0 b=none->H b=some u->(L2.drop H fo) b=some u:=fun nb hb=>by
  rw[a0o (b8z nb h0 rfl)]
  exact hb
 have tp: ∀{bs:As} {us:LN},TupsAt H bs us->TupsAt (L2.drop H fo) bs us:=fun T=>⟨T.len,fun i b u e1 e2=>off (fun _ e=>nomatch e) (T.is i b u e1 e2)⟩
 refine⟨s,t,v,bs,ds,cs,i,y,off (fun _ e=>nomatch e) h1,h2,h3,h4,h5,offL n1 h6,tp h7,offL n2 h8,tp h9,offL n3 h10,h11,h12,h13,h14,h15,fun k x b e1 e2=>?_⟩
 obtain⟨word,z1,z2⟩:=h16 k x b e1 e2
 exact⟨word,z1,offL (nw y (a0E h13) b (h15 b (a0E e2))) z2⟩
theorem d2c{T:Addr}(F:Fun K "_law_plan" "_law_plan" a8o f fd)(c_levels:a0q P w K mg base "levels" 18 ["machine"] (b2w T (⟨49,40,49,93⟩:Pos)))(c_tile:a0q P w K mg base "tile" 5 ["machine","level","k","j"] c5j)(c_level_group:a0q P w K mg base "level_group" 13 ["machine","level"] b6t)(m_enumerate:mg "enumerate"=none)(m_range:mg "range"=none)(m_len:mg "len"=none):FnOk P w K mg base CX0 20 f fd ["_law_machine_here"] c9t:=by
 refine F.ok scLawPlan (fun vs H Q E h=>?_) (fun cdv A outer s H vs Q E hr h=>?_)
 ·obtain⟨m,ts,n,rfl,_⟩:=h
  rfl
 obtain⟨m,ts,n,rfl,M,hT,q⟩:=h
 have hu:=hr.units
 have hu1:=a7w hr
 refine⟨_,(a0g (a0u (i:=1) scLawPlan.nd rfl (Or.inl rfl) (a2r a0i)) (a0g (a2w a2E rfl (a1i (a0k c_levels hr.m rfl (a0f (pv 0) a0i))) (a1a (i:=2) scLawPlan.nd rfl (Or.inr rfl)) (a0g (a0u (i:=3) scLawPlan.nd rfl (Or.inl rfl) a6d) (a0g (a2w a2E rfl (b2f rfl m_enumerate (a0f (a1h a1k (pv 2) a0p (fun _ _=>rfl)) a0i)) (b3j rfl (a2p (a1a (i:=4) scLawPlan.nd rfl (Or.inr rfl)) (a2p (a1a (i:=5) scLawPlan.nd rfl (Or.inl rfl)) a8u))) (a0j (a6z hu1 (pv 3) (pv 5) (a1d (CompSc.to (N:=["_law_machine_here","_law_found","_law_level","_law_tiled","_law_k","_law_one"]) (osc:=a0e a8o) (vs:=["_law_j"]) {}) rfl rfl (a2e rfl m_range (a0f (a0n a0l rfl m_len a4F (a0f (a1h a1k (pv 2) a0p (fun _ _=>rfl)) a0i)) a0i)) (fun _ _ _ _=>a2h) (fun _ _ _ _=>(a0k c_tile hr.m rfl (a0y (a0b (pv 1) (a0b (pv 3) (a0b (pv 5) (a0b (pv 0) a0r rfl) rfl) rfl) rfl))))) rfl))) (a0j (a2n (a6x a1T a2B a2C a1l (pv 1) (a0f (a7m (a0y (a0b (pv 3) (a0b (a0k c_level_group hr.m rfl (a0y (a0b (pv 0) (a0b (pv 2) a0r rfl) rfl))) (a0b (a2r (a0y (a0b (pv 0) (a0b (pv 2) a0r rfl) rfl))) a0r rfl) rfl) rfl))) a0i))))))) (a0j (a0w (pv 1))))),?_⟩
 refine⟨by show 0<=sizeLine;decide,fun fo hfo=>?_⟩
 have k0:=a0d hfo (.lst [])
 have nfo:=b1t hfo
 refine⟨_,rfl,m,ts,n,rfl,M.same k0,hT.same k0,fun l as told fam ys H1 k1 T1 nl el ff od sub lim LL nw ap nwl=>?_⟩
 have k01:=k0.keeps.trans k1
 have f1:=k1 _ _ (nz (a0a:upd H fo (.lst []) fo=_))
 have la:=LL.len
 have nlf:l≠fo:=fun e=>by
  rw[e,nz (a0a:upd H fo (.lst []) fo=_)]at nl
  cases nl
 have M1:=M.keeps k01
 have kB:Keeps H (L2.drop H1 fo):=fun b o hb=>by
  rw[a0o fun e=>by rw[e,nfo]at hb;cases hb]
  exact k01 _ _ hb
 have elB:L2.drop H1 fo l=some (.lst (as.map .ref)):=by rw[a0o nlf];exact el
 let Pv:Nat->L2.St->Hp->Prop:=fun i σ H'=>Keeps (L2.drop H1 fo) (L2.drop H' fo)/\Tabs H'/\ ∃(fs:As) (Ls:List Lv) (o2 o3 o4 o5:Option V),H' fo=some (.lst (fs.map .ref))/\Ls.length=i/\Ls.map (·.c)=told.take i/\(∀L∈Ls,LvOk ts fam L)/\PlansAt (L2.drop H' fo) fs m ts Ls/\σ=[some (.ref m),some (.ref fo),o2,o3,o4,o5]
 refine⟨l,rfl,⟨_,SqL.of el⟩,a3z (xs:=as.map .ref) Pv ⟨Keeps.refl _,T1,[],[],none,none,none,none,f1,rfl,rfl,(fun L h=>nomatch h),⟨rfl,fun i a L e=>by simp at e⟩,rfl⟩ (fun i σ H' _ p=>SqL.of (drop_le _ _ (p.1 _ _ (nz elB)))) (fun i v σ H2 hv pv=>?_) (fun σ H2 pv=>?_)⟩
 ·obtain⟨k2,T2,fs,Ls,o2,o3,o4,o5,f2,lL,eL,oks,PL,rfl⟩:=pv
  rw[a0G]at hv
  obtain⟨lv,elv,rfl⟩:=a0O.mp hv
  have li:=(a0B.mp elv).1
  obtain⟨c,ec⟩: ∃c,told[i]? =some c:=⟨_,a0A (by lia)⟩
  obtain⟨wds,lvB,lp,wdsOk⟩:=((LL.is i lv c elv ec).drop f1 a0a (nwl lv (a0E elv)) nw).lvw (sub c (a0E ec))
  have lvD:=LvH.keeps lvB k2
  have lv2:=lvD.same drop_le
  have kH2:Keeps H H2:=(kB.trans k2).trans drop_le.keeps
  generalize hus:a1t fam (c.headD [])=us at lvB lp lvD lv2
  obtain⟨s',t',v',bs,ds,cs,h1,h2,h3,h4,h5,h6,h7,h8⟩:=id lv2
  have lb:=h3.len
  have l5:=h5.len
  obtain⟨uU,few⟩:=lp.inU M ff
  have nd:=lp.nd ff
  have c32:c.length<=32:=by
   rw[(a0t lp.cls).2.1];exact a0Y (a1K _ _) (a0Y (a1K _ _) (ff.few M))
  intro d hd
  have kd:=a0d hd (.dT [])
  let Pk:Nat->L2.St->Hp->Prop:=fun k σ H'=>Same H2 H'/\ ∃(as2:As) (o4 o5:Option V),H' d=some (.dT (kvA (c.take k) as2))/\as2.length=k/\TiledAs H' ts us wds as2/\(∀a∈as2,H2 a=none)/\σ=[some (.ref m),some (.ref fo),some (.ref lv),some (.ref d),o4,o5]
  refine⟨_,rfl,lv,_,_,_,rfl,rfl,SqT.of (kd _ _ h1),rfl,s',_,rfl,SqL.of (kd _ _ h2),a8l (xs:=bs.map .ref) Pk ⟨kd,[],_,_,a0a,rfl,(fun k wd a _ e=>by simp at e),(fun a h=>nomatch h),rfl⟩ (fun k σ H' _ p=>SqL.of (p.1 _ _ h2)) (fun k Tp v σ H3 hv nT pv=>?_) (fun σ H3 pv=>?_)⟩
  ·obtain⟨g3,as2,o4,o5,ed,l2,ti,nw2,rfl⟩:=pv
   rw[a0G]at hv;obtain⟨b,eb,rfl⟩:=a0O.mp hv;have lk:=(a0B.mp eb).1;obtain⟨x,ex⟩: ∃x,c[k]? =some x:=⟨_,a0A (by lia)⟩;obtain⟨wd,ew⟩: ∃wd,wds[k]? =some wd:=⟨_,a0A (by rw[lp.len];lia)⟩;have lwd:=(lp.go k x wd ex ew).1;have tk:c.take (k+1)=c.take k++[x]:=by rw[a1V,ex];rfl
   have xn:x∉c.take k:=fun h=>by
    obtain⟨j,ej⟩:=a1A.mp h;have lj:=(a0B.mp ej).1;rw[a1N]at lj;rw[a4Z (by lia)]at ej;have:=(a2G (by lia) nd).mp (ej.trans ex.symm)
    lia
   have lt:(c.take k).length=k:=by rw[a1N];lia
   have kT:=a0d nT (.tup [.int (k:Nat),.ref b]);have eT:upd H3 Tp (.tup [.int (k:Nat),.ref b]) Tp=some (.tup [.int (k:Nat),.ref b]):=a0a;generalize upd H3 Tp (.tup [.int (k:Nat),.ref b])=H4 at kT eT⊢;have g4:=g3.trans kT;refine⟨Tp,_,rfl,SqT.of eT,rfl,_,_,rfl,_,_,rfl,rfl,?_⟩;refine⟨_,rfl,lv,_,_,_,rfl,rfl,SqT.of (g4 _ _ h1),rfl,t',_,rfl,.inl (SqL.of (g4 _ _ h4)),(us.length:Int),by rw[a0D,l5],by lia,by lia,a3s (fun j ys H'=>Same H4 H'/\ ∃es,ys=es.map V.ref/\es.length=j/\TupsAt H' es ((us.take j).map fun u=>a2l (a0m ts) u wd)) (by rw[a1W];exact small (by lia)) ⟨Same.refl _,[],rfl,rfl,rfl,fun i b u e=>by simp at e⟩ (fun j ys H' _ p=>?_) (fun j ys H' hj p=>?_) (fun ys H5 p sg hsg=>?_)⟩
   ·obtain⟨_,es,rfl,e,_⟩:=p
    rw[a0D];lia
   ·obtain⟨g,es,rfl,e,T5⟩:=p
    have e0:V.int (0+(j:Int))=nv j:=by show V.int (0+(j:Int))=V.int (j:Int);rw[a7S]
    have hj':j<us.length:=by simpa using hj
    obtain⟨u,eu⟩: ∃u,us[j]? =some u:=⟨_,a0A hj'⟩;rw[e0];refine⟨a1c,a4k ⟨_,rfl,_,rfl,_,rfl,_,rfl,m,lv,k,j,ts,n,c,us,wds,u,wd,rfl,(M.keeps kH2).same (g4.trans g),lv2.same (g4.trans g),eu,ew,uU u (a0E eu),lwd,fun p H6 g6 e6=>?_⟩⟩;refine⟨g.trans g6,es++[p],by simp,by simp[e],?_⟩;rw[a1V,eu,a1G];exact a3w (T5.same g6) e6
   ·obtain⟨g5,es,rfl,er,T5⟩:=p
    rw[a1W,a1Q]at T5;have ks:=a0d hsg (.lst (es.map V.ref));have g6:=(g4.trans g5).trans ks;have g36:=(kT.trans g5).trans ks;have ed6:=g36 _ _ ed;have hb6:=g6 _ _ (h3.is k b x eb ex);have T6:=T5.same ks;have es6:upd H5 sg (.lst (es.map V.ref)) sg=some (.lst (es.map .ref)):=a0a;generalize upd H5 sg (.lst (es.map V.ref))=H6 at ks g6 g36 ed6 hb6 T6 es6⊢;refine⟨_,rfl,_,rfl,d,_,rfl,DPut.t ed6 (by rw[a5r];exact hb6) (by rw[b6u (by lia),a1B];lia),?_⟩;rw[b6v (by lia) xn,<-tk];have lo:Lts H6 (upd H6 d (.dT (kvA (c.take (k+1)) (as2++[sg])))):=Stays.off ed6;refine⟨a1b g6 hd,as2++[sg],_,_,a0a,by rw[a0M,l2];rfl,fun k' wd' a' e1 e2=>?_,fun a' ha'=>(a0L.mp ha').elim (nw2 a') fun z=>by rw[a0H.mp z];exact(g4.trans g5).free hsg,rfl⟩;refine a5d (P:=fun k a=> ∀wd,wds[k]? =some wd-> ∃es,upd H6 d (.dT (kvA (c.take (_+1)) (as2++[sg]))) a=some (.lst (es.map .ref))/\TupsAt (upd H6 d (.dT (kvA (c.take (_+1)) (as2++[sg])))) es (tl ts us wd)) (fun k' a e wd e'=>((ti.lts (a2z g36)).lts lo) k' wd a e' e) (fun wd' e=>?_) k' a' e2 wd' e1;rw[l2,ew]at e;cases e;exact⟨es,lo.a es6,lo.tups T6⟩
  ·obtain⟨g3,as2,o4,o5,ed,l2,ti,nw2,rfl⟩:=pv
   rw[a0D,lb]at ed l2;rw[a1Q]at ed;have f3:=g3 _ _ f2;have T3:=T2.same g3;have kH3:=kH2.trans g3.keeps;refine⟨_,rfl,.inl ⟨rfl,_,SqL.of f3⟩,_,rfl,_,rfl,_,rfl,m,lv,ts,n,fam,c,us,wds,rfl,M.keeps kH3,ff,lv2.same g3,lp,T3,fun g gr gs mk ws H5 k5 T5 ng eg Tg pm up Mk TT=>?_⟩;have G:=c9s M ff lp pm up Mk TT;refine⟨_,rfl,_,rfl,by show 2<=sizeLine;decide,fun ml hml=>⟨by show 3<=sizeLine;decide,fun tp htp=>?_⟩⟩;have km:=a0d hml (.lst [.ref m,.ref lv]);have kt:=a0d htp (.tup [.ref d,.ref g,.ref ml]);have f5:=k5 _ _ (nz f3);have nmf:ml≠fo:=(a0h f5 hml).symm;have em:upd (upd H5 ml (.lst [.ref m,.ref lv])) tp (.tup [.ref d,.ref g,.ref ml]) ml=some (.lst [.ref m,.ref lv]):=kt _ _ a0a;have et:upd (upd H5 ml (.lst [.ref m,.ref lv])) tp (.tup [.ref d,.ref g,.ref ml]) tp=some (.tup [.ref d,.ref g,.ref ml]):=a0a;have g57:=km.trans kt;generalize upd (upd H5 ml (.lst [.ref m,.ref lv])) tp (.tup [.ref d,.ref g,.ref ml])=H7 at em et g57⊢;have f7:=g57 _ _ f5;have lfs:=PL.len;refine⟨fo,_,_,rfl,rfl,f7,by rw[a0D,a1B];lia,?_⟩;have k27:Keeps (L2.drop H2 fo) (L2.drop H7 fo):=c0x ((g3.keeps.trans k5).trans g57.keeps);have T7:Tabs (upd H7 fo (.lst (fs.map V.ref++[.ref tp]))):=(T5.same g57).most fun b u _ n2 hb=>by
    rw[a0c (a5k hb f7 fun e=>n2 _ e)];exact hb
   have off: ∀{b:Addr} {u:HO},isLs u=false->H7 b=some u->(L2.drop H7 fo) b=some u:=fun nu hb=>by
    rw[a0o (a5k hb f7 fun e=>by rw[e]at nu;cases nu)];exact hb
   refine⟨by rw[b8y];exact k2.trans k27,T7,fs++[tp],Ls++[⟨c,us,wds,gs⟩],_,_,_,_,by rw[a0a,a1G];rfl,by rw[a0M,lL];rfl,?_,fun L hL=>?_,?_,rfl⟩
   ·rw[a1G,eL,a1V,ec]
    rfl
   ·rcases a0L.mp hL with z|z
    ·exact oks L z
    ·rw[a0H.mp z]
     exact⟨lp,wdsOk,G⟩
   ·rw[b8y]
    refine⟨by rw[a0M,a0M,lfs];rfl,fun j q' L e1 e2=>?_⟩;refine a5d (P:=fun j q=> ∀L,(Ls++[⟨c,us,wds,gs⟩])[j]? =some L->PlanAt (L2.drop H7 fo) q m ts L) (fun j q e L e2=>?_) (fun L e2=>?_) j q' e1 L e2
    ·rw[a0R (by rw[<-lfs];exact(a0B.mp e).1)]at e2
     exact(PL.is j q L e e2).keeps k27
    ·rw[lfs,a0P (a0J _),a6C]at e2
     cases e2;have k37:=k5.trans g57.keeps;have as2n: ∀(k:Nat) (wd:Nsq) (a:Addr),wds[k]? =some wd->as2[k]? =some a-> ∃es,(L2.drop H7 fo) a=some (.lst (es.map .ref))/\TupsAt (L2.drop H7 fo) es (tl ts us wd):=fun k wd a e1 e2=>by
      obtain⟨es,z1,z2⟩:=ti k wd a e1 e2;refine⟨es,?_,⟨z2.len,fun i b u e1 e2=>off rfl (k37 _ _ (nz (z2.is i b u e1 e2)))⟩⟩;rw[a0o (a0h f2 (nw2 a (a0E e2))).symm];exact k37 _ _ (nz z1)
     refine⟨d,g,ml,lv,gr,off rfl et,⟨as2,off rfl (k37 _ _ (nz ed)),l2,as2n⟩,?_,⟨Tg.len,fun i b u e1 e2=>off rfl (g57 _ _ (Tg.is i b u e1 e2))⟩,?_,LvH.keeps lvD k27⟩
     ·rw[a0o (b8z ng f3 rfl)]
      exact g57 _ _ eg
     ·rw[a0o nmf]
      exact em
 ·obtain⟨k2,T2,fs,Ls,o2,o3,o4,o5,f2,lL,eL,oks,PL,rfl⟩:=pv
  rw[a0D]at lL eL
  rw[la,a1Q]at eL
  exact⟨_,rfl,q fo fs fam Ls H2 ((kB.trans k2).trans drop_le.keeps) T2 ⟨ff,by rw[eL];exact od,by rw[lL,la];exact lim,oks⟩ f2 ⟨PL.len,fun i a L e1 e2=>(PL.is i a L e1 e2).keeps drop_le.keeps⟩⟩
def b9a:Sp:=fun vs H Q _=> ∃(pl m:Addr) (as:As) (ts:LN) (Ls:List Lv),vs=[.ref pl]/\H pl=some (.lst (as.map .ref))/\PlansAt H as m ts Ls/\Ls.length<=32/\
 ∀l as H',Same H H'->H l=none->H' l=some (.lst (as.map .ref))->PartsAt H' as (b3d Ls)->Q (.ref l) H'
theorem c5v(F:Fun K "_law_parts" "_law_parts" a9q f fd)(m_enumerate:mg "enumerate"=none)(m_len:mg "len"=none):FnOk P w K mg base CX0 3 f fd ["_law_plan_here"] b9a:=by
 refine F.ok scLawParts (fun vs H Q E h=>?_) (fun cdv A outer s H vs Q E hr h=>?_)
 ·obtain⟨pl,m,as0,ts,Ls,rfl,_⟩:=h
  rfl
 obtain⟨pl,m,as0,ts,Ls,rfl,hpl,S,few,q⟩:=h
 have hu:=hr.units
 refine⟨_,(a0g (a0u (i:=1) scLawParts.nd rfl (Or.inl rfl) (a2r a0i)) (a0g (a2w a2E rfl (b2f rfl m_enumerate (a0f (pv 0) a0i)) (b3j rfl (a2p (a1a (i:=2) scLawParts.nd rfl (Or.inl rfl)) (a2p (a1a (i:=3) scLawParts.nd rfl (Or.inl rfl)) a8u))) (a0g (c2h (a5n (a1r c6f (a0n a0l rfl m_len a4F (a0f (a1h a1k (pv 3) a0p (fun _ _=>rfl)) a0i)) a0p (a1u _)) (a0j (a2n (a6x a1T a2B a2C a1l (pv 1) (a0f (a7m (a0y (a0b b7b (a0b (pv 2) (a0b (a0n a0l rfl m_len a4F (a0f (a1h a1k (pv 3) a0p (fun _ _=>rfl)) a0i)) a0r rfl) rfl) rfl))) a0i)))) a2m)) (a0j (a2n (a6x a1T a2B a2C a1l (pv 1) (a0f (a7m (a0y (a0b b7b (a0b (pv 2) (a0b (a0n a0l rfl m_len a4F (a0f (a1h a1k (a1h a2f (a1h a1k (pv 3) a0p (fun _ _=>rfl)) a0p (fun _ _=>rfl)) a0p (fun _ _=>rfl)) a0i)) a0r rfl) rfl) rfl))) a0i)))))) (a0j (a0w (pv 1))))),?_⟩
 refine⟨by show 0<=sizeLine;decide,fun fo hfo=>?_⟩
 have k0:=a0d hfo (.lst [])
 have lq:=S.len
 let Pv:Nat->L2.St->Hp->Prop:=fun i σ H'=>Same H H'/\ ∃(as:As) (o2 o3:Option V),H' fo=some (.lst (as.map .ref))/\PartsAt H' as (a3i Ls i)/\σ=[some (.ref pl),some (.ref fo),o2,o3]
 refine⟨_,rfl,pl,_,rfl,SqL.of (k0 _ _ hpl),a8l (xs:=as0.map .ref) Pv ⟨k0,[],_,_,a0a,⟨rfl,fun i a p e=>by simp at e⟩,rfl⟩ (fun i σ H' _ p=>SqL.of (p.1 _ _ hpl)) (fun i Tp v σ H1 hv nT pv=>?_) (fun σ H1 pv=>?_)⟩
 ·obtain⟨g1,as,o2,o3,ef,PA1,rfl⟩:=pv
  rw[a0G]at hv
  obtain⟨b,eb,rfl⟩:=a0O.mp hv
  have li:=(a0B.mp eb).1
  obtain⟨L,eL⟩: ∃L,Ls[i]? =some L:=⟨_,a0A (by lia)⟩
  have kT:=a0d nT (.tup [.int (i:Nat),.ref b])
  have eT:upd H1 Tp (.tup [.int (i:Nat),.ref b]) Tp=some (.tup [.int (i:Nat),.ref b]):=a0a
  generalize upd H1 Tp (.tup [.int (i:Nat),.ref b])=H2 at kT eT⊢
  have g2:=g1.trans kT
  obtain⟨d,g,ml,lv,gr,s1,s2,s3,s4,s5,s6⟩:=(S.is i b L eb eL).keeps g2.keeps
  refine⟨Tp,_,rfl,SqT.of eT,rfl,_,_,rfl,_,_,rfl,rfl,?_⟩
  have f0:=kT _ _ ef
  have lz:=a4j Ls i
  have la:=PA1.len
  refine⟨fun σ' H'=>Same H H'/\ ∃as',H' fo=some (.lst (as'.map .ref))/\PartsAt H' as' (a3i Ls i++(if 1<L.gs.length then[(true,i,L.gs.length)]else[]))/\σ'=[some (.ref pl),some (.ref fo),some (nv i),some (.ref b)],⟨_,rfl,b,_,_,_,rfl,rfl,SqT.of s1,rfl,g,_,rfl,.inl (SqL.of s3),_,_,rfl,rfl,_,rfl,c6p (fun c=>?_) (fun c=>?_)⟩,fun σ' H' z=>?_⟩
  ·have c1:1<L.gs.length:=by
    have z:=a2F c;rw[a0D,s4.len]at z;lia
   refine⟨_,rfl,.inl ⟨rfl,_,SqL.of f0⟩,_,rfl,_,rfl,b,_,_,_,rfl,rfl,SqT.of s1,rfl,g,_,rfl,.inl (SqL.of s3),by show 3<=sizeLine;decide,fun tp htp=>?_⟩;rw[show(gr.map V.ref).length=L.gs.length by rw[a0D,s4.len]];have kt:=a0d htp (.tup [.str "turn",nv i,nv L.gs.length]);refine⟨fo,_,_,rfl,rfl,kt _ _ f0,by rw[a0D,a1B];lia,?_⟩;have lo:d4s (upd H2 tp (.tup [.str "turn",nv i,nv L.gs.length])) (upd (upd H2 tp (.tup [.str "turn",nv i,nv L.gs.length])) fo (.lst (as.map V.ref++[.ref tp]))):=Stays.offL (kt _ _ f0);rw[if_pos c1];exact⟨a1b (g2.trans kt) hfo,as++[tp],by rw[a0a,a1G];rfl,((PA1.st (a2z (kT.trans kt))).st lo).snoc (lo.a a0a),rfl⟩
  ·have c1: ¬1<L.gs.length:=by
    have z:=a8V (a8Z.mpr c);rw[a0D,s4.len]at z;lia
   rw[if_neg c1,a2K];exact⟨g2,as,f0,PA1.st (a2z kT),rfl⟩
  ·obtain⟨g3,as',f3,PA3,rfl⟩:=z
   obtain⟨d,g,ml,lv,gr,s1,s2,s3,s4,s5,s6⟩:=(S.is i b L eb eL).keeps g3.keeps;obtain⟨s',t',v',bs,ds,cs,h1,h2,h3,h4,h5,_⟩:=id s6;have lz3:as'.length<=2 * i+2:=by
    rw[PA3.len,a0M];have:(if 1<L.gs.length then[(true,i,L.gs.length)]else[]).length<=2:=by
     by_cases h:1<L.gs.length
     ·rw[if_pos h];exact a6M 1
     ·rw[if_neg h];exact a3E 2
    lia
   refine⟨_,rfl,.inl ⟨rfl,_,SqL.of f3⟩,_,rfl,_,rfl,b,_,_,_,rfl,rfl,SqT.of s1,rfl,ml,_,_,_,rfl,rfl,SqL.of s5,rfl,lv,_,_,_,rfl,rfl,SqT.of h1,rfl,t',_,rfl,.inl (SqL.of h4),by show 3<=sizeLine;decide,fun tp htp=>?_⟩;rw[show(ds.map V.ref).length=L.us.length by rw[a0D,h5.len]];have kt:=a0d htp (.tup [.str "bring",nv i,nv L.us.length]);refine⟨fo,_,_,rfl,rfl,kt _ _ f3,by rw[a0D,a1B];lia,?_⟩;have lo:d4s (upd H' tp (.tup [.str "bring",nv i,nv L.us.length])) (upd (upd H' tp (.tup [.str "bring",nv i,nv L.us.length])) fo (.lst (as'.map V.ref++[.ref tp]))):=Stays.offL (kt _ _ f3);refine⟨a1b (g3.trans kt) hfo,as'++[tp],_,_,by rw[a0a,a1G];rfl,?_,rfl⟩;rw[b1f eL];unfold c0w;rw[<-a1H];exact((PA3.st (a2z kt)).st lo).snoc (lo.a a0a)
 ·obtain⟨g1,as,o2,o3,ef,PA1,rfl⟩:=pv
  rw[a0D,lq]at PA1
  exact⟨_,rfl,q fo as H1 g1 hfo ef PA1⟩
def c8r(K:W.Frag):Sp:=fun vs H Q _=> ∃(a:Addr) (ns:Zs),vs=[.ref a]/\SqL K H a (ns.map V.int)/\ns.length<=63/\Tabs H/\ ∀H',Q (.bl true) H'
theorem b3f{K:W.Frag}:PySem.W.kitOne K (.type "list") (.type "list")=some true:=by rfl
theorem b6x{K:W.Frag}:PySem.W.kitOne K (.type "str") (.type "str")=some true:=by rfl
def dtPt(p:Bool×Nat×Nat):Dt:= .tup [.str (c8p p.1),.int (p.2.1:Int),.int (p.2.2:Int)]
theorem a3y{K:W.Frag}{H:Hp}{l:Addr}{as:As}{ps:List (Bool×Nat×Nat)}(h1:H l=some (.lst (as.map .ref)))(S:PartsAt H as ps):Rep K H 2 (.lst (ps.map dtPt)) (.ref l):=by
 refine .lst (SqL.of h1) (by rw[a0D,a0D,S.len]) fun i d v e1 e2=>?_
 rw[a0G]at e1 e2
 obtain⟨p,ep,rfl⟩:=a0O.mp e1
 obtain⟨a,ea,rfl⟩:=a0O.mp e2
 refine .tup (SqT.of (S.is i a p ea ep)) rfl fun j d v e1 e2=>?_
 match j,e1,e2 with
 |0,e1,e2=>cases e1;cases e2;exact .str _ _
 |1,e1,e2=>cases e1;cases e2;exact .int _ _
 |2,e1,e2=>cases e1;cases e2;exact .int _ _
theorem d4w{CL CR:Addr}(F:Fun K "law" "law" d2e f fd)(u_Row:OwnC K CR ["rooms","steps"])(c__law_machine:a0q P w K mg base "_law_machine" 3 ["_law_script"] (b4v K))(c__law_plan:a0q P w K mg base "_law_plan" 20 ["_law_machine_here"] c9t)(c__law_parts:a0q P w K mg base "_law_parts" 3 ["_law_plan_here"] b9a)(c_Row:c4j P w K mg base "Row" CR 20 ["self","machine"] (b5e CL CR))(c_Row_parts:c4i P w K mg base CR "parts" 3 ["self"] (c5u CL CR))(c__law_is_row:a0q P w K mg base "_law_is_row" 3 ["_law_found"] c5r)(m_isinstance:mg "isinstance"=none)(m_list:mg "list"=none)(m_tuple:mg "tuple"=none)(m_str:mg "str"=none):FnOk P w K mg base CX0 22 f fd ["_law_script"] (c8r K):=by
 refine F.ok scLaw (fun vs H Q E h=>?_) (fun cdv A outer s H vs Q E hr h=>?_)
 ·obtain⟨a,ns,rfl,_⟩:=h
  rfl
 obtain⟨a,ns,rfl,hS,h63,hT,q⟩:=h
 have hu:=hr.units
 have hu1:=a7w hr
 refine⟨_,(a0g (a0u (i:=1) scLaw.nd rfl (Or.inl rfl) (a0k c__law_machine hr.m rfl (a0f (pv 0) a0i))) (a0g (a0u (i:=2) scLaw.nd rfl (Or.inl rfl) (a0k c__law_parts hr.m rfl (a0f (a0k c__law_plan hr.m rfl (a0f (pv 1) a0i)) a0i))) (a0g (a0u (i:=3) scLaw.nd rfl (Or.inl rfl) (b2g c_Row hr.m rfl (a0f (pv 1) a0i))) (a0g (a0u (i:=4) scLaw.nd rfl (Or.inl rfl) (a6o (pv 3) u_Row.cl c_Row_parts hr.m)) (a0g (a5n (PW.pt (c9z (a8t (a5z (a0n a5f rfl m_isinstance a6E (a0y (a0b (pv 4) (a0b (b9q rfl m_list boot_list) a0r rfl) rfl))))) (c8s (a1r (b3y hu) (pv 4) (pv 2) (a1u _))))) (a0j (a0w c9x)) a2m) (a0g (a2w a2E rfl (a1i (pv 4)) (a1a (i:=5) scLaw.nd rfl (Or.inl rfl)) (a0j (a5n (PW.pt (c9z (a8t (a5z (a0n a5f rfl m_isinstance a6E (a0y (a0b (pv 5) (a0b (b9q rfl m_tuple a7K) a0r rfl) rfl))))) (c9z (a8t (a5z (a0n a5f rfl m_isinstance a6E (a0y (a0b (a1h a1k (pv 5) a0p (fun _ _=>rfl)) (a0b (b9q rfl m_str boot_str) a0r rfl) rfl))))) (c8s (a8t (a5z (a0k c__law_is_row hr.m rfl (a0f (c6m d0w (pv 5) (d0m a0p) d0l) a0i)))))))) (a0j (a0w c9x)) a2m))) (a0g (a2n (a6x a1T a2B a2C a1l (pv 4) (a0f b7a a0i))) (a0j (a0w (b3i (a5p (b7p hu) (a6o (pv 3) u_Row.cl c_Row_parts hr.m) (pv 2) (a1u _)) (b3h (a5p (b7p hu) (a6o (b2g c_Row hr.m rfl (a0f (pv 1) a0i)) u_Row.cl c_Row_parts hr.m) (pv 2) (a1u _))))))))))))),?_⟩
 refine⟨_,rfl,a,ns,rfl,hS,fun m ts n H1 g1 M=>?_⟩
 refine⟨_,rfl,m,ts,n,rfl,M,hT.same g1,fun pl as fam Ls H2 k2 T2 R epl PL=>?_⟩
 refine⟨pl,m,as,ts,Ls,rfl,epl,PL,R.few,fun du ds H3 g3 ndu edu PD=>?_⟩
 have k3:=k2.trans g3.keeps
 refine⟨_,rfl,fun x dx nx ndx nex=>?_⟩
 have gx:Same H3 (upd (upd H3 dx (.own x)) x (.ins CR dx [])):=fun b o hb=>by
  rw[a0c (a0h hb nx),a0c (a0h hb ndx)]
  exact hb
 refine⟨H3,x,dx,m,ts,n,rfl,gx,nx,a0a,M.keeps k3,T2.same g3,fun fam2 Ls2 H4 k4 T4 R2 RA=>⟨rfl,?_⟩⟩
 obtain⟨rfl,rfl⟩:=R.uniq R2
 obtain⟨dx',r,st,qs,r1,r2⟩:=id RA
 refine⟨_,rfl,x,dx',_,rfl,r1,(by kernel_rfl),x,m,ts,n,Ls,rfl,RA,R.few,fun fo fs H5 g5 nfo efo PF=>?_⟩
 have k5:=k3.trans (k4.trans g5.keeps)
 have k35:=k4.trans g5.keeps
 have edu5:=k35 _ _ (nz edu)
 have PD5:=PD.st (a5j k35)
 refine⟨_,rfl,_,_,_,_,rfl,.lst efo,b3f,_,rfl,b0d ?_⟩
 refine⟨_,rfl,_,rfl,fo,du,1,_,_,rfl,rfl,a3y efo PF,a3y edu5 PD5,by decide,fun cc hc=>⟨_,rfl,?_⟩⟩
 have hc':cc=true:=hc.mpr rfl
 subst hc'
 refine b0d ?_
 have lf:=PF.len
 have lz:(b3d Ls).length<=2 * Ls.length:=a4j Ls Ls.length
 have l32:=R.few
 let Pv:Nat->L2.St->Hp->Prop:=fun _ σ H'=>Same H5 H'/\ ∃o5,σ=[some (.ref a),some (.ref m),some (.ref du),some (.ref x),some (.ref fo),o5]
 refine⟨_,rfl,fo,rfl,⟨_,SqL.of efo⟩,a3z (xs:=fs.map .ref) Pv ⟨Same.refl _,_,rfl⟩ (fun i σ H' _ p=>SqL.of (p.1 _ _ efo)) (fun i v σ H6 hv pv=>?_) (fun σ H6 pv=>?_)⟩
 ·obtain⟨g6,o5,rfl⟩:=pv
  rw[a0G]at hv
  obtain⟨b,eb,rfl⟩:=a0O.mp hv
  obtain⟨pp,ep⟩: ∃pp,(b3d Ls)[i]? =some pp:=⟨_,a0A (by rw[<-lf];exact(a0B.mp eb).1)⟩
  have hb:=g6 _ _ (PF.is i b pp eb ep)
  refine⟨_,rfl,_,_,_,_,rfl,.tup hb,isi_tup_tup,_,rfl,b0d ?_⟩
  refine⟨_,rfl,b,_,_,_,rfl,rfl,SqT.of hb,rfl,_,_,_,_,rfl,.str _,b6x,_,rfl,b0d ?_⟩
  refine⟨_,rfl,_,rfl,b,_,rfl,hb,fun p H7 g7 ep7=>?_⟩
  have e7:H7 p=some (.tup ([pp.2.1,pp.2.2].map nv)):=ep7
  exact⟨p,_,rfl,e7,by show 2<=4000;decide,fun H8 g8=>⟨_,rfl,b0d ⟨(g6.trans g7).trans g8,_,rfl⟩⟩⟩
 ·obtain⟨g6,o5,rfl⟩:=pv
  refine⟨_,rfl,.inl ⟨rfl,_,SqL.of (g6 _ _ efo)⟩,fo,_,_,rfl,rfl,g6 _ _ efo,by rw[a0D,a1B];lia,?_⟩
  have g47:Same H4 (upd H6 fo (.lst (fs.map V.ref++[.non]))):=a1b (g5.trans g6) nfo
  generalize upd H6 fo (.lst (fs.map V.ref++[.non]))=H7 at g47⊢
  have edu4:=k4 _ _ (nz edu)
  have PD4:=PD.st (a5j k4)
  refine⟨_,rfl,x,dx',_,rfl,g47 _ _ r1,(by kernel_rfl),x,m,ts,n,Ls,rfl,RA.keeps g47.keeps,R.few,fun f2 fs2 H8 g8 nf2 ef2 PF2=>?_⟩
  have g48:=g47.trans g8
  refine⟨_,rfl,f2,du,1,_,_,rfl,rfl,a3y ef2 PF2,a3y (g48 _ _ edu4) (PD4.st (a2z g48)),by decide,fun cc hc=>?_⟩
  have hc':cc=true:=hc.mpr rfl
  subst hc'
  refine⟨_,rfl,b0n ?_⟩
  refine⟨_,rfl,fun x2 dx2 nx2 ndx2 nex2=>?_⟩
  have gx2:Same H8 (upd (upd H8 dx2 (.own x2)) x2 (.ins CR dx2 [])):=fun b o hb=>by
   rw[a0c (a0h hb nx2),a0c (a0h hb ndx2)];exact hb
  refine⟨H8,x2,dx2,m,ts,n,rfl,gx2,nx2,a0a,M.keeps ((k3.trans k4).trans g48.keeps),T4.same g48,fun fam3 Ls3 H9 k9 T9 R3 RA3=>⟨rfl,?_⟩⟩
  obtain⟨rfl,rfl⟩:=R.uniq R3
  obtain⟨dx3,r3,st3,qs3,r31,r32⟩:=id RA3
  refine⟨x2,dx3,_,rfl,r31,(by kernel_rfl),x2,m,ts,n,Ls,rfl,RA3,R.few,fun f3 fs3 H10 g10 nf3 ef3 PF3=>?_⟩
  have k410:=g48.keeps.trans (k9.trans g10.keeps)
  refine⟨_,rfl,f3,du,1,_,_,rfl,rfl,a3y ef3 PF3,a3y (k410 _ _ (nz edu4)) (PD4.st (a5j k410)),by decide,fun cc hc=>?_⟩
  have hc':cc=true:=hc.mpr rfl
  subst hc'
  exact q _
theorem ln1{α:Type}{P:List α->Prop}(h: ∀a0,P [a0]): ∀us:List α,us.length=1->P us
 | [a0],_=>h a0
theorem ln2{α:Type}{P:List α->Prop}(h: ∀a0 a1,P [a0,a1]): ∀us:List α,us.length=2->P us
 | [a0,a1],_=>h a0 a1
theorem ln3{α:Type}{P:List α->Prop}(h: ∀a0 a1 a2,P [a0,a1,a2]): ∀us:List α,us.length=3->P us
 | [a0,a1,a2],_=>h a0 a1 a2
theorem ln4{α:Type}{P:List α->Prop}(h: ∀a0 a1 a2 a3,P [a0,a1,a2,a3]): ∀us:List α,us.length=4->P us
 | [a0,a1,a2,a3],_=>h a0 a1 a2 a3
abbrev Rw(K:W.Frag)(x:Str)(st:Stmt)(f:Addr)(fd:Fd):Prop:=PySem.W.nsIn K mainGlobals x=some (some (.ref f))/\Fun K x x st f fd
theorem cal{K:W.Frag}{mg:SV}{x:Str}{k:Nat}{ps:Ss}{sp:Sp}{st:Stmt}{f:Addr}{fd:Fd}{h:Heap}(P:Pg)(w:World)(base:Heap)(X:K.In h)(G:h.Ns mainGlobals mg)(r:Rw K x st f fd)(o:FnOk P w K mg base CX0 k f fd ps sp)
  (hb: ∀(kV doc pm:Vl) (an:Option Addr) (cdv ct:Vl) (us:Vs),us.length=ps.length->bindArgs (PySem.W.fnOf x x (a2o st) (a1m st) (a0e st) .none kV doc pm an cdv ct) ⟨us,[]⟩=pure (ps.zip us)):a0q P w K mg base x k ps sp:=⟨f,fd,o,PySem.W.mg_of X G r.1,r.2.kp,r.2.binds hb⟩
set_option maxHeartbeats 0 in
theorem d4x{l:W.OpenLaw}{w:World}{K:W.Frag}{h:Heap}{mg:SV}{fa f1 f2 f3 f4 f5 f6 f7 f8 f9 f10 f11 f12 f13 f14 f15 f16 f17 f18 f19 f20 f21 f22 f23 f24 f25 f26 f27 f28 f29 f30 f31 f32 f33 f34 dD4 cL9 cL26:Addr}{d1 d2 d3 d5 d6 d7 d8 d10 d11 d12 d13 d14 d15 d16 d17 d18 d19 d20 d21 d22 d23 d24 d25 d27 d28 d29 d30 d31 d32 d33 d34:Fd}(X:K.In h)(G:h.Ns mainGlobals mg)(hfa:mg "law"=some (.ref fa))
  {od4 an4 od9 an9 od26 an26:Option Addr} {sl4 sl9 sl26:Array (Option Vl)} {oc4 kV4 dc4 pm4 cd4 ct4 oc9 kV9 dc9 pm9 ct9 oc26 kV26 dc26 pm26 ct26:Vl} {oD4:Obj} {nD4:Nat}
  (r1:Rw K "_wall" sWall f1 d1)
  (r2:Rw K "led" sLed f2 d2)
  (r3:Rw K "refuse_more" a5w f3 d3)
  (a4:W.nsIn K mainGlobals "reached"=some (some (.ref f4))) (l4:K.lookup f4=some ⟨oc4,od4,.func (W.fnOf "reached" "reached" (a2o a2y) (a1m a2y) (a0e a2y) (.ref dD4) kV4 dc4 pm4 an4 cd4 ct4),sl4⟩) (c4:W.codeIn K cd4 "reached"=true) (k4:W.keepIn K (.ref f4)=true)
  (lD4:K.lookup dD4=some oD4) (qD4:oD4.data= .seq ([.none]:Vs).toArray nD4)
  (r5:Rw K "place_of" b2h f5 d5)
  (r6:Rw K "in_order" b2i f6 d6)
  (r7:Rw K "lies_in" b2j f7 d7)
  (r8:Rw K "carried" a8m f8 d8)
  (a9:W.nsIn K mainGlobals "sets_reached"=some (some (.ref f9))) (l9:K.lookup f9=some ⟨oc9,od9,.func (W.fnOf "sets_reached" "sets_reached" (a2o a0z) (a1m a0z) (a0e a0z) .none kV9 dc9 pm9 an9 (.ref cL9) ct9),sl9⟩) (c9:W.codeIn K (.ref cL9) "sets_reached"=true) (k9:W.keepIn K (.ref f9)=true)
  (hd9:W.codeHdIn K cL9 101=true)
  (r10:Rw K "still" c4k f10 d10)
  (r11:Rw K "behind" b2k f11 d11)
  (r12:Rw K "pictures" a9o f12 d12)
  (r13:Rw K "family" a7h f13 d13)
  (r14:Rw K "is_covered" a5h f14 d14)
  (r15:Rw K "tiles" b4s f15 d15)
  (r16:Rw K "words_between" a4d f16 d16)
  (r17:Rw K "alike_sets" a5i f17 d17)
  (r18:Rw K "sets_of_levels" a4e f18 d18)
  (r19:Rw K "is_led_to" a8n f19 d19)
  (r20:Rw K "levels_in_order" a1x f20 d20)
  (r21:Rw K "levels" b2l f21 d21)
  (r22:Rw K "tile" d1s f22 d22)
  (r23:Rw K "tiles_of_set" a4f f23 d23)
  (r24:Rw K "tiles_turned" a3p f24 d24)
  (r25:Rw K "all_tiles_turned" a3h f25 d25)
  (a26:W.nsIn K mainGlobals "level_group"=some (some (.ref f26))) (l26:K.lookup f26=some ⟨oc26,od26,.func (W.fnOf "level_group" "level_group" (a2o a1e) (a1m a1e) (a0e a1e) .none kV26 dc26 pm26 an26 (.ref cL26) ct26),sl26⟩) (c26:W.codeIn K (.ref cL26) "level_group"=true) (k26:W.keepIn K (.ref f26)=true)
  (hd26:W.codeHdIn K cL26 200=true)
  (r27:Rw K "_law_cell_at" a7i f27 d27)
  (r28:Rw K "_law_turn" b2m f28 d28)
  (r29:Rw K "_law_machine" a4g f29 d29)
  (r30:Rw K "_law_whole" a9p f30 d30)
  (r31:Rw K "_law_is_row" a6p f31 d31)
  (r32:Rw K "_law_plan" a8o f32 d32)
  (r33:Rw K "_law_parts" a9q f33 d33)
  (r34:Rw K "law" d2e f34 d34)
  {C_LevelParts:Addr} (n_LevelParts:W.nsIn K mainGlobals "LevelParts"=some (some (.ref C_LevelParts))) (u_LevelParts:OwnC K C_LevelParts ["machine","group","tiles","turns","tile_count"]) (mk_LevelParts:W.makesIn K C_LevelParts=true) (kp_LevelParts:W.keepIn K (.ref C_LevelParts)=true)
  {C_Row:Addr} (n_Row:W.nsIn K mainGlobals "Row"=some (some (.ref C_Row))) (u_Row:OwnC K C_Row ["rooms","steps"]) (mk_Row:W.makesIn K C_Row=true) (kp_Row:W.keepIn K (.ref C_Row)=true)
  {f_LevelParts___init__:Addr} {d_LevelParts___init__:Fd} (v_LevelParts___init__:OwnM K C_LevelParts "__init__" "LevelParts.__init__" a2k f_LevelParts___init__ d_LevelParts___init__)
  {f_LevelParts_is_turning:Addr} {d_LevelParts_is_turning:Fd} (v_LevelParts_is_turning:OwnM K C_LevelParts "is_turning" "LevelParts.is_turning" a1s f_LevelParts_is_turning d_LevelParts_is_turning)
  {f_Row___init__:Addr} {d_Row___init__:Fd} (v_Row___init__:OwnM K C_Row "__init__" "Row.__init__" a8p f_Row___init__ d_Row___init__)
  {f_Row_parts:Addr} {d_Row_parts:Fd} (v_Row_parts:OwnM K C_Row "parts" "Row.parts" a9r f_Row_parts d_Row_parts)
  (z_len:W.nsIn K mainGlobals "len"=some none) (z_range:W.nsIn K mainGlobals "range"=some none) (z_tuple:W.nsIn K mainGlobals "tuple"=some none) (z_list:W.nsIn K mainGlobals "list"=some none) (z_sorted:W.nsIn K mainGlobals "sorted"=some none) (z_set:W.nsIn K mainGlobals "set"=some none) (z_all:W.nsIn K mainGlobals "all"=some none) (z_any:W.nsIn K mainGlobals "any"=some none) (z_enumerate:W.nsIn K mainGlobals "enumerate"=some none) (z_isinstance:W.nsIn K mainGlobals "isinstance"=some none) (z_int:W.nsIn K mainGlobals "int"=some none) (z_bool:W.nsIn K mainGlobals "bool"=some none) (z_str:W.nsIn K mainGlobals "str"=some none):
  ∃fd:Fd,(∀(s:Sh) (v:Vl),BindsTo s fd ⟨[v],[]⟩ [("_law_script",v)])/\ ∀base:Heap,K.In base->base.Ns mainGlobals mg->b1r mg base->FnOk l.prog w K mg base CX0 22 fa fd ["_law_script"] (c8r K):=by
 have e:=hfa.symm.trans (W.mg_of X G r34.1)
 cases e
 have F4:DefAt K "reached" a2y f4 (W.fnOf "reached" "reached" (a2o a2y) (a1m a2y) (a0e a2y) (.ref dD4) kV4 dc4 pm4 an4 cd4 ct4) (.ref dD4) cd4:=⟨c4,⟨_,_,_,_,_,rfl⟩,_,_,_,l4⟩
 have F9:DefAt K "sets_reached" a0z f9 (W.fnOf "sets_reached" "sets_reached" (a2o a0z) (a1m a0z) (a0e a0z) .none kV9 dc9 pm9 an9 (.ref cL9) ct9) .none (.ref cL9):=⟨c9,⟨_,_,_,_,_,rfl⟩,_,_,_,l9⟩
 have F26:DefAt K "level_group" a1e f26 (W.fnOf "level_group" "level_group" (a2o a1e) (a1m a1e) (a0e a1e) .none kV26 dc26 pm26 an26 (.ref cL26) ct26) .none (.ref cL26):=⟨c26,⟨_,_,_,_,_,rfl⟩,_,_,_,l26⟩
 have m_len:=a3S X G z_len
 have m_range:=a3S X G z_range
 have m_tuple:=a3S X G z_tuple
 have m_list:=a3S X G z_list
 have m_sorted:=a3S X G z_sorted
 have m_set:=a3S X G z_set
 have m_all:=a3S X G z_all
 have m_any:=a3S X G z_any
 have m_enumerate:=a3S X G z_enumerate
 have m_isinstance:=a3S X G z_isinstance
 have m_int:=a3S X G z_int
 have m_bool:=a3S X G z_bool
 have m_str:=a3S X G z_str
 have rL:=r34.2
 obtain⟨_,_,kV,dc,pm,an,cv,ct,_,rfl,_,_⟩:=id rL.ex
 refine⟨W.fnOf "law" "law" (a2o d2e) (a1m d2e) (a0e d2e) .none kV dc pm an cv ct,fun s v=> .of_eq rfl,fun base KB _ hbm=>?_⟩
 have hC_sets_reached:=W.codeHd_of_K KB hd9
 have hC_level_group:=W.codeHd_of_K KB hd26
 have c__law_cell_at:=cal l.prog w base X G r27 (c0i r27.2 m_len) fun _ _ _ _ _ _=>ln2 fun _ _=>rfl
 have c__law_turn:=cal l.prog w base X G r28 (d1u r28.2 m_range m_tuple m_list) fun _ _ _ _ _ _=>ln2 fun _ _=>rfl
 have c__law_machine:=cal l.prog w base X G r29 (c0k r29.2 c__law_cell_at c__law_turn m_range m_tuple) fun _ _ _ _ _ _=>ln1 fun _=>rfl
 have c_led:=cal l.prog w base X G r2 (d4n r2.2) fun _ _ _ _ _ _=>ln3 fun _ _ _=>rfl
 have c_place_of:=cal l.prog w base X G r5 (c8d r5.2 m_len) fun _ _ _ _ _ _=>ln1 fun _=>rfl
 have c_in_order:=cal l.prog w base X G r6 (b6k r6.2 c_place_of m_sorted) fun _ _ _ _ _ _=>ln1 fun _=>rfl
 have c_carried:=cal l.prog w base X G r8 (c0m r8.2 c_led m_tuple m_sorted m_set) fun _ _ _ _ _ _=>ln3 fun _ _ _=>rfl
 have c_refuse_more:=cal l.prog w base X G r3 (b0f r3.2 m_len) fun _ _ _ _ _ _=>ln2 fun _ _=>rfl
 have c_reached:b1u l.prog w K mg base "reached" _ _ _ [.non]:=⟨_,_,[.none],c0n (P:=l.prog) (w:=w) (base:=base) F4 c_refuse_more m_range,W.mg_of X G a4,k4,(fun s us KX hl=>by have hl3:us.length=3:=(by simpa using hl);clear hl;revert us;exact ln3 (fun _ _ _=>BindsTo.of_defaults rfl (KX _ _ lD4) qD4 rfl rfl)),.cons rfl .nil⟩
 have c_sets_reached:a0q l.prog w K mg base "sets_reached" _ _ _:=⟨_,_,a9s (P:=l.prog) (w:=w) (base:=base) F9 hC_sets_reached hbm hqT0 c_carried c_reached m_len,W.mg_of X G a9,k9,.all (ln2 (fun _ _=>rfl))⟩
 have c_still:=cal l.prog w base X G r10 (c8c r10.2 m_tuple m_range) fun _ _ _ _ _ _=>ln1 fun _=>rfl
 have c_behind:=cal l.prog w base X G r11 (c4r r11.2 m_tuple) fun _ _ _ _ _ _=>ln2 fun _ _=>rfl
 have c_pictures:=cal l.prog w base X G r12 (b6m r12.2 c_still c_sets_reached m_len m_list) fun _ _ _ _ _ _=>ln1 fun _=>rfl
 have c_family:=cal l.prog w base X G r13 (c4x r13.2 c_pictures c_in_order m_len m_range) fun _ _ _ _ _ _=>ln1 fun _=>rfl
 have c_lies_in:=cal l.prog w base X G r7 (c0p r7.2 m_all) fun _ _ _ _ _ _=>ln2 fun _ _=>rfl
 have c_is_covered:=cal l.prog w base X G r14 (c0q r14.2 c_lies_in m_any) fun _ _ _ _ _ _=>ln2 fun _ _=>rfl
 have c_tiles:=cal l.prog w base X G r15 (c8f r15.2 c_family c_lies_in c_is_covered) fun _ _ _ _ _ _=>ln2 fun _ _=>rfl
 have c_words_between:=cal l.prog w base X G r16 (a8c r16.2 c_family c_sets_reached m_len) fun _ _ _ _ _ _=>ln1 fun _=>rfl
 have c_alike_sets:=cal l.prog w base X G r17 (c8g r17.2) fun _ _ _ _ _ _=>ln2 fun _ _=>rfl
 have c_sets_of_levels:=cal l.prog w base X G r18 (c0r r18.2 c_alike_sets) fun _ _ _ _ _ _=>ln1 fun _=>rfl
 have c_is_led_to:=cal l.prog w base X G r19 (b5c r19.2 m_any) fun _ _ _ _ _ _=>ln3 fun _ _ _=>rfl
 have c_levels_in_order:=cal l.prog w base X G r20 (a6u r20.2 c_is_led_to) fun _ _ _ _ _ _=>ln2 fun _ _=>rfl
 have c_levels:=cal l.prog w base X G r21 (c5e r21.2 c_words_between c_sets_of_levels c_levels_in_order c_tiles) fun _ _ _ _ _ _=>ln1 fun _=>rfl
 have c_tile:=cal l.prog w base X G r22 (d1y r22.2 c_carried) fun _ _ _ _ _ _=>ln4 fun _ _ _ _=>rfl
 have c_tiles_of_set:=cal l.prog w base X G r23 (a9y r23.2 c_tile m_len m_range) fun _ _ _ _ _ _=>ln3 fun _ _ _=>rfl
 have c_tiles_turned:=cal l.prog w base X G r24 (a9z r24.2 c_carried c_tiles_of_set m_tuple) fun _ _ _ _ _ _=>ln4 fun _ _ _ _=>rfl
 have c_all_tiles_turned:=cal l.prog w base X G r25 (b3c r25.2 c_tiles_turned m_len m_range) fun _ _ _ _ _ _=>ln2 fun _ _=>rfl
 have c_level_group:a0q l.prog w K mg base "level_group" _ _ _:=⟨_,_,b0h (P:=l.prog) (w:=w) (base:=base) F26 hC_level_group hbm hqT1 c_all_tiles_turned c_still c_behind c_reached m_len m_sorted,W.mg_of X G a26,k26,.all (ln2 (fun _ _=>rfl))⟩
 have c_LevelParts:c4j l.prog w K mg base "LevelParts" C_LevelParts _ _ _:=⟨_,_,c0v (P:=l.prog) (w:=w) (mg:=mg) (base:=base) v_LevelParts___init__.2.2 u_LevelParts c_level_group c_tiles_of_set c_tiles_turned m_enumerate m_range m_len,⟨mk_LevelParts,v_LevelParts___init__.1,v_LevelParts___init__.2.1,kp_LevelParts⟩,W.mg_of X G n_LevelParts,v_LevelParts___init__.2.2.binds (ps:=["self","machine","level"]) fun _ _ _ _ _ _=>ln3 (fun _ _ _=>rfl)⟩
 have c_LevelParts_is_turning:c4i l.prog w K mg base C_LevelParts "is_turning" _ _ _:=⟨_,_,b3e (P:=l.prog) (w:=w) (mg:=mg) (base:=base) v_LevelParts_is_turning.2.2 u_LevelParts m_len,⟨v_LevelParts_is_turning.1,v_LevelParts_is_turning.2.1,v_LevelParts_is_turning.2.2.kp⟩,v_LevelParts_is_turning.2.2.binds (ps:=["self"]) fun _ _ _ _ _ _=>ln1 (fun _=>rfl)⟩
 have c_Row:c4j l.prog w K mg base "Row" C_Row _ _ _:=⟨_,_,b6w (P:=l.prog) (w:=w) (mg:=mg) (base:=base) v_Row___init__.2.2 u_Row c_LevelParts c_levels c_still m_len,⟨mk_Row,v_Row___init__.1,v_Row___init__.2.1,kp_Row⟩,W.mg_of X G n_Row,v_Row___init__.2.2.binds (ps:=["self","machine"]) fun _ _ _ _ _ _=>ln2 (fun _ _=>rfl)⟩
 have c_Row_parts:c4i l.prog w K mg base C_Row "parts" _ _ _:=⟨_,_,c8q (P:=l.prog) (w:=w) (mg:=mg) (base:=base) v_Row_parts.2.2 u_LevelParts u_Row c_LevelParts_is_turning m_enumerate m_len,⟨v_Row_parts.1,v_Row_parts.2.1,v_Row_parts.2.2.kp⟩,v_Row_parts.2.2.binds (ps:=["self"]) fun _ _ _ _ _ _=>ln1 (fun _=>rfl)⟩
 have c__law_whole:=cal l.prog w base X G r30 (c8o r30.2 m_isinstance m_int m_bool) fun _ _ _ _ _ _=>ln1 fun _=>rfl
 have c__law_is_row:=cal l.prog w base X G r31 (c5s r31.2 c__law_whole m_isinstance m_tuple) fun _ _ _ _ _ _=>ln1 fun _=>rfl
 have c__law_plan:=cal l.prog w base X G r32 (d2c r32.2 c_levels c_tile c_level_group m_enumerate m_range m_len) fun _ _ _ _ _ _=>ln1 fun _=>rfl
 have c__law_parts:=cal l.prog w base X G r33 (c5v r33.2 m_enumerate m_len) fun _ _ _ _ _ _=>ln1 fun _=>rfl
 exact d4w (P:=l.prog) (w:=w) (base:=base) rL u_Row c__law_machine c__law_plan c__law_parts c_Row c_Row_parts c__law_is_row m_isinstance m_list m_tuple m_str
def tabsW:List (Str×Addr):=[("sets_reached",101),("level_group",200)]
theorem walk{l:PySem.W.OpenLaw}{q:Pg}{loose:Ss}{XP:SV->Heap->Prop}{YP:World->Heap->Prop}{d:DefRec}{K:Params->W.Frag}(hn:l.most=some 63)(hdf:d.params.defaults=[])
  (hY: ∀(w:World) (h:Heap),YP w h->(K w.params).In h) (hT: ∀w:World,∀t∈tabsW,(K w.params).lookup t.2=none/\(∃c,PySem.W.tabIn (K w.params) t.1=some (c,t.2))/\ ∃e,(recsOf q).find? (fun r=>r.name==t.1)=some e)
  (F: ∀(w:World) (mg:SV) (fa:Addr) (h:Heap),(K w.params).In h->h.Ns mainGlobals mg->mg d.name=some (.ref fa)->
   ∃fd:Fd,(∀(s:Sh) (u:Vl),BindsTo s fd ⟨[u],[]⟩ [("_law_script",u)])/\ ∀base:Heap,(K w.params).In base->base.Ns mainGlobals mg->b1r mg base->FnOk l.prog w (K w.params) mg base CX0 22 fa fd ["_law_script"] (c8r (K w.params))):
  PySem.W.WalkO q loose XP YP l.row.toRowW d [] (fun f vs=>PySem.call f vs):=
 L2.c7k (n:=63) (k:=22) (x:="_law_script") (tabs:=tabsW) (sp:=fun w=>c8r (K w.params)) hn (by decide) hdf ⟨rfl,by decide,by decide⟩ hY hT F fun w H a ns hl ht hS=>⟨a,ns,rfl,hS,hl,(fun q hq=>by
  have z:q.2.2∈tabsW.map (·.2):=(show tabsL.map (·.2.2)=tabsW.map (·.2)from rfl)▸List.mem_map_of_mem hq
  obtain⟨t,ht2,e⟩:=a0Q.mp z
  rw[<-e]
  exact .inl (ht t ht2)),fun _=>rfl⟩
end My
namespace PySem.W.Fast
def tw17877455812970246065 := ()
theorem te17877455812970246065 : True := ⟨⟩
def tw532836517977739264:=()
def tw1996928242936049696:=()
def tw13492089899414940832:=()
def tw17373784034236361920:=()
def tw16857231451033832960:=()
def tw9611921075551200800:=()
def tw13735105822866531168:=()
def tw10330223055858722784:=()
def tw17057551973682805761:=()
def tw14743715393562699841:=()
def tw14691904421590878369:=()
def tw6663153922594814433:=()
def tw9599500248755970593:=()
def tw10063837762233223809:=()
def tw7020701668332872513:=()
def tw16904381198435449697:=()
def tw16030659768090910593:=()
def tw3171980644126197729:=()
def tw7559586192124982241:=()
def tw17324143597724162017:=()
def tw1427535310758003714:=()
def tw5806162670824209474:=()
def tw3310540959943219266:=()
def tw8533602143921135810:=()
def tw4858330029914686690:=()
def tw2389395820247091458:=()
def tw12698379907713857858:=()
def tw9846411901387720002:=()
def tw3229423272875730306:=()
def tw12087349545798753730:=()
def tw9797858286737223138:=()
def tw581562465908325890:=()
def tw2502985093470391906:=()
def tw14771451103453826:=()
def tw12637008419589436162:=()
def tw4737558988244092738:=()
def tw8496749122516227938:=()
def tw16372036430898700162:=()
def tw2237958019637407618:=()
def tw2975659823474341826:=()
def tw4769177574394513411:=()
def tw3270993561783493987:=()
def tw6151203009101545891:=()
def tw11308683559007274403:=()
def tw14365084750782540227:=()
def tw740211160765233635:=()
def tw9376033070096922307:=()
def tw17370172817206941411:=()
def tw6489023760267403075:=()
def tw10403279010410425187:=()
def tw8635406618441547683:=()
def tw18187180884086338531:=()
def tw14684689937902407651:=()
def tw5056436244061919268:=()
def tw17676537282640418884:=()
def tw2052442997594896548:=()
def tw11125581901705781444:=()
def tw17267949175637095812:=()
def tw11610959355871162820:=()
def tw15917047956940880324:=()
def tw17893217361827617252:=()
def tw10363317428144725508:=()
def tw16532661277036066308:=()
def tw10201086543636697636:=()
def tw11380365639074304612:=()
def tw633388145126540996:=()
def tw14829555706293746500:=()
def tw8659338471137305572:=()
def tw9577275560499913700:=()
def tw5119703512318151685:=()
def tw16752860019151989861:=()
def tw11381660600807686277:=()
def tw17516043157300990181:=()
def tw7050390251676191973:=()
def tw8927096889939235109:=()
def tw1761919987906654565:=()
def tw16259601250321042821:=()
def tw12697533176826873285:=()
def tw1889859980423520837:=()
def tw5868958771492040261:=()
def tw624904593986304613:=()
def tw7458868663255064293:=()
def tw8302213876428265189:=()
def tw9212251241379264485:=()
def tw16870592736048420070:=()
def tw13321693485257818342:=()
def tw411008945444962630:=()
def tw9742664329408807558:=()
def tw5879799625587731238:=()
def tw5437749859165883334:=()
def tw4954568399200306215:=()
def tw492994849806677095:=()
def tw1481009426143021191:=()
def tw3977528540828037287:=()
def tw10036199983656690919:=()
def tw4055587474666717511:=()
def tw1191481155924265287:=()
def tw3953758078575828327:=()
def tw16088312436171624871:=()
def tw10775880431383795143:=()
def tw12917601518276621831:=()
def tw5388514284209665575:=()
def tw3564599091436907143:=()
def tw13087943674036120263:=()
def tw2534093699229208327:=()
def tw39592888871095047:=()
def tw2076668997456789319:=()
def tw5822308330086404007:=()
def tw3746711505441155015:=()
def tw530456390074353672:=()
def tw52916799615669256:=()
def tw16207327522172996616:=()
def tw10521452250856925224:=()
def tw3050141848864171048:=()
def tw1102596681065221160:=()
def tw3142801498355428488:=()
def tw15617258205256663240:=()
def tw9363258691735995624:=()
def tw2610471434811843848:=()
def tw10847348621256072:=()
def tw14939165206727600520:=()
def tw14558984539021718920:=()
def tw10373299753074350568:=()
def tw2604701015730596360:=()
def tw336509631693821480:=()
def tw12892600195243724392:=()
def tw5977771249499262696:=()
def tw11517248573482644296:=()
def tw16102297953557428265:=()
def tw15639579373694309481:=()
def tw2394726842790503593:=()
def tw11967679556246156521:=()
def tw10310505514373535049:=()
def tw8448375807625956873:=()
def tw4507777493193004649:=()
def tw6494317135044965993:=()
def tw10143022490112281289:=()
def tw6718219989068390089:=()
def tw2298885165380207433:=()
def tw1496152455196652489:=()
def tw13921611511749089257:=()
def tw4201370906116465674:=()
def tw10321153482259653674:=()
def tw5660284854713918538:=()
def tw5243024354500835690:=()
def tw5147505272928677258:=()
def tw15838469906416308714:=()
def tw6177248370982319754:=()
def tw16800144755426463787:=()
def tw8470239840928631883:=()
def tw1822385899574932555:=()
def tw3269136924308039915:=()
def tw14615483152173038859:=()
def tw11136136038131991883:=()
def tw4686032520680175115:=()
def tw11606524826596525579:=()
def tw16228706551513296427:=()
def tw14439090074921728683:=()
def tw1136015757192700779:=()
def tw16582687284147745675:=()
def tw154460211257272235:=()
def tw9455802202941308972:=()
def tw14088583445066363020:=()
def tw17350998015444448492:=()
def tw17852380897115407660:=()
def tw16465233608823567820:=()
def tw4556326296244024876:=()
def tw10592077214285997676:=()
def tw6181030269981513420:=()
def tw15943047264557027180:=()
def tw4762392291400347532:=()
def tw5734233840929925068:=()
def tw13909875665474974797:=()
def tw9216654542756548781:=()
def tw17464403887579297997:=()
def tw2613502862608138445:=()
def tw8352059379537367277:=()
def tw6720950365646113069:=()
def tw4587734083292259693:=()
def tw12650824315065513357:=()
def tw297532717813754285:=()
def tw14004309854194629133:=()
def tw12056109499778080301:=()
def tw15172777152309242413:=()
def tw17426923860545387309:=()
def tw36183853856742285:=()
def tw12398584447362755565:=()
def tw7405462770739432494:=()
def tw5741023251929455662:=()
def tw634554897311758478:=()
def tw8301732718786321582:=()
def tw4234110577331367118:=()
def tw17981399951833229518:=()
def tw1676837916687916270:=()
def tw8517324240167984398:=()
def tw4532997495831451950:=()
def tw3784220621602258286:=()
def tw5442874732914813518:=()
def tw553956200023570062:=()
def tw3819187636279971598:=()
def tw11564459820380662542:=()
def tw12410964831828182862:=()
def tw13592249544685780910:=()
def tw3047493929166947246:=()
def tw8968422097533265999:=()
def tw13491057735784329359:=()
def tw11513207014749437199:=()
def tw11963689542579966255:=()
def tw10905841769047861615:=()
def tw13211973748673641167:=()
def tw10479785074411487055:=()
def tw130461003237072751:=()
def tw3856488388345267087:=()
def tw1787767700867214255:=()
def tw1525762122429170736:=()
def tw8497832407715415120:=()
def tw6992066462301552752:=()
def tw17389520111759675504:=()
def tw3655801561548111024:=()
def tw17167640696319763952:=()
def tw14403316229191051856:=()
def tw9751578995506265808:=()
def tw14576893548339798832:=()
def tw7569068682011343664:=()
def tw17492439231033671697:=()
def tw11128438656915251249:=()
def tw15588879663812368657:=()
def tw15593753578868314417:=()
def tw5531420870571665841:=()
def tw17481286280638084657:=()
def tw7190156896155418193:=()
def tw8513987998661245521:=()
def tw3945156903220054641:=()
def tw13184970722255973009:=()
def tw2112886048913985233:=()
def tw15813842316228942577:=()
def tw15773053755750361905:=()
def tw11919999306192632689:=()
def tw17026436346472500177:=()
def tw4717619603071096817:=()
def tw3963368736345107570:=()
def tw7295734278655902866:=()
def tw1969947371579179314:=()
def tw2643742720440895954:=()
def tw3922708186833136210:=()
def tw8397969655481175794:=()
def tw5114311215977639730:=()
def tw6869954741287916370:=()
def tw4792185383489335122:=()
def tw2757364016813591410:=()
def tw8976284301880956818:=()
def tw16990072197853607858:=()
def tw9445309821425340402:=()
def tw8189920933763278963:=()
def tw17237910786760871027:=()
def tw12458604830537361619:=()
def tw13685560220433013971:=()
def tw16032816615495952595:=()
def tw5326962346864710003:=()
def tw11520887750134172115:=()
def tw16515618687001595347:=()
def tw9979712008555545203:=()
def tw13783738442036017875:=()
def tw7641897202959747859:=()
def tw1125713571779030867:=()
def tw12160445027246859091:=()
def tw12370591493189144596:=()
def tw1926843433325464724:=()
def tw15778237801796994324:=()
def tw16547249301991043508:=()
def tw12274112426114860660:=()
def tw16387326409312877268:=()
def tw5078058620238406452:=()
def tw1812108135478735668:=()
def tw5026050326656176020:=()
def tw13075593708573870004:=()
def tw12874686010087964628:=()
def tw7619868203771627508:=()
def tw1569828827537765364:=()
def tw5124142584482841621:=()
def tw8777445614078170165:=()
def tw11609008123238273141:=()
def tw310172253482836117:=()
def tw11115616715834950869:=()
def tw8705408687442381109:=()
def tw11689095311849342325:=()
def tw3641247518356516309:=()
def tw8922694700836602485:=()
def tw5438663805831836309:=()
def tw10811253466323231413:=()
def tw507106645003876021:=()
def tw7343864598431009525:=()
def tw3572119253663458165:=()
def tw2935459140399841173:=()
def tw11133657439231674293:=()
def tw9233010890628538454:=()
def tw2406620779849959734:=()
def tw7024025780952067446:=()
def tw12346980352727349654:=()
def tw1889408321278272950:=()
def tw9413637237049196022:=()
def tw13543017617520633430:=()
def tw8914460501950568022:=()
def tw5453042316330592886:=()
def tw15922667571415323318:=()
def tw4749464705249277654:=()
def tw6800970192072243447:=()
def tw4198684558929988855:=()
def tw5671547751526661527:=()
def tw8213202071255113239:=()
def tw5868442161964586583:=()
def tw5384366743338302103:=()
def tw648130242604307351:=()
def tw8600215482012485559:=()
def tw5222638885637792759:=()
def tw2375791251587939319:=()
def tw7361054520135720984:=()
def tw16110483523657777272:=()
def tw10800431217895942424:=()
def tw12897639225642974520:=()
def tw13983186079492129112:=()
def tw13630087044502127256:=()
def tw17192769445193616152:=()
def tw16791540855580611352:=()
def tw1574397909971196953:=()
def tw6233055487142843449:=()
def tw1711801709572688953:=()
def tw14051049822191347001:=()
def tw4466071786189537753:=()
def tw13945833234277183001:=()
def tw11655050754474874585:=()
def tw15130431992186176249:=()
def tw16636409765260706585:=()
def tw15331574349126253465:=()
def tw1760720501884533818:=()
def tw18418772426086677626:=()
def tw8306507418330467546:=()
def tw11523122116281503962:=()
def tw1916648235178804506:=()
def tw12252964857602950554:=()
def tw18134348795173888506:=()
def tw2591168922488876666:=()
def tw7927541639841082074:=()
def tw2054285719333864218:=()
def tw12090000304890967930:=()
def tw17625127271265797018:=()
def tw17044466456260088730:=()
def tw11248670230673925403:=()
def tw6395905408639846843:=()
def tw16532877811556700699:=()
def tw15681626499882930843:=()
def tw431975162137359035:=()
def tw16984685722842867451:=()
def tw3093089688738068379:=()
def tw10334901993776726044:=()
def tw16586241108342917148:=()
def tw8409977268167472156:=()
def tw9650614193009090748:=()
def tw1843241466421641468:=()
def tw13631994163376184604:=()
def tw2518986262418811260:=()
def tw12284929729404701052:=()
def tw11403204907484879260:=()
def tw295189881942421980:=()
def tw11800730020315325916:=()
def tw5317266117464278492:=()
def tw9883087735437791804:=()
def tw17326426743293560412:=()
def tw10468456209338177148:=()
def tw11195062651260455612:=()
def tw9498538012823048892:=()
def tw5678637854862862012:=()
def tw8158260721219960572:=()
def tw2521385506994983676:=()
def tw409064582150293276:=()
def tw13158319210545950492:=()
def tw8580018281734459292:=()
def tw14921657948911330204:=()
def tw4727939780850279324:=()
def tw16066966609168182204:=()
def tw2550235926626599997:=()
def tw6982487932076902525:=()
def tw3864901440326886749:=()
def tw10303162218294899069:=()
def tw18178736949849112029:=()
def tw15374729238109022717:=()
def tw10360250223877422621:=()
def tw4127254110297741885:=()
def tw3970475092416861821:=()
def tw16088912995875407485:=()
def tw10289671601747904221:=()
def tw16519987108735744733:=()
def tw5239726725715428093:=()
def tw13047668879177990973:=()
def tw15605191671179813725:=()
def tw3017836690154278781:=()
def tw11475743909451095997:=()
def tw4239174967310663742:=()
def tw1745483015871706270:=()
def tw10618051136392288478:=()
def tw13354667254284810494:=()
def tw2521033588639184286:=()
def tw13090541754720106910:=()
def tw3381510829982926238:=()
def tw7967547180179919422:=()
def tw10149277970688018110:=()
def tw1473614712837518014:=()
def tw15784651105306621726:=()
def tw20715168075186142:=()
def tw14870179497154906335:=()
def tw5238762991494554879:=()
def tw12157710712029526367:=()
def tw13801252806484883839:=()
def tw844232158910374303:=()
def tw13635454577275097631:=()
def tw16904306879957443103:=()
def tw9801484097304786623:=()
def tw2490587646683775679:=()
def tw11068073277606506207:=()
def tw17615788477459790623:=()
end PySem.W.Fast
open PySem PySem.W PyProof.Rows
set_option maxRecDepth 100000 in
set_option maxHeartbeats 0 in
theorem PySem.Challenge.cw_cascade_k50_parts_of_a_row_holds : PySem.Challenge.rw_cascade_k50_parts_of_a_row.Holds := by
 w_on; o_law; k_head; (case hw => w_witness2)
 k_fill
 refine' My.walk (l := PySem.Challenge.rw_cascade_k50_parts_of_a_row) rfl rfl (fun w h Y => PySem.W.km_in_of Y) ?hT ?F
 case hT =>
  intro w t ht
  simp only [My.tabsW, List.mem_cons, List.not_mem_nil, or_false] at ht
  rcases ht with rfl | rfl
  ·exact ⟨by kernel_rfl, ⟨105, by kernel_rfl⟩, _, rfl⟩
  ·exact ⟨by kernel_rfl, ⟨204, by kernel_rfl⟩, _, rfl⟩
 case F =>
  intro w mg fa h KX G hmg
  refine' My.d4x KX G hmg ?_ ?_ ?_ ?a4 ?l4 ?c4 ?k4 ?lD4 ?qD4 ?_ ?_ ?_ ?_ ?a9 ?l9 ?c9 ?k9 ?hd9 ?_ ?_ ?_ ?_ ?_ ?_ ?_ ?_ ?_ ?_ ?_ ?_ ?_ ?_ ?_ ?_ ?a26 ?l26 ?c26 ?k26 ?hd26 ?_ ?_ ?_ ?_ ?_ ?_ ?_ ?_  ?n_LevelParts ?u_LevelParts ?mk_LevelParts ?kp_LevelParts ?n_Row ?u_Row ?mk_Row ?kp_Row ?v_LevelParts___init__ ?v_LevelParts_is_turning ?v_Row___init__ ?v_Row_parts  ?_ ?_ ?_ ?_ ?_ ?_ ?_ ?_ ?_ ?_ ?_ ?_ ?_
  (case a4 => k_is); (case l4 => k_is); (case c4 => k_is); (case k4 => k_is)
  (case lD4 => k_is); (case qD4 => rfl)
  (case a9 => k_is); (case l9 => k_is); (case c9 => k_is); (case k9 => k_is)
  (case hd9 => kernel_rfl)
  (case a26 => k_is); (case l26 => k_is); (case c26 => k_is); (case k26 => k_is)
  (case hd26 => kernel_rfl)
  (case n_LevelParts => k_is); (case u_LevelParts => exact ⟨⟨by k_is, by k_is, by k_is, by k_is⟩, (.cons (by k_is) (.cons (by k_is) (.cons (by k_is) (.cons (by k_is) (.cons (by k_is) .nil)))))⟩); (case mk_LevelParts => k_is); (case kp_LevelParts => k_is)
  (case n_Row => k_is); (case u_Row => exact ⟨⟨by k_is, by k_is, by k_is, by k_is⟩, (.cons (by k_is) (.cons (by k_is) .nil))⟩); (case mk_Row => k_is); (case kp_Row => k_is)
  (case v_LevelParts___init__ => refine' ⟨?a, ?i, L2.b3s ?l ?c ?k⟩; (case a => k_is); (case i => k_is); (case l => k_is); (case c => k_is); (case k => k_is))
  (case v_LevelParts_is_turning => refine' ⟨?a, ?i, L2.b3s ?l ?c ?k⟩; (case a => k_is); (case i => k_is); (case l => k_is); (case c => k_is); (case k => k_is))
  (case v_Row___init__ => refine' ⟨?a, ?i, L2.b3s ?l ?c ?k⟩; (case a => k_is); (case i => k_is); (case l => k_is); (case c => k_is); (case k => k_is))
  (case v_Row_parts => refine' ⟨?a, ?i, L2.b3s ?l ?c ?k⟩; (case a => k_is); (case i => k_is); (case l => k_is); (case c => k_is); (case k => k_is))
  any_goals (refine' ⟨?a, L2.b3s ?l ?c ?k⟩; (case a => k_is); (case l => k_is); (case c => k_is); (case k => k_is))
  any_goals k_is
