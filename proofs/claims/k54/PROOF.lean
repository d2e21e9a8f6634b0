import PyProof.Rows.All
import Wide.All
import OpenK.AllK
import Wide.FinOn
import Lean
import PyProof.EqAt
import PyProof.EqKinds
import PyProof.TupleCall
import PyProof.NeKinds
import PySem.Challenge.RW_cascade_k54_moves_of_parts
set_option maxHeartbeats 2000000
set_option Elab.async false
set_option linter.all false
set_option maxRecDepth 100000
local macro_rules|`(())=>`(by lia)
abbrev cE:=@List.getElem?_eq_getElem
abbrev cP:=@List.getElem?_eq_some_iff
abbrev cC:=@List.length_map
abbrev cB:=@PySem.wpAny_bind
abbrev cY:=@List.mem_of_getElem?
abbrev cV:=@List.getElem?_map
abbrev cH:=@PySem.wpAny_pure
abbrev dM:=@PySem.Heap.get?_push_of_some
abbrev eC:=@List.getD_eq_getElem?_getD
abbrev dw:=@List.mem_singleton
abbrev cO:=@Nat.le_refl
abbrev dF:=@List.length_append
abbrev e9:=@List.getElem?_append_right
abbrev fe:=@List.getElem?_append_left
abbrev eU:=@Option.map_eq_some_iff
abbrev dD:=@List.mem_append
abbrev dY:=@List.mem_cons_self
abbrev dh:=@List.mem_map
abbrev eO:=@Array.length_toList
abbrev dq:=@PySem.Heap.lt_size
abbrev fg:=@List.mem_append_right
abbrev dP:=@List.mem_filter
abbrev eM:=@List.size_toArray
abbrev fj:=@PySem.Heap.get?_push_size
abbrev eI:=@List.map_append
abbrev dL:=@Nat.le_trans
abbrev dz:=@PySem.sizeLine_eq
abbrev fR:=@List.mem_cons_of_mem
abbrev eJ:=@decide_eq_true
abbrev dZ:=@List.mem_cons
abbrev gA:=@List.mem_iff_getElem?
abbrev c7:=@PyProof.Rows.wpS_bind
abbrev fi:=@List.length_take
abbrev hV:=@PySem.F.plainAttrs_list
abbrev fO:=@List.append_assoc
abbrev gh:=@Nat.lt_of_lt_of_le
abbrev d9:=@Nat.ne_of_lt
abbrev gV:=@List.contains_iff_mem
abbrev fy:=@decide_eq_false
abbrev gy:=@Bool.false_ne_true
abbrev df:=@PyProof.Rows.wpS_pure
abbrev iZ:=@List.length_filter_le
abbrev f':=@List.mem_range
abbrev ko:=@PySem.F.slot_list_append
abbrev lE:=@PySem.F.type_list_append
abbrev gD:=@Option.some.inj
abbrev ip:=@Int.toNat_natCast
abbrev ie:=@of_decide_eq_true
abbrev hA:=@List.take_length
abbrev mJ:=@Array.getElem?_eq_getElem
abbrev j4:=@List.getElem?_eq_none
abbrev jt:=@List.pairwise_append
abbrev dN:=@congrArg
abbrev fQ:=@Nat.le_of_lt
abbrev iU:=@List.length_range
abbrev gY:=@PySem.PassesOwn.never
abbrev iY:=@List.take_add_one
abbrev lK:=@Array.getElem?_toList
abbrev mC:=@PySem.Heap.get?_update_other
abbrev pP:=@Nat.exists_eq_add_one_of_ne_zero
abbrev iV:=@List.append_nil
abbrev hG:=@PySem.wpAny_holding
abbrev jx:=@List.getElem?_inj
abbrev oG:=@Array.perm_iff_toList_perm
abbrev iG:=@List.map_cons
abbrev kv:=@PySem.wpAny_call_entry
abbrev ki:=@List.lookup_cons
abbrev ni:=@List.mem_append_left
abbrev pV:=@List.pairwise_iff_getElem
abbrev md:=@PySem.wpAny_newObj_type
abbrev lU:=@Bool.and_eq_true
abbrev qg:=@Array.getD_eq_getD_getElem?
abbrev m6:=@Array.toList_append
abbrev pG:=@List.getElem?_take_of_lt
abbrev l6:=@List.getElem_mem
abbrev lH:=@Bool.eq_iff_iff
abbrev oT:=@PySem.wpAny_callSpecial?_slot
abbrev i4:=@List.map_map
abbrev pZ:=@List.length_eq_zero_iff
abbrev on:=@List.take_append_drop
abbrev nK:=@PySem.mem_of_lookup
abbrev u5:=@PySem.F.slot_dict_keyiterator_next
abbrev mE:=@List.nodup_cons
abbrev vg:=@PyProof.Rows.slot_tuple_getitem
abbrev wJ:=@List.Nodup.length_le_of_subset
abbrev pQ:=@List.Pairwise.sublist
abbrev nt:=@List.length_cons
abbrev j8:=@PyProof.Rows.wpS_forRange
abbrev fh:=@Ne.symm
abbrev jj:=@Nat.zero_le
abbrev oH:=@PySem.wpAny_setField_rec
abbrev iM:=@PySem.wpAny_mono
abbrev uz:=@List.idxOf_lt_length_iff
abbrev gj:=@PySem.boot_len
abbrev pA:=@beq_eq_false_iff_ne
abbrev oV:=@List.getElem?_range
abbrev oX:=@Nat.add_sub_cancel'
abbrev nN:=@List.mem_reverse
abbrev nP:=@Nat.le_add_right
abbrev me:=@Nat.lt_irrefl
abbrev ul:=@List.pairwise_singleton
abbrev oj:=@List.ext_getElem?
abbrev qk:=@PySem.lookup_relabel_local
abbrev nC:=@PySem.W.kia_one
abbrev oJ:=@Nat.lt_succ_self
abbrev oD:=@List.length_drop
abbrev y3:=@PySem.F.slot_dict_itemiterator_next
abbrev sm:=@Classical.choose_spec
abbrev ow:=@PySem.wpAny_loadPart'
abbrev vj:=@Nat.add_sub_cancel_left
abbrev vv:=@PySem.F.slot_list_index
abbrev vw:=@PySem.F.type_list_index
abbrev mQ:=@PySem.W.mg_none_of
abbrev xr:=@Array.getElem?_eq_some_iff
abbrev qh:=@PySem.wpAny_truthy_bool
abbrev qc:=@Nat.lt_succ_of_lt
abbrev rj:=@List.foldl_append
abbrev uq:=@List.map_congr_left
abbrev qd:=@Bool.eq_false_iff
abbrev tF:=@List.filter_sublist
abbrev yx:=@List.drop_eq_getElem_cons
abbrev yX:=@Nat.sub_lt_left_of_lt_add
abbrev m9:=@Nat.ne_of_gt
abbrev v4:=@PySem.Heap.get?_update_self
abbrev pN:=@List.length_set
abbrev Ap:=@PySem.wpAny_typeNameOfWhole_itemiter
abbrev pM:=@Array.size_push
abbrev ut:=@PySem.wpAny_Call_Name_kw
abbrev tv:=@List.filter_append
abbrev sw:=@List.getElem_idxOf
abbrev BA:=@PySem.wpAny_typeNameOfWhole_keyiter
abbrev vt:=@PySem.Around.under_plainId
abbrev vi:=@List.mem_of_mem_take
abbrev vR:=@List.getElem?_of_mem
abbrev zG:=@PySem.F.slot_dict_keyiterator_iter
abbrev nG:=@Nat.sub_self
abbrev tu:=@PySem.wpAny_dictEntries
abbrev tz:=@PySem.wpAny_setState_of
abbrev mz:=@PyProof.Rows.boot_tuple
abbrev Aj:=@PyProof.Rows.callWith_type1
abbrev xM:=@List.take_of_length_le
abbrev sf:=@List.all_eq_true
abbrev ui:=@List.getElem_map
abbrev pB:=@PySem.Paired.length
abbrev xv:=@List.length_replicate
abbrev wM:=@List.length_singleton
abbrev xj:=@List.Perm.append_left
abbrev vx:=@List.pairwise_cons
abbrev wD:=@of_decide_eq_false
abbrev vV:=@decide_eq_true_iff
abbrev rf:=@PySem.Heap.size_push
abbrev Bf:=@Classical.byContradiction
abbrev AQ:=@List.extract_eq_take_drop
abbrev sh:=@PySem.wpAny_passesOwn
abbrev vX:=@List.take_sublist
abbrev tm:=@PySem.codeAny_builtin
abbrev wu:=@Array.toList_push
abbrev wx:=@PySem.wpAny_pyIter_slot
abbrev wG:=@List.pairwise_map
abbrev tq:=@Nat.not_lt_zero
abbrev u0:=@Nat.min_eq_left
abbrev vo:=@List.filter_congr
abbrev pq:=@Nat.le_of_eq
abbrev oP:=@PySem.codeAny_mono
abbrev pF:=@Int.zero_add
abbrev oK:=@Nat.le_succ
abbrev yp:=@List.replicate_succ
abbrev xX:=@Nat.add_le_add_left
abbrev qw:=@PySem.wpAny_attempt
abbrev xQ:=@PySem.F.plain_extend_loop
abbrev kS:=@PyProof.Rows.wpS_mono
abbrev va:=@List.cons_append
abbrev nV:=@PySem.wpAny_rule
abbrev Ba:=@PySem.wpAny_pyNext_list_item
abbrev zA:=@List.length_pos_of_mem
abbrev zO:=@List.Perm.append_right
abbrev xG:=@Nat.lt_of_le_of_lt
abbrev yF:=@Nat.lt_of_le_of_ne
abbrev zg:=@List.getElem?_drop
abbrev DG:=@List.countP_eq_length_filter
abbrev pO:=@PySem.wpAny_field
abbrev rq:=@PySem.F.called_set
abbrev wH:=@PySem.wpAny_dictEpoch
abbrev At:=@List.perm_append_comm
abbrev wW:=@PySem.wpAny_pyIter_list
abbrev oO:=@beq_iff_eq
abbrev oo:=@PySem.call_meets
abbrev yu:=@Nat.le_succ_of_le
abbrev oI:=@PyProof.Rows.wpS_modify
abbrev zI:=@Array.toList_extract
abbrev BD:=@Array.toList_reverse
abbrev Ao:=@List.mem_erase_of_ne
abbrev D3:=@PySem.Calls.call_function_entry
abbrev wg:=@List.drop_zero
abbrev v0:=@PySem.wpAny_fieldsOf
abbrev yW:=@beq_self_eq_true
abbrev xE:=@PySem.wpAny_askSetting
abbrev zw:=@List.toList_toArray
abbrev AZ:=@Nat.add_lt_add_left
abbrev EY:=@PySem.wpAny_comprehension_free
abbrev Em:=@List.length_erase_of_mem
abbrev Dh:=@List.Pairwise.imp_of_mem
abbrev vY:=@PySem.wpAny_standAt
abbrev Aq:=@PySem.W.callWith_K
abbrev vk:=@List.any_cons
abbrev Bj:=@PySem.tupleKind_room_in1
abbrev vb:=@PySem.plainId_quiet
abbrev CY:=@PyProof.Rows.F.plain_set_update_loop
abbrev zd:=@PyProof.Rows.get?_update_seq
abbrev vS:=@PyProof.Rows.listUpdate_at
abbrev GN:=@List.flatten_replicate_singleton
abbrev BR:=@List.getElem?_set_self
abbrev EH:=@PySem.Calls.callWith_builtin
abbrev El:=@PySem.wpAny_isOneOf_itemiter
abbrev DN:=@Array.getElem?_eq_none
abbrev DD:=@List.filter_eq_nil_iff
abbrev CB:=@List.not_of_lt_findIdx
abbrev Aa:=@List.any_eq_false
abbrev AB:=@List.flatten_cons
abbrev Ip:=@PySem.F.args_dict_itemiterator_next_1
abbrev AT:=@Nat.le_of_lt_succ
abbrev zE:=@Array.size_append
abbrev EO:=@PySem.wpAny_pyNext_list_end
abbrev vU:=@PySem.wpAny_typeOf
abbrev wr:=@Nat.add_zero
abbrev Iu:=@PySem.F.entry_dict_itemiterator_next
abbrev Gk:=@PySem.F.args_dict_keyiterator_next_1
abbrev GO:=@PySem.F.args_dict_keyiterator_iter_1
abbrev CN:=@Array.mem_of_getElem?
abbrev wh:=@Nat.zero_add
abbrev AR:=@Nat.le_of_not_lt
abbrev AS:=@List.ext_getElem
abbrev Bz:=@List.any_eq_true
abbrev HJ:=@PySem.F.entry_dict_keyiterator_next
abbrev HE:=@PySem.F.entry_dict_keyiterator_iter
abbrev BB:=@Array.toList_map
abbrev AA:=@List.countP_cons
abbrev Cm:=@Array.mem_toList_iff
abbrev ER:=@Nat.le_sub_of_add_le
abbrev Cz:=@List.mem_of_mem_drop
abbrev zb:=@Int.ofNat.inj
abbrev y7:=@PySem.wpAny_newList
abbrev Gm:=@List.dropLast_concat_getLast
abbrev zp:=@Bool.true_and
abbrev zR:=@PySem.wpAny_execs_nil
abbrev DI:=@PySem.W.plainGet_of
abbrev Be:=@List.of_mem_zip
abbrev zu:=@List.nil_append
abbrev AL:=@PySem.F.slot_int_rmul
abbrev A0:=@PySem.size_of_entries
abbrev Ev:=@PySem.wpAny_raiseNew_none
abbrev Bd:=@PySem.wpAny_updateSeq
abbrev nq:=@PyProof.Rows.wpS_get
abbrev zC:=@List.range_succ
abbrev IN:=@PySem.Calls.Name_function_global
abbrev FR:=@Array.toList_setIfInBounds
abbrev Fm:=@List.nodup_iff_pairwise_ne
abbrev yT:=@Nat.lt_trans
abbrev Cg:=@Array.Perm.mem_iff
abbrev xz:=@Int.lt_trans
abbrev CH:=@List.getElem?_take
abbrev Bu:=@Bool.false_and
abbrev zT:=@List.take_take
abbrev CS:=@PySem.wpAny_assign_Name
abbrev CG:=@Option.isSome_map
abbrev BS:=@List.nodup_append
abbrev DK:=@PySem.noFill_tuple_add
abbrev C1:=@PySem.wpAny_forIn_list
abbrev A4:=@PySem.concat_meets
abbrev Bp:=@List.map_nil
abbrev CD:=@List.foldl_cons
abbrev Am:=@Nat.add_comm
abbrev E1:=@PySem.wpAny_specialOf
abbrev A9:=@Nat.sub_zero
abbrev EG:=@PySem.wpAny_ite_false
abbrev Dl:=@PySem.wpAny_ite_split
abbrev C9:=@PyProof.Rows.entry_list_sort
abbrev Bv:=@List.any_map
abbrev wc:=@ite_congr
abbrev CK:=@Array.Perm.refl
abbrev Ay:=@Nat.min_self
abbrev Ca:=@PyProof.Rows.boot_isinstance
abbrev wQ:=@PySem.wpAny_call
abbrev wP:=@PySem.typeIs_int
abbrev yq:=@PySem.intKind_is
abbrev uk:=@PyProof.Rows.wpS_lift
abbrev Bg:=@PySem.seqIndex_of
abbrev Ai:=@PySem.wpAny_of_eq
abbrev Bt:=@PySem.wpAny_alloc
abbrev BH:=@PyProof.Rows.seqEpoch_at
abbrev Ag:=@PyProof.Rows.boot_sorted
section
open PySem
abbrev iS:=List (List (List Nat))
abbrev LN:=List (List Nat)
abbrev cz:=List Nat
abbrev VP:=Value -> Shared -> Prop
abbrev AO:=List (Addr × Obj)
abbrev SV:=Str -> Option Value
abbrev As:=List Addr
abbrev Vs:=List Value
abbrev AV:=Array Value
abbrev Zs:=List Int
abbrev Ss:=List Str
abbrev Sh:=Shared
abbrev Vl:=Value
abbrev Pg:=Program
abbrev Fd:=FuncData
abbrev Ar:=Around
end
abbrev wA:=@if_neg
abbrev wB:=@if_pos
abbrev wC:=@absurd
abbrev wE:=@False.elim
open PySem in
abbrev Ad:=Addr
abbrev zZ:=@rfl
abbrev Q5:=PySem.W.Frag
namespace L2
open PySem PySem.Spec PyProof.Rows
abbrev dB:=Sum Int Str
def wI:dB->Vl->Bool
 | .inl k,v=>Value.isInt k v
 | .inr x,v=>Value.isStrOf x v
def B7(w:World):dB->Int
 | .inl k=>hashInt k
 | .inr x=>hashStr w x
theorem o0: ∀{k:dB} {v:Vl},wI k v=true->(∃i t,k=Sum.inl i/\v=Value.int i t)∨(∃x t,k=Sum.inr x/\v=Value.str x t)
 | .inl i,v,h=>by
  obtain⟨t,e⟩:=Value.isInt_shape (k:=i) (v:=v) h;exact .inl ⟨i,t,zZ,e⟩
 | .inr x,v,h=>by
  obtain⟨t,e⟩:=Value.isStrOf_shape (x:=x) (v:=v) h;exact .inr ⟨x,t,zZ,e⟩
def JI(i:Int)(t:Tok):wI (.inl i) (.int i t)=true:=by simp[wI,Value.isInt]
def N2(x:Str)(t:Tok):wI (.inr x) (.str x t)=true:=by simp[wI,Value.isStrOf]
def LS(a b:Int):decide ((Sum.inl a:dB)=Sum.inl b)=(a==b):=by
 by_cases e:a=b
 .subst e;simp
 .have h: ¬(Sum.inl a:dB)=Sum.inl b:=λq=>e (Sum.inl.inj q);rw[fy h];exact(pA.mpr e).symm
def N9(a b:Str):decide ((Sum.inr a:dB)=Sum.inr b)=decide (a=b):=by
 by_cases e:a=b
 .subst e;simp
 .have h: ¬(Sum.inr a:dB)=Sum.inr b:=λq=>e (Sum.inr.inj q);rw[fy h,fy e]
def Jw(a:Int)(b:Str):decide ((Sum.inl a:dB)=Sum.inr b)=false:=fy (λq=>nomatch q)
def Lh(a:Str)(b:Int):decide ((Sum.inr a:dB)=Sum.inl b)=false:=fy (λq=>nomatch q)
def l8(c:Pg)(w:World):PySem.KeyKind c w dB where
 is:=wI
 hash:=B7 w
 inj:=λv a b l g=>by
  rcases o0 l with⟨i,t,rfl,rfl⟩|⟨x,t,rfl,rfl⟩
  .rcases o0 g with⟨j,u,rfl,e⟩|⟨y,u,rfl,e⟩
   .injection e with d _;rw[d]
   .exact nomatch e
  .rcases o0 g with⟨j,u,rfl,e⟩|⟨y,u,rfl,e⟩
   .exact nomatch e
   .injection e with d _;rw[d]
 byValue:=λk v h=>by
  rcases o0 h with⟨i,t,rfl,rfl⟩|⟨x,t,rfl,rfl⟩<;>rfl
 pyHash:=λf h=>by
  rcases o0 f with⟨i,t,rfl,rfl⟩|⟨x,t,rfl,rfl⟩
  .exact wpAny_pyHash_int h
  .exact wpAny_pyHash_str h
 eqBool:=λm f h=>by
  rcases o0 m with⟨i,t,rfl,rfl⟩|⟨x,t,rfl,rfl⟩
  .rcases o0 f with⟨j,u,rfl,rfl⟩|⟨y,u,rfl,rfl⟩
   .rw[LS]at h;exact wpAny_eqBool_int h
   .rw[Jw]at h;exact SeqAt.EqAt.int_str i t y u _ _ _ _ h
  .rcases o0 f with⟨j,u,rfl,rfl⟩|⟨y,u,rfl,rfl⟩
   .rw[Lh]at h;exact SeqAt.EqAt.str_int x t j u _ _ _ _ h
   .rw[N9]at h;exact wpAny_eqBool_str h
 «strs»:=λk x t v h=>by
  rcases o0 h with⟨i,u,rfl,e⟩|⟨y,u,rfl,e⟩
  .exact nomatch e
  .injection e with d _
   subst d;cases v<;>rfl
def On(a:Pg)(w:World)(i:Int)(t:Tok):(l8 a w).is (.inl i) (.int i t)=true:=JI i t
def OV(a:Pg)(w:World)(x:Str)(t:Tok):(l8 a w).is (.inr x) (.str x t)=true:=N2 x t
inductive V where
 |non|bl (b:Bool)|int (i:Int)|str (x:Str)|byt (b:Array UInt8)|flt (b:UInt64)|ref (a:Ad)|ty (n:String)
 deriving DecidableEq
def RelV:V->Vl->Prop
 | .non,u=>u=Value.none
 | .bl b,u=>u=Value.bool b
 | .int i,u=> ∃t,u=Value.int i t
 | .str x,u=> ∃t,u=Value.str x t
 | .byt b,u=> ∃t,u=Value.bytes b t
 | .flt b,u=> ∃t,u=Value.float b t
 | .ref a,u=>u=Value.ref a
 | .ty n,u=>u=Value.type n
abbrev Vals:List V->List Vl->Prop:=Paired RelV
def Vals.length{xs:List V}{a:Vs}(r:Vals xs a):xs.length=a.length:=pB r
theorem Vals.get: ∀{a:List V} {b:Vs} {i:Nat} {x:V},Vals a b->a[i]? =some x-> ∃u,b[i]? =some u/\RelV x u
 |_,_,_,_,.nil,e=>by simp at e
 |_,_,0,_,.cons r _,e=>by simp at e;subst e;exact⟨_,zZ,r⟩
 |_,_,i+1,x,.cons _ t,e=>by
  obtain⟨u,c,d⟩:=Vals.get (i:=i) (x:=x) t (by simpa using e);exact⟨u,by simpa using c,d⟩
theorem Vals.set{x:V}{u:Vl}(r:RelV x u): ∀{a:List V} {b:Vs} (i:Nat),Vals a b->Vals (a.set i x) (b.set i u)
 |_,_,_,.nil=> .nil
 |_,_,0,.cons _ t=> .cons r t
 |_,_,i+1,.cons q t=> .cons q (Vals.set r i t)
theorem Vals.append: ∀{a b:List V} {c d:Vs},Vals a c->Vals b d->Vals (a++b) (c++d)
 |_,_,_,_,.nil,s=>s
 |_,_,_,_,.cons r t,s=> .cons r (Vals.append t s)
theorem Vals.take: ∀{a:List V} {b:Vs} (n:Nat),Vals a b->Vals (a.take n) (b.take n)
 |_,_,0,_=> .nil
 |_,_,_+1,.nil=> .nil
 |_,_,n+1,.cons r t=> .cons r (Vals.take n t)
theorem Vals.drop: ∀{a:List V} {b:Vs} (n:Nat),Vals a b->Vals (a.drop n) (b.drop n)
 |_,_,0,r=>r
 |_,_,_+1,.nil=> .nil
 |_,_,n+1,.cons _ t=>Vals.drop n t
def RelO:Option V->Option Vl->Prop
 |some v,some u=>RelV v u
 |none,none=>True
 |_,_=>False
def KV{a:Type}:List (a×V)->List (a×Vl)->Prop:=Paired λ(p:a×V) (q:a×Vl)=>p.1=q.1/\RelV p.2 q.2
def kV:dB->V
 | .inl i=> .int i
 | .inr x=> .str x
inductive HO where
 |lst (xs:List V)
 |tup (xs:List V)
 |dK (kvs:List (dB×V))|dT (kvs:List (List dB×V))
 |set (S:Int->Bool) (n:Nat)
 |ins (C dx:Ad) (fs:List (Str×V))
 |own (x:Ad)
 |xd (fs:List (Str×V))
 |met (f x:Ad)
 |rng (lo hi:Int)
 |frz (o:Obj) (u:HO)
 |tbl (ps:AV)
 |ext (φ:Heap->Prop)
abbrev Hp:=Ad->Option HO
def cA(H:Hp)(a:Ad)(o:HO):Hp:=λb=>if b=a then some o else H b
def cF{H:Hp}{a:Ad}{o:HO}:cA H a o a=some o:=by unfold cA;rw[wB zZ]
def cK{H:Hp}{a b:Ad}{o:HO}(h:b≠a):cA H a o b=H b:=by unfold cA;rw[wA h]
def JH{H:Hp}{a:Ad}{o u:HO}:cA (cA H a o) a u=cA H a u:=by
 funext b;unfold cA;split<;>rfl
def kh{H:Hp}{a b:Ad}{o u:HO}(h:H a=some o)(c:H b=some u)(d:o≠u):a≠b:=by
 intro e;subst e;rw[h]at c;exact d (gD c)
def II:HO->Nat
 | .lst _=>0
 | .tup _=>1
 | .dK _=>2
 | .dT _=>3
 | .tbl _=>4
 | .ext _=>5
 | .rng _ _=>6
 | .frz _ _=>7
 |_=>8
def nE{H:Hp}{a b:Ad}{o u:HO}(h:H a=some o)(k:H b=some u)(d:(II o==II u)=false:=by rfl):a≠b:=kh h k λe=>by rw[e,yW]at d;cases d
def dU{H:Hp}{a b:Ad}{o:HO}(h:H a=some o)(c:H b=none):a≠b:=by
 intro e;subst e;rw[h]at c;cases c
def TupD(h:Heap)(a:Ad)(b:AV):Prop:= ∃o,h.get? a=some o/\o.cls= .type "tuple"/\ ∃n,o.data= .seq b n/\o.dict=none
def TupD.is{h:Heap}{a:Ad}{b:AV}(p:TupD h a b):IsTup h a b:=let⟨o,e,c,n,d,_⟩:=p;⟨o,e,c,n,d⟩
def TupD.new(h:Heap)(a:AV):TupD (h.push {cls:= .type "tuple",data:= .seq a}) h.objs.size a:=⟨_,fj _ zZ,zZ,_,zZ,zZ⟩
section
variable(P:Pg)(w:World)
def ObjOk(H:Hp)(h:Heap)(a:Ad):HO->Prop
 | .lst d=>d.length<=sizeLine/\ ∃(b:Vs) (n:Nat),Vals d b/\h.get? a=some {cls:= .type "list",data:= .seq b.toArray n}
 | .tup d=>d.length<=sizeLine/\ ∃b:Vs,Vals d b/\TupD h a b.toArray
 | .dK c=>c.length<=sizeLine/\(a==sysModules)=false/\ ∃j,KV c j/\h.DictOf (l8 P w) a j
 | .dT c=>c.length<=sizeLine/\(a==sysModules)=false/\ ∃d:List (List dB×Ad×Vl),
   Paired (λ(p:List dB×V) (q:List dB×Ad×Vl)=>p.1=q.1/\H q.2.1=some (.tup (p.1.map kV))/\RelV p.2 q.2.2) c d/\
   ∃o k r,h.get? a=some o/\o.ExactDict/\o.data= .dict k r/\k.toList=d.map (entryOfKey (tupleKind (l8 P w)))/\(d.map (·.1)).Nodup
 | .set S n=>h.SetOf (intKind P w) a S n
 | .ins C g fs=>H g=some (.own a)/\fs.length<=1000/\g≠a/\h.get? a=some (PySem.W.instObj C g)/\
   ∃e,h.Ns1 g e/\(∀f,RelO (fs.lookup f) (e f))/\PySem.Within e (fs.map (·.1))
 | .own _=> ∃o,h.get? a=some o
 | .xd fs=> ∃e,h.Ns1 a e/\ ∀f,RelO (fs.lookup f) (e f)
 | .rng lo s=> ∃t u v,h.get? a=some {cls:= .type "range",data:= .fields #[.int lo t,.int s u,.int 1 v]}
 | .frz o u=>h.get? a=some o/\ObjOk H h a u
 | .tbl y=>h.get? a=some {cls:= .none,data:= .fields y}
 | .met f x=>h.get? a=some (PySem.W.methodObj (.ref f) (.ref x))
 | .ext i=>i h/\(∃o,h.get? a=some o)/\ ∀l m:Heap,i l->(∀o,l.get? a=some o->m.get? a=some o)->i m
def HOk(H:Hp)(h:Heap):Prop:= ∀a o,H a=some o->ObjOk P w H h a o
end
section
variable{P:Pg}{w:World}{H H':Hp}{h h':Heap}{a:Ad}{o:HO}
def ObjOk.lt(x:ObjOk P w H h a o):a<h.objs.size:=by
 cases o with
 |lst xs=>obtain⟨_,_,_,_,e⟩:=x;exact dq e
 |tup xs=>obtain⟨_,_,_,p⟩:=x;exact p.is.lt
 |dK b=>obtain⟨_,_,_,_,o,_,_,e,_⟩:=x;exact dq e
 |dT b=>obtain⟨_,_,_,_,o,_,_,e,_⟩:=x;exact dq e
 |set S n=>obtain⟨o,_,_,_,e,_⟩:=x;exact dq e
 |ins C c fs=>obtain⟨_,_,_,e,_⟩:=x;exact dq e
 |own y=>obtain⟨_,e⟩:=x;exact dq e
 |xd fs=>obtain⟨_,⟨_,_,_,e,_⟩,_⟩:=x;exact dq e
 |rng lo d=>obtain⟨_,_,_,e⟩:=x;exact dq e
 |frz g u=>obtain⟨e,_⟩:=x;exact dq e
 |tbl i=>exact dq (show h.get? a=some _ from x)
 |met f y=>exact dq (show h.get? a=some _ from x)
 |ext j=>obtain⟨_,⟨_,e⟩,_⟩:=x;exact dq e
theorem Paired.mapP{e g:Type}{F G:e->g->Prop}: ∀{c:List e} {d:List g},Paired F c d->(∀a b,F a b->G a b)->Paired G c d
 |_,_,.nil,_=> .nil
 |_,_,.cons r t,f=> .cons (f _ _ r) (Paired.mapP t f)
def ObjOk.stay(x:ObjOk P w H h a o)(k: ∀b u,(b=a∨H b=some (.own a))->h.get? b=some u->h'.get? b=some u)
  (E: ∀b,H b=some (.own a)->H' b=some (.own a)) (ht: ∀b m,H b=some (.tup m)->H' b=some (.tup m)):ObjOk P w H' h' a o:=by
 induction o with
 |lst m=>obtain⟨z,l,n,r,e⟩:=x;exact⟨z,l,n,r,k _ _ (.inl zZ) e⟩
 |tup m=>obtain⟨z,l,r,g,e,c⟩:=x;exact⟨z,l,r,g,k _ _ (.inl zZ) e,c⟩
 |dK s=>obtain⟨z,y,G,r,g,i,j,e,c⟩:=x;exact⟨z,y,G,r,g,i,j,k _ _ (.inl zZ) e,c⟩
 |dT s=>
  obtain⟨z,y,m,r,g,i,j,e,c⟩:=x;exact⟨z,y,m,Paired.mapP r λp q z=>⟨z.1,ht _ _ z.2.1,z.2.2⟩,g,i,j,k _ _ (.inl zZ) e,c⟩
 |set S n=>obtain⟨g,i,j,t,e,c⟩:=x;exact⟨g,i,j,t,k _ _ (.inl zZ) e,c⟩
 |ins C M fs=>
  obtain⟨d,z,I,e,A,⟨B,i,j,J,c⟩,r⟩:=x;exact⟨E _ d,z,I,k _ _ (.inl zZ) e,A,⟨B,i,j,k _ _ (.inr d) J,c⟩,r⟩
 |own y=>obtain⟨g,e⟩:=x;exact⟨g,k _ _ (.inl zZ) e⟩
 |xd fs=>obtain⟨A,⟨B,i,j,e,c⟩,r⟩:=x;exact⟨A,⟨B,i,j,k _ _ (.inl zZ) e,c⟩,r⟩
 |rng lo N=>obtain⟨t,u,v,e⟩:=x;exact⟨t,u,v,k _ _ (.inl zZ) e⟩
 |frz g u L=>obtain⟨e,q⟩:=x;exact⟨k _ _ (.inl zZ) e,L q⟩
 |tbl D=>
  have e:h.get? a=some {cls:= .none,data:= .fields D}:=x;show h'.get? a=some {cls:= .none,data:= .fields D};exact k a _ (.inl zZ) e
 |met f y=>
  have e:h.get? a=some (PySem.W.methodObj (.ref f) (.ref y)):=x;show h'.get? a=some (PySem.W.methodObj (.ref f) (.ref y));exact k a _ (.inl zZ) e
 |ext O=>obtain⟨p,⟨o,e⟩,st⟩:=x;exact⟨st _ _ p λo q=>k _ _ (.inl zZ) q,⟨o,k _ _ (.inl zZ) e⟩,st⟩
def HOk.lt(x:HOk P w H h)(e:H a=some o):a<h.objs.size:=(x a o e).lt
def HOk.fresh(x:HOk P w H h)(e:h.objs.size<=a):H a=none:=by
 cases q:H a with
 |none=>rfl
 |some u=>exact wC (gh (x.lt q) e) (me _)
def HOk.kept(x:HOk P w H h)(k: ∀b u,h.get? b=some u->h'.get? b=some u):HOk P w H h':=λa o e=>
 (x a o e).stay (λb u _ q=>k b u q) (λ_ q=>q) λ_ _ q=>q
def HOk.laid(x:HOk P w H h)(k: ∀b u,h.get? b=some u->h'.get? b=some u)(g:h.objs.size<=a)(new:ObjOk P w (cA H a o) h' a o):HOk P w (cA H a o) h':=λb u e=>by
 have d:=x.fresh g;by_cases f:b=a
 .subst f;rw[cF]at e;cases e;exact new
 .rw[cK f]at e;exact(x b u e).stay (λc v _ q=>k c v q) (λc q=>by rw[cK (dU q d)];exact q) λc i q=>by rw[cK (dU q d)];exact q
end
def Rd(H:Hp)(a:Ad)(u:HO):Prop:=H a=some u∨ ∃o,H a=some (.frz o u)
def Rd.ok{P:Pg}{w:World}{H:Hp}{h:Heap}{a:Ad}{u:HO}(r:Rd H a u)(x:HOk P w H h):ObjOk P w H h a u:=by
 rcases r with r|⟨o,r⟩
 .exact x a u r
 .obtain⟨_,q⟩:=x a _ r;exact q
def xK:Option HO->Prop
 |some (.lst _)=>True
 |some (.dK _)=>True
 |some (.dT _)=>True
 |some (.set _ _)=>True
 |some (.ins _ _ _)=>True
 |some (.ext _)=>True
 |_=>False
section
variable{P:Pg}{w:World}{H:Hp}{h h':Heap}{x e:Ad}{a:HO}
def HOk.write(ok:HOk P w H h)(i:xK (H x))(n:e=x∨H e=some (.own x))(k: ∀b u,b≠e->h.get? b=some u->h'.get? b=some u)(m: ∃u,h'.get? e=some u)
  (new:ObjOk P w (cA H x a) h' x a):HOk P w (cA H x a) h':=λb u q=>by
 have f: ∀c y,H c=some (.own y)->c≠x:=λc y r z=>by subst z;rw[r]at i;exact i
 have g: ∀c j,H c=some (.tup j)->c≠x:=λc j r z=>by subst z;rw[r]at i;exact i
 by_cases l:b=x
 .subst l;rw[cF]at q;cases q;exact new
 .rw[cK l]at q;by_cases d:b=e
  .have o:H b=some (.own x):=by
    rcases n with z|z
    .exact wC (d.trans z) l
    .rw[d];exact z
   rw[q]at o;cases o;obtain⟨v,p⟩:=m;exact⟨v,by rw[d];exact p⟩
  .refine(ok b u q).stay (λc v hc r=>k c v ?_ r) (λc r=>by rw[cK (f c b r)];exact r) λc j r=>by rw[cK (g c j r)];exact r
   rcases hc with rfl|hc
   .exact d
   .rintro rfl
    rcases n with z|z
    .exact f c b hc z
    .rw[hc]at z;cases z;exact l rfl
end
structure Un(fs ex:As)(H H':Hp)(h h':Heap):Prop where
 keep: ∀b o,h.get? b=some o->H b=none->b∉fs->b∉ex->h'.get? b=some o
 slot: ∀b o,h.get? b=some o->H b=none->b∈fs->b∉ex-> ∃sl,h'.get? b=some {o with slots:=sl}
 free: ∀b o,h.get? b=some o->H b=none->b∉ex->H' b=none
 there: ∀b o,h.get? b=some o->b∉ex-> ∃o',h'.get? b=some o'
 tups: ∀b xs,H b=some (.tup xs)->H' b=some (.tup xs)
 frzs: ∀b o u,H b=some (.frz o u)->H' b=some (.frz o u)
 tbls: ∀b ps,H b=some (.tbl ps)-> ∃more,H' b=some (.tbl (ps++more))
section
variable{fs i c f:As}{H g l:Hp}{h d j h':Heap}{a x e:Ad}{o:HO}
def Un.any(u:Un fs c H g h d){b:Ad}{ob:Obj}(q:h.get? b=some ob)(n:H b=none)(k:b∉c): ∃sl,d.get? b=some {ob with slots:=sl}:=by
 by_cases m:b∈fs
 .exact u.slot b ob q n m k
 .exact⟨ob.slots,u.keep b ob q n m k⟩
def Un.kept(k: ∀b u,h.get? b=some u->h'.get? b=some u):Un fs c H H h h':=
 ⟨λb m q _ _ _=>k b m q,λb m q _ _ _=>⟨m.slots,k b m q⟩,λ_ _ _ n _=>n,λb m q _=>⟨m,k b m q⟩,λ_ _ q=>q,λ_ _ _ q=>q,λ_ p q=>⟨#[],by rw[q];simp⟩⟩
def Un.refl:Un fs c H H h h:=Un.kept λ_ _ q=>q
def Un.laid(k: ∀b u,h.get? b=some u->h'.get? b=some u)(p:h.objs.size<=a)(m:H a=none):Un fs c H (cA H a o) h h' where
 keep:=λb u q _ _ _=>k b u q
 slot:=λb u q _ _ _=>⟨u.slots,k b u q⟩
 free:=λb u q n _=>by rw[cK (d9 (gh (dq q) p))];exact n
 there:=λb u q _=>⟨u,k b u q⟩
 tups:=λb r q=>by rw[cK (dU q m)];exact q
 frzs:=λb u r q=>by rw[cK (dU q m)];exact q
 tbls:=λb s q=>⟨#[],by rw[cK (dU q m),q];simp⟩
def Un.write(p:xK (H x))(y:e=x∨H e=some (.own x))(k: ∀b u,b≠e->h.get? b=some u->h'.get? b=some u)(s: ∃u,h'.get? e=some u):Un fs c H (cA H x o) h h':=by
 have v: ∀b,H b=none->b≠x:=λb n z=>by subst z;rw[n]at p;exact p
 have w: ∀b,H b=none->b≠e:=λb n z=>by
  subst z
  rcases y with r|r
  .exact v b n r
  .rw[n]at r;cases r
 have t: ∀b u,H b=some u-> ¬xK (some u)->b≠x:=λb u q A z=>by subst z;rw[q]at p;exact A p
 refine⟨λb u q n _ _=>k b u (w b n) q,λb u q n _ _=>⟨u.slots,k b u (w b n) q⟩,λb u q n _=>by rw[cK (v b n)];exact n,λb u q _=>?_,
  λb B q=>by rw[cK (t b _ q λz=>z)];exact q,λb u B q=>by rw[cK (t b _ q λz=>z)];exact q,λb C q=>⟨#[],by rw[cK (t b _ q λz=>z),q];simp⟩⟩
 by_cases m:b=e
 .subst m;exact s
 .exact⟨u,k b u m q⟩
end
def Bq(h:Heap)(H:Hp):As:=(List.range h.objs.size).filter λa=>(H a).isSome
def pH(h:Heap)(H:Hp):Heap:=PySem.W.hideAll h (Bq h H)
def MQ(h:Heap)(H:Hp):(pH h H).objs.size=h.objs.size:=PySem.W.hideAll_size _ _
def Dp{h:Heap}{H:Hp}{b:Ad}{o:Obj}(e:h.get? b=some o)(n:H b=none):(pH h H).get? b=some o:=
 PySem.W.hideAll_get _ e λa=>by
  have q:(H b).isSome=true:=(dP.mp a).2;rw[n]at q;simp at q
def OR{h:Heap}{H:Hp}{b:Ad}{o:Obj}(e:(pH h H).get? b=some o):h.get? b=some o/\H b=none:=by
 have a:h.get? b=some o:=PySem.W.of_hideAll (Bq h H) e;refine⟨a,?_⟩;cases q:H b with
 |none=>rfl
 |some x=>
  have c:b∈Bq h H:=dP.mpr ⟨f'.mpr (dq a),by simp[q]⟩;have z:(pH h H).get? b=none:=PySem.W.hideAll_none (Bq h H) c;rw[z]at e;cases e
def Kb(g h:Heap)(L:Ad):AO:=(List.range h.objs.size).filterMap λa=>if a=L∨(g.get? a).isSome=true then none else(h.get? a).map λo=>(a,o)
def rest(g h:Heap)(L d:Ad):AO:=(Kb g h L).filter λp=>decide (p.1≠d)
structure Mod(K:Q5)(mg:SV)(base:Heap):Prop where
 kin:K.In base
 glob:base.Ns mainGlobals mg
 blt: ∃mb,base.Ns builtinsNs mb/\ ∀x:Str,x≠"__name__"->mb x=bootBuiltins x
 nolimit:base.NoLimit
structure Cx where
 prog:Pg
 w:World
 K:Q5
 mg:SV
 base:Heap
 A:Ar
 N:Ss
 s₀:Sh
 H₀:Hp
 env:Env
 outer:List Env
 stack:List Env
 ex:As
 fn:Str->Bool
 calm:Bool
 pn:AO
 xe:VP
def kq(l:List Env):As:=l.filterMap (·.frame)
abbrev Cx.fs(X:Cx):As:=kq X.outer
def Bh(a:Scope)(x:Str):Prop:=a.names.lookup x=some .local∨a.names.lookup x=some .cell∨a.names.lookup x=some .free
def xS(a:Scope)(x:Str):Prop:=a.names.lookup x=some .local∨a.names.lookup x=some .cell
def BQ(a:Env)(h:Heap)(m:SV)(x:Str)(u:Vl):Prop:=
 (a.kindOf x=some .local/\m x=some u)∨((a.kindOf x=some .cell∨a.kindOf x=some .free)/\ ∃c,a.cells.lookup x=some c/\h.IsCell c (some u))
structure Cx.Ok(X:Cx):Prop where
 mod:Mod X.K X.mg X.base
 kind:X.env.scope.kind= .function
 glob:X.env.globals=mainGlobals
 blt:X.env.builtins=builtinsNs
 above:X.s₀.heap.objs.size<=X.env.locals
 inj: ∀x y c,X.env.cells.lookup x=some c->X.env.cells.lookup y=some c->x=y
 has: ∀x,(X.env.kindOf x=some .cell∨X.env.kindOf x=some .free)-> ∃c,X.env.cells.lookup x=some c
 cab: ∀x c,X.fn x=true->X.env.cells.lookup x=some c->X.s₀.heap.objs.size<=c
 hd:X.calm=true->X.A.handled=none
 frames:X.A.frames=some X.stack
 stk:X.stack=X.outer∨(X.stack=X.env::X.outer/\X.env.frame=some X.env.locals)
 exf: ∀b∈X.ex,b≠X.env.locals/\ ∀x c,X.env.cells.lookup x=some c->c≠b
 bs: ∀b o,X.base.get? b=some o->X.s₀.heap.get? b=some o/\X.H₀ b=none
 bsz:X.base.objs.size<=X.s₀.heap.objs.size
 noex: ∀b o,X.base.get? b=some o->b∉X.ex
 exfs: ∀b∈X.ex,b∉X.fs
 funs:X.s₀.heap.FunFrames X.base X.outer
 frf: ∀b∈X.fs,X.H₀ b=none
structure Inv(X:Cx)(za:AO)(σ:List (Option V))(H:Hp)(s:Sh):Prop where
 ok:X.Ok
 os:s.os=X.s₀.os
 bare:AllBare s.gens
 base:Un X.fs X.ex X.H₀ H X.s₀.heap s.heap
 loc: ∃m,s.heap.Ns X.env.locals m/\ ∀(i:Nat) (x:Str) (v:V),X.N[i]? =some x->σ[i]? =some (some v)->Bh X.env.scope x-> ∃u,RelV v u/\BQ X.env s.heap m x u
 cell: ∀x c,X.env.cells.lookup x=some c-> ∃v,s.heap.IsCell c v
 free:H X.env.locals=none
 freeC: ∀x c,X.env.cells.lookup x=some c->H c=none
 pin: ∀p∈X.pn++za,s.heap.get? p.1=some p.2/\H p.1=none/\p.1≠X.env.locals/\p.1∉X.fs/\ ∀v,p.2.data≠ .cell v
 hok:HOk X.prog X.w H s.heap
 len:σ.length=X.N.length
section
variable{X:Cx}{f:AO}{g:List (Option V)}{H H':Hp}{s:Sh}{h':Heap}
def Cx.Ok.nofr(ok:X.Ok){b:Ad}{o:Obj}(e:X.base.get? b=some o):b∉X.fs:=λa=>by
 have:=(ok.funs.mem a).1;rw[e]at this;cases this
def Inv.bs(I:Inv X f g H s): ∀b o,X.base.get? b=some o->s.heap.get? b=some o/\H b=none:=λb o e=>
 ⟨I.base.keep b o (I.ok.bs b o e).1 (I.ok.bs b o e).2 (I.ok.nofr e) (I.ok.noex b o e),I.base.free b o (I.ok.bs b o e).1 (I.ok.bs b o e).2 (I.ok.noex b o e)⟩
def Inv.bk(I:Inv X f g H s): ∀b o,X.base.get? b=some o->s.heap.get? b=some o:=λb o e=>(I.bs b o e).1
def Inv.mod(I:Inv X f g H s):Mod X.K X.mg X.base:=I.ok.mod
def Inv.kIn(I:Inv X f g H s):X.K.In s.heap:=I.ok.mod.kin.keeps I.bk
def Inv.lt(I:Inv X f g H s):X.env.locals<s.heap.objs.size:=let⟨_,a,_⟩:=I.loc;a.lt
def Inv.sz(I:Inv X f g H s):X.s₀.heap.objs.size<=s.heap.objs.size:=dL I.ok.above (fQ I.lt)
def Inv.nofs(I:Inv X f g H s){a:Ad}(h:s.heap.objs.size<=a):a∉X.fs:=λb=>by
 obtain⟨_,o,c,_⟩:=I.ok.funs.mem b;exact wC (gh (dq c) (dL I.sz h)) (me _)
def Inv.cne(I:Inv X f g H s): ∀x c,X.env.cells.lookup x=some c->c≠X.env.locals:=λx c e z=>by
 obtain⟨v,o,d,h⟩:=I.cell x c e;obtain⟨m,⟨i,j,k,a,b,_⟩,_⟩:=I.loc;rw[z,a]at d;cases d;rw[b]at h;cases h
def Inv.funs(I:Inv X f g H s):s.heap.FunFrames X.base X.outer:=by
 have all: ∀(l:List Env),(∀b∈kq l,b∈X.fs)->X.s₀.heap.FunFrames X.base l->s.heap.FunFrames X.base l:=by
  intro l
  induction l with
  |nil=>intro _ _;trivial
  |cons i r j=>
   intro h k;obtain⟨m,⟨L,o,a,n,p,q⟩,t⟩:=k;have c:L∈X.fs:=h L (by unfold kq;rw[List.filterMap_cons,a];exact List.mem_cons_self);obtain⟨sl,e⟩:=I.base.slot L o p (I.ok.frf L c) c λz=>I.ok.exfs L z c
   exact⟨m,⟨L,_,a,n,e,q⟩,j (λb d=>h b (by unfold kq;rw[List.filterMap_cons,a];exact List.mem_cons_of_mem _ d)) t⟩
 exact all X.outer (λ_ d=>d) I.ok.funs
def Inv.stack(I:Inv X f g H s):s.heap.FunFrames X.base X.stack:=by
 rcases I.ok.stk with e|⟨e,a⟩
 .rw[e];exact I.funs
 .rw[e];obtain⟨m,b,_⟩:=I.loc;refine .cons (by rw[I.ok.kind];decide) a b ?_ I.funs;exact Heap.get?_none_of_le (dL I.ok.bsz I.ok.above)
def Inv.stkSub(I:Inv X f g H s): ∀b∈kq X.stack,b∈X.env.locals::X.fs:=λb a=>by
 rcases I.ok.stk with e|⟨e,c⟩
 .rw[e]at a;exact fR _ a
 .rw[e]at a;unfold kq at a;rw[List.filterMap_cons,c]at a;exact a
def Inv.stkFree(I:Inv X f g H s): ∀b∈kq X.stack,H b=none:=λb hb=>by
 rcases dZ.mp (I.stkSub b hb)with e|hb
 .rw[e];exact I.free
 .obtain⟨_,o,a,_⟩:=I.ok.funs.mem hb;exact I.base.free b o a (I.ok.frf b hb) λz=>I.ok.exfs b z hb
def Inv.step{g':Array GenState}{t':Nat}{d':Drawn}{ch:As}(I:Inv X f g H s)
  (h: ∀b∈ch,(b∈X.ex∨X.s₀.heap.objs.size<=b)/\b≠X.env.locals/\(∀x c,X.env.cells.lookup x=some c->c≠b)/\ ∀p∈X.pn++f,p.1≠b)
  (keep: ∀b o,b≠X.env.locals->b∉X.fs->b∉ch->s.heap.get? b=some o->H b=none->h'.get? b=some o)
  (A: ∀b o,b≠X.env.locals->b∈X.fs->b∉ch->s.heap.get? b=some o->H b=none-> ∃sl,h'.get? b=some {o with slots:=sl}) (free: ∀b o,b∉ch->s.heap.get? b=some o->H b=none->H' b=none)
  (C: ∀b o,b∉ch->s.heap.get? b=some o-> ∃G,h'.get? b=some G)
  (tups: ∀b B,H b=some (.tup B)->H' b=some (.tup B)) (J: ∀b o u,H b=some (.frz o u)->H' b=some (.frz o u)) (L: ∀b O,H b=some (.tbl O)-> ∃more,H' b=some (.tbl (O++more)))
  (ns: ∀m,s.heap.Ns X.env.locals m->h'.Ns X.env.locals m) (Q:HOk X.prog X.w H' h') (hg:AllBare g'):
  Inv X f g H' {s with heap:=h',gens:=g',drawn:=d',toks:=t'}:=by
 have M: ∀b o,X.s₀.heap.get? b=some o->b≠X.env.locals:=λb o e=>d9 (gh (dq e) I.ok.above);have w: ∀b o,X.s₀.heap.get? b=some o->b∉X.ex->b∉ch:=λb o e a D=>by
  rcases (h b D).1 with z|z
  .exact a z
  .exact wC (gh (dq e) z) (me _)
 have j: ∀x c,X.env.cells.lookup x=some c-> ∀v,s.heap.IsCell c v->h'.IsCell c v:=λx c e v ⟨o,E,T⟩=>by
  have t:c∉ch:=λz=>(h c z).2.2.1 x c e rfl;by_cases Y:c∈X.fs
  .obtain⟨sl,q⟩:=A c o (I.cne x c e) Y t E (I.freeC x c e);exact⟨_,q,T⟩
  .exact⟨o,keep c o (I.cne x c e) Y t E (I.freeC x c e),T⟩
 refine⟨I.ok,I.os,hg,⟨λb o e n D a=>?_,λb o e n D a=>?_,λb o e n a=>?_,λb o e a=>?_,λb B e=>tups b B (I.base.tups b B e),λb o B e=>J b o B (I.base.frzs b o B e),λb O e=>?_⟩,?_,λx c e=>?_,?_,λx c e=>?_,λp hp=>?_,Q,I.len⟩
 .exact keep b o (M b o e) D (w b o e a) (I.base.keep b o e n D a) (I.base.free b o e n a)
 .obtain⟨sl,y⟩:=I.base.slot b o e n D a;obtain⟨U,N⟩:=A b _ (M b o e) D (w b o e a) y (I.base.free b o e n a);exact⟨U,N⟩
 .obtain⟨G,y⟩:=I.base.there b o e a;exact free b G (w b o e a) y (I.base.free b o e n a)
 .obtain⟨G,y⟩:=I.base.there b o e a;exact C b G (w b o e a) y
 .obtain⟨m1,y⟩:=I.base.tbls b O e;obtain⟨m2,N⟩:=L b _ y;exact⟨m1++m2,by rw[N,Array.append_assoc]⟩
 .obtain⟨m,hn,hl⟩:=I.loc;refine⟨m,ns m hn,λi x v y N e3=>?_⟩;obtain⟨u,r,l⟩:=hl i x v y N e3;refine⟨u,r,?_⟩
  rcases l with l|⟨k,c,e,z⟩
  .exact .inl l
  .exact .inr ⟨k,c,e,j x c e _ z⟩
 .obtain⟨v,z⟩:=I.cell x c e;exact⟨v,j x c e v z⟩
 .obtain⟨m,⟨o,_,_,E,_⟩,_⟩:=I.loc;exact free _ o (λz=>(h _ z).2.1 zZ) E I.free
 .obtain⟨v,o,E,T⟩:=I.cell x c e;exact free c o (λz=>(h c z).2.2.1 x c e zZ) E (I.freeC x c e)
 .obtain⟨e,n,ne,nf,d⟩:=I.pin p hp;have t:p.1∉ch:=λz=>(h p.1 z).2.2.2 p hp rfl;exact⟨keep p.1 p.2 ne nf t e n,free p.1 p.2 t e n,ne,nf,d⟩
def Inv.un{t':Nat}(I:Inv X f g H s)(u:Un X.fs [] H H' s.heap h')(c:HOk X.prog X.w H' h'):Inv X f g H' {s with heap:=h',toks:=t'}:=by
 obtain⟨m,⟨o,q,t,j,r⟩,_⟩:=id I.loc;obtain⟨sl,k⟩:=u.any j I.free (by simp);exact I.step (g':=s.gens) (d':=s.drawn) (ch:=[]) (λ_ z=>nomatch z) (λb o _ d _ e n=>u.keep b o e n d (by simp)) (λb o _ d _ e n=>u.slot b o e n d (by simp)) (λb o _ e n=>u.free b o e n (by simp)) (λb o _ e=>u.there b o e (by simp)) u.tups u.frzs u.tbls (λv l=>by
  obtain⟨w,h,i,a,p⟩:=l;rw[j]at a;cases a;exact⟨_,h,i,k,p⟩) c I.bare
def Inv.call{g':Array GenState}{t':Nat}{d':Drawn}{ch:As}(I:Inv X f g H s)(u:Un (kq X.stack) ch H H' s.heap h')(i:HOk X.prog X.w H' h')(t:AllBare g')
  (d: ∀b∈ch,(b∈X.ex∨X.s₀.heap.objs.size<=b)/\b≠X.env.locals/\(∀x c,X.env.cells.lookup x=some c->c≠b)/\ ∀p∈X.pn++f,p.1≠b):
  Inv X f g H' {s with heap:=h',gens:=g',drawn:=d',toks:=t'}:=by
 obtain⟨m,⟨o,A,B,q,r⟩,_⟩:=id I.loc;obtain⟨sl,j⟩:=u.any q I.free λz=>(d _ z).2.1 rfl;exact I.step (ch:=ch) d (λb o j v a e n=>u.keep b o e n (λz=>(dZ.mp (I.stkSub b z)).elim j v) a) (λb o _ _ a e n=>u.any e n a) (λb o a e n=>u.free b o e n a) (λb o a e=>u.there b o e a) u.tups u.frzs u.tbls (λC w=>by
  obtain⟨D,k,l,h,y⟩:=w;rw[q]at h;cases h;exact⟨_,k,l,j,y⟩) i t
def Inv.turned{t':Nat}{it:Ad}(I:Inv X f g H s)(k: ∀b o,b≠it->s.heap.get? b=some o->h'.get? b=some o)(i:H it=none)(h:it≠X.env.locals)
  (j:it∈X.ex∨X.s₀.heap.objs.size<=it) (l: ∀x c,X.env.cells.lookup x=some c->c≠it) (t: ∀p∈X.pn++f,p.1≠it):Inv X f g H {s with heap:=h',toks:=t'}:=by
 have d: ∀b u,H b=some u->b≠it:=λb u e z=>by rw[z,i]at e;cases e
 refine I.step (g':=s.gens) (d':=s.drawn) (ch:=[it]) (λb w=>?_) (λb o _ _ a e _=>k b o (λz=>a (by simp[z])) e) (λb o _ _ a e _=>⟨o.slots,k b o (λz=>a (by simp[z])) e⟩) (λ_ _ _ _ n=>n)
  (λb o a e=>⟨o,k b o (λz=>a (by simp[z])) e⟩) (λ_ _ e=>e) (λ_ _ _ e=>e) (λb D e=>⟨#[],by rw[e];simp⟩) (λm y=>?_) (λb u e=>?_) I.bare
 .have e:b=it:=by simpa using w
  subst e;exact⟨j,h,l,t⟩
 .obtain⟨o,A,B,C,r⟩:=y;exact⟨o,A,B,k _ o (fh h) C,r⟩
 .refine(I.hok b u e).stay (λc v a q=>k c v ?_ q) (λ_ q=>q) λ_ _ q=>q
  rcases a with z|z
  .rw[z];exact d b u e
  .exact d c _ z
def Inv.tok(I:Inv X f g H s)(t:Nat):Inv X f g H {s with toks:=t}:=I.un (h':=s.heap) (t':=t) Un.refl I.hok
def Inv.kept{t':Nat}(I:Inv X f g H s)(k: ∀b u,s.heap.get? b=some u->h'.get? b=some u):Inv X f g H {s with heap:=h',toks:=t'}:=I.un (Un.kept k) (I.hok.kept k)
def Inv.laid{a:Ad}{o:HO}{t':Nat}(I:Inv X f g H s)(k: ∀b u,s.heap.get? b=some u->h'.get? b=some u)(c:s.heap.objs.size<=a)(new:ObjOk X.prog X.w (cA H a o) h' a o):
  Inv X f g (cA H a o) {s with heap:=h',toks:=t'}:=I.un (Un.laid k c (I.hok.fresh c)) (I.hok.laid k c new)
def Inv.write{x e:Ad}{o:HO}{t':Nat}(I:Inv X f g H s)(c:xK (H x))(d:e=x∨H e=some (.own x))(k: ∀b u,b≠e->s.heap.get? b=some u->h'.get? b=some u)(a: ∃u,h'.get? e=some u)
  (new:ObjOk X.prog X.w (cA H x o) h' x o):Inv X f g (cA H x o) {s with heap:=h',toks:=t'}:=I.un (Un.write c d k a) (I.hok.write c d k a new)
def Inv.weak{a:List (Option V)}(I:Inv X f g H s)(c:a.length=g.length)(w: ∀(i:Nat) v,a[i]? =some (some v)->g[i]? =some (some v)):Inv X f a H s:=
 ⟨I.ok,I.os,I.bare,I.base,let⟨m,d,b⟩:=I.loc;⟨m,d,λi x v e h j=>b i x v e (w i v h) j⟩,I.cell,I.free,I.freeC,I.pin,I.hok,c.trans I.len⟩
def Inv.pins_of{a:AO}(I:Inv X f g H s)(h: ∀p∈a,s.heap.get? p.1=some p.2/\H p.1=none/\p.1≠X.env.locals/\p.1∉X.fs/\ ∀v,p.2.data≠ .cell v):Inv X a g H s:=
 ⟨I.ok,I.os,I.bare,I.base,I.loc,I.cell,I.free,I.freeC,λp b=>(dD.mp b).elim (λz=>I.pin p (ni _ z)) (h p),I.hok,I.len⟩
def Ie{N:Ss}(c:N.Nodup){i j:Nat}{x:Str}(a:N[i]? =some x)(b:N[j]? =some x):i=j:=by
 obtain⟨h,d⟩:=cP.mp a;obtain⟨k,e⟩:=cP.mp b;exact(List.getElem_inj c).mp (d.trans e.symm)
def CI{M:Model}{A:Ar}{E:VP}{i:Nat}{x:Str}{v:V}{u:Vl}{Q:Unit->Sh->Prop}(I:Inv X f g H s)(hN:X.N.Nodup)(O:X.N[i]? =some x)(B:xS X.env.scope x)(r:RelV v u)
  (h: ∀s',Inv X f (g.set i (some v)) H s'->(∃a,Heap.SameBut a s.heap s'.heap/\(a=X.env.locals∨X.env.cells.lookup x=some a))->Q ⟨⟩ s') (hf:X.fn x=true∨X.env.scope.names.lookup x=some .local:=by first|exact .inl rfl|exact .inr rfl|assumption):wpAny M A (storeName X.env x u) Q E s:=by
 obtain⟨m,hn,hl⟩:=id I.loc;have T:(X.env.scope.kind== .class || (X.env.scope.kind== .module&&X.env.locals != X.env.globals))=false:=by rw[I.ok.kind];rfl
 have G:i<g.length:=by rw[I.len];exact(cP.mp O).1
 have cne:=I.cne;have t: ∀{a:Ad} {h':Heap},(∃o,s.heap.get? a=some o/\H a=none)->Heap.SameBut a s.heap h'->HOk X.prog X.w H h':=λ{a h'} ha l b ob e=>by
  obtain⟨_,_,C⟩:=ha;refine(I.hok b ob e).stay (λc w' hc q=>(l.2 c ?_).trans q) (λ_ q=>q) λ_ _ q=>q;rintro rfl
  rcases hc with rfl|hc
  .rw[C]at e;cases e
  .rw[C]at hc;cases hc
 rcases B with hk|hk
 .refine wpAny_storeName_local hk hn (λh' ae l=>?_) T;obtain⟨oL,_,_,af,_⟩:=id hn;refine h _ ⟨I.ok,I.os,I.bare,⟨λb o e n J B=>?_,λb o e n J B=>?_,I.base.free,λb o e B=>?_,I.base.tups,I.base.frzs,I.base.tbls⟩,⟨_,ae,λj y v' w D e3=>?_⟩,λy c e=>?_,I.free,I.freeC,λp hp=>?_,t ⟨oL,af,I.free⟩ l,by simpa using I.len⟩ ⟨_,l,.inl zZ⟩
  .exact(l.2 b (d9 (gh (dq e) I.ok.above))).trans (I.base.keep b o e n J B)
  .obtain⟨sl,w⟩:=I.base.slot b o e n J B;exact⟨sl,(l.2 b (d9 (gh (dq e) I.ok.above))).trans w⟩
  .obtain⟨o',w⟩:=I.base.there b o e B;exact⟨o',(l.2 b (d9 (gh (dq e) I.ok.above))).trans w⟩
  .by_cases L:j=i
   .subst L;rw[O]at w;cases w;rw[BR G]at D;cases D;exact⟨u,r,.inl ⟨hk,by simp⟩⟩
   .rw[List.getElem?_set_ne (fh L)]at D;obtain⟨u',r',q⟩:=hl j y v' w D e3;refine⟨u',r',?_⟩
    rcases q with⟨k,e⟩|⟨k,c,e,z⟩
    .refine .inl ⟨k,?_⟩;have:y≠x:=λe=>L (Ie hN w (e▸O));simp[this,e]
    .exact .inr ⟨k,c,e,z.sameBut l (cne y c e)⟩
  .obtain⟨w',z⟩:=I.cell y c e;exact⟨w',z.sameBut l (cne y c e)⟩
  .obtain⟨e,n,ne,nf,d⟩:=I.pin p hp;exact⟨(l.2 p.1 ne).trans e,n,ne,nf,d⟩
 .have N:X.fn x=true:=by
   rcases hf with z|z
   .exact z
   .rw[z]at hk;cases hk
  obtain⟨c,hc⟩:=I.ok.has x (.inl hk);obtain⟨w',z⟩:=I.cell x c hc;refine wpAny_storeName_cell I.ok.kind hk hc z (λh' U l=>?_);obtain⟨oc,Y,aa⟩:=id z;refine h {s with heap:=h'} ⟨I.ok,I.os,I.bare,⟨λb o e n J B=>?_,λb o e n J B=>?_,I.base.free,λb o e B=>?_,I.base.tups,I.base.frzs,I.base.tbls⟩,⟨m,hn.sameBut l (fh (cne x c hc)),λj y v' w D e3=>?_⟩,λy c' e=>?_,I.free,I.freeC,λp hp=>?_,t ⟨oc,Y,I.freeC x c hc⟩ l,by simpa using I.len⟩ ⟨c,l,.inr hc⟩
  .exact(l.2 b (d9 (gh (dq e) (I.ok.cab x c N hc)))).trans (I.base.keep b o e n J B)
  .obtain⟨sl,w⟩:=I.base.slot b o e n J B;exact⟨sl,(l.2 b (d9 (gh (dq e) (I.ok.cab x c N hc)))).trans w⟩
  .obtain⟨o',w⟩:=I.base.there b o e B;exact⟨o',(l.2 b (d9 (gh (dq e) (I.ok.cab x c N hc)))).trans w⟩
  .by_cases L:j=i
   .subst L;rw[O]at w;cases w;rw[BR G]at D;cases D;exact⟨u,r,.inr ⟨.inl hk,c,hc,U⟩⟩
   .rw[List.getElem?_set_ne (fh L)]at D;obtain⟨u',r',q⟩:=hl j y v' w D e3;refine⟨u',r',?_⟩
    rcases q with q|⟨k,c',e,z'⟩
    .exact .inl q
    .refine .inr ⟨k,c',e,z'.sameBut l ?_⟩;rintro rfl;exact L (Ie hN w (I.ok.inj _ _ _ e hc▸O))
  .by_cases ab:c'=c
   .subst ab;exact⟨_,U⟩
   .obtain⟨w2,z2⟩:=I.cell y c' e;exact⟨w2,z2.sameBut l ab⟩
  .obtain⟨e,n,ne,nf,d⟩:=I.pin p hp;refine⟨(l.2 p.1 ?_).trans e,n,ne,nf,d⟩;intro q;rw[q,Y]at e;have q':oc=p.2:=gD e;exact d w' (by rw[<-q'];exact aa)
def D7{M:Model}{A:Ar}{E:VP}{i:Nat}{x:Str}{v:V}{u:Vl}{Q:Unit->Sh->Prop}(I:Inv X f g H s)(b:X.N.Nodup)(c:X.N[i]? =some x)(d:xS X.env.scope x)(r:RelV v u)
  (h: ∀a,Inv X f (g.set i (some v)) H a->Q ⟨⟩ a) (e:X.fn x=true∨X.env.scope.names.lookup x=some .local:=by first|exact .inl rfl|exact .inr rfl|assumption):wpAny M A (storeName X.env x u) Q E s:=
 CI I b c d r (λa j _=>h a j) e
def Inv.call'{a:Sh}{ch:As}(I:Inv X f g H s)(i:a.os=s.os)(u:Un (kq X.stack) ch H H' s.heap a.heap)(d:HOk X.prog X.w H' a.heap)(j:AllBare a.gens)
  (h: ∀b∈ch,(b∈X.ex∨X.s₀.heap.objs.size<=b)/\b≠X.env.locals/\(∀x c,X.env.cells.lookup x=some c->c≠b)/\ ∀p∈X.pn++f,p.1≠b):Inv X f g H' a:=by
 obtain⟨h',g',d',t',k⟩:=a;have e:k=s.os:=i;subst e;exact I.call (g':=g') (t':=t') (d':=d') u d j h
end
abbrev XK:=Vl->Option Ad->Hp->Prop
abbrev St:=List (Option V)
abbrev VK:=V->Hp->Prop
abbrev TE:=St->Hp->VK->Prop
abbrev TT:=St->Hp->(Bool->Hp->Prop)->Prop
abbrev TA:=St->Hp->(List V->Hp->Prop)->Prop
structure Ends where
 nx:St->Hp->Prop
 rt:VK
 bk:St->Hp->Prop:=λ_ _=>False
 ct:St->Hp->Prop:=λ_ _=>False
abbrev TS:=Ends->St->Hp->Prop
def EP(X:Cx)(b:AO)(c:St)(Q:VK)(u:Vl)(d:Sh):Prop:= ∃v a,Inv X b c a d/\RelV v u/\Q v a
def TP(X:Cx)(c:AO)(d:St)(Q:Bool->Hp->Prop)(b:Bool)(e:Sh):Prop:= ∃a,Inv X c d a e/\Q b a
def AP(X:Cx)(c:AO)(d:St)(Q:List V->Hp->Prop)(e:Vs)(f:Sh):Prop:= ∃a b,Inv X c d b f/\Vals a e/\Q a b
def SP(X:Cx)(c:AO)(D:Ends)(f:Flow)(d:Sh):Prop:=
 match f with
 | .next=> ∃a b,Inv X c a b d/\D.nx a b
 | .brk=> ∃a b,Inv X c a b d/\D.bk a b
 | .cont=> ∃a b,Inv X c a b d/\D.ct a b
 | .ret u=> ∃v a b,Inv X c a b d/\RelV v u/\D.rt v b
def PE(X:Cx)(e:Expr)(t:TE):Prop:=
 ∀(b:AO) (s:Sh) (a:St) (H:Hp) (Q:VK),Inv X b a H s->t a H Q->wpAny (model X.prog X.w) X.A (eval e X.env) (EP X b a Q) X.xe s
def PT(X:Cx)(e:Expr)(t:TT):Prop:=
 ∀(b:AO) (s:Sh) (a:St) (H:Hp) (Q:Bool->Hp->Prop),Inv X b a H s->t a H Q->wpAny (model X.prog X.w) X.A (isTrue e X.env (eval e X.env)) (TP X b a Q) X.xe s
def PW(X:Cx)(e:Expr)(t:TT):Prop:=
 ∀(a:Sem Vl) (c:AO) (s:Sh) (b:St) (H:Hp) (Q:Bool->Hp->Prop),Inv X c b H s->t b H Q->wpAny (model X.prog X.w) X.A (isTrue e X.env a) (TP X c b Q) X.xe s
def PW.pt{X:Cx}{e:Expr}{t:TT}(h:PW X e t):PT X e t:=h _
def PA(X:Cx)(c:List Expr)(t:TA):Prop:=
 ∀(pos:Pos) (b:AO) (s:Sh) (a:St) (H:Hp) (Q:List V->Hp->Prop),Inv X b a H s->t a H Q->wpAny (model X.prog X.w) X.A (spliced (backTo pos (starEach c X.env))) (AP X b a Q) X.xe s
def PS(X:Cx)(st:Stmt)(t:TS):Prop:=
 ∀(a:AO) (s:Sh) (b:St) (H:Hp) (D:Ends),Inv X a b H s->t D b H->wpAny (model X.prog X.w) X.A (exec st X.env) (SP X a D) X.xe s
def PSs(X:Cx)(st:List Stmt)(t:TS):Prop:=
 ∀(a:AO) (s:Sh) (b:St) (H:Hp) (D:Ends),Inv X a b H s->t D b H->wpAny (model X.prog X.w) X.A (execs st X.env) (SP X a D) X.xe s
def cT{b:Type}{t:Sem b}{Q c:b->Sh->Prop}{M:Model}{A:Ar}{E:VP}{s:Sh}(h:wpAny M A t Q E s)(d: ∀a s,Q a s->c a s):wpAny M A t c E s:=iM h d λ_ _ x=>x
section
variable{X:Cx}
inductive dR(i:Nat)(a:St)(H:Hp)(Q:VK):Prop|mk:∀v,a[i]? =some (some v)->Q v H->dR i a H Q
def tC(v:V):TE:=λ_ H Q=>Q v H
def J6{i:Nat}{x:Str}{pos:Pos}(g:X.N[i]? =some x)(j:Bh X.env.scope x)(b:(x==("__debug__":Str))=false:=by decide)(d:(x==("__classdict__":Str))=false:=by decide):PE X (.Name x pos) (dR i):=by
 intro k s n H Q I h;obtain⟨v,e,h⟩:=h;obtain⟨m,o,p⟩:=I.loc;obtain⟨u,r,l⟩:=p i x v g e j;have fin:EP X k n Q u s:=⟨v,H,I,r,h⟩
 rcases l with⟨hk,q⟩|⟨hk,c,f,a⟩
 .exact wpAny_Name (wpAny_loadName_local I.ok.kind hk o q fin) b
 .rcases hk with hk|hk
  .exact wpAny_Name (wpAny_loadName_cell I.ok.kind hk f a fin) b
  .exact wpAny_Name (wpAny_loadName_free I.ok.kind hk f a fin d) b
def cR{i j pos}:PE X (.Constant (.int i) j pos) (tC (.int i)):=λ_ _ _ H _ I h=>wpAny_Constant_int ⟨.int i,H,I.tok _,⟨_,zZ⟩,h⟩
def tj{b j pos}:PE X (.Constant (.bool b) j pos) (tC (.bl b)):=λ_ _ _ H _ I h=>Constant_bool ⟨.bl b,H,I,zZ,h⟩
def vT{j pos}:PE X (.Constant .none j pos) (tC .non):=λ_ _ _ H _ I h=>Constant_none ⟨.non,H,I,zZ,h⟩
def wL{x j pos}:PE X (.Constant (.str x) j pos) (tC (.str x)):=λ_ _ _ H _ I h=>Calls.Constant_str ⟨.str x,H,I.tok _,⟨_,zZ⟩,h⟩
def Gl(X:Cx)(x:Str):Prop:=X.env.kindOf x=some .globalImplicit
def zV{E:VP}{a:AO}{s:Sh}{b:St}{H:Hp}{x:Str}{u:Vl}{pos:Pos}{Q:VP}(I:Inv X a b H s)(c:Gl X x)(d:X.mg x=some u)(h:Q u s)
  (e:(x==("__debug__":Str))=false:=by decide):wpAny (model X.prog X.w) X.A (eval (.Name x pos) X.env) Q E s:=
 IN I.ok.kind c (Calls.loadGlobal_global (by rw[I.ok.glob];exact I.mod.glob.keeps I.bk) d h) e
def ue{E:VP}{a:AO}{s:Sh}{b:St}{H:Hp}{x:Str}{u:Vl}{pos:Pos}{Q:VP}(I:Inv X a b H s)(c:Gl X x)(d:X.mg x=none)(e:bootBuiltins x=some u)(h:Q u s)
  (f:x≠"__name__":=by decide) (g:(x==("__debug__":Str))=false:=by decide):wpAny (model X.prog X.w) X.A (eval (.Name x pos) X.env) Q E s:=by
 obtain⟨k,i,j⟩:=I.mod.blt;exact IN I.ok.kind c (Calls.loadGlobal_builtin (by rw[I.ok.glob];exact I.mod.glob.keeps I.bk) d (by rw[I.ok.blt];exact i.keeps I.bk) ((j x f).trans e) h) g
def NP{x:Str}{v:V}{u:Vl}{pos:Pos}(a:Gl X x)(b:X.mg x=none)(c:bootBuiltins x=some u)(r:RelV v u)(d:x≠"__name__":=by decide)(e:(x==("__debug__":Str))=false:=by decide):PE X (.Name x pos) (tC v):=
 λ_ _ _ H _ I h=>ue I a b c ⟨v,H,I,r,h⟩ d e
variable{a b:Expr}{k n:TE}{pos:Pos}
def PC(X:Cx)(g:CmpOp)(a b:Expr)(t:TE):Prop:=
 ∀(f:AO) (s:Sh) (e:St) (H:Hp) (Q:VK),Inv X f e H s->t e H Q->
  wpAny (model X.prog X.w) X.A (eval a X.env) (λv c=>wpAny (model X.prog X.w) X.A (eval b X.env) (λu d=>wpAny (model X.prog X.w) X.A (compareOp g v u) (EP X f e Q) X.xe d) X.xe c) X.xe s
def IM(b:Expr){c:CmpOp}(h:c≠ .In)(d:c≠ .NotIn):behindInMarks c b=false:=by
 have e:(c==CmpOp.In)=false:=by cases c<;>first|rfl|exact wC zZ h
 have f:(c==CmpOp.NotIn)=false:=by cases c<;>first|rfl|exact wC zZ d
 cases b<;>simp[behindInMarks,e,f]
def tB(t:TE):TT:=λd H Q=>t d H λx e=> ∃c,x= .bl c/\Q c e
def Ji{c:CmpOp}{t:TE}(h:PC X c a b t)(d:behindInMarks c b=false:=by first|exact IM _ (by decide) (by decide)|rfl):PE X (.Compare a [c] [b] pos) t:=λe s f H Q I hw=>wpAny_Compare1 (h e s f H Q I hw) d
def oB{e:CmpOp}{t:TE}(h:PC X e a b t)(f:behindInMarks e b=false:=by first|exact IM _ (by decide) (by decide)|rfl):PT X (.Compare a [e] [b] pos) (tB t):=by
 intro g s i H Q I hw;refine wpAny_isTrue_Compare1 (cT (h g s i H _ I hw) λv r f=>cT f λu w j=>cT j λc y ⟨x,l,m,o,p⟩=>?_) f;obtain⟨d,rfl,q⟩:=p;cases o;exact qh ⟨l,m,q⟩
def re{e:Expr}{t:TE}(h:PE X e t)(f: ∀c,isTrue e X.env c=(do let v <-c;standAt e.pos;holding [v] (truthy v)):=by intro _;rfl):PT X e (tB t):=by
 intro g s i H Q I hw;refine isTrue_plain (cT (h g s i H _ I hw) λv p ⟨x,j,l,m,o⟩=>?_) (f _);obtain⟨d,rfl,q⟩:=o;cases m;exact qh ⟨j,l,q⟩
variable{f g:TT}{rest:List Expr}
def Ez(t u:TT):TT:=λd H Q=>t d H λc e=>if c=true then u d e Q else Q false e
def E6(t u:TT):TT:=λd H Q=>t d H λc e=>if c=true then Q true e else u d e Q
def DE(t:TT):TT:=λd H Q=>t d H λc e=>Q (!c) e
def wj(d:PT X a f):PW X (.BoolOp .And [a] pos) f:=by
 intro l i s j H Q I h;refine isTrue_and (cT (d i s j H Q I h) λc m e=>?_);cases c with
 |true=>exact isTrue_and_nil e
 |false=>exact e
def Fh(d:PT X a f):PW X (.BoolOp .Or [a] pos) f:=by
 intro l i s j H Q I h;refine isTrue_or (cT (d i s j H Q I h) λc m e=>?_);cases c with
 |false=>exact isTrue_or_nil e
 |true=>exact e
def uo(m:PT X a f)(o:PW X (.BoolOp .And (b::rest) pos) g):PW X (.BoolOp .And (a::b::rest) pos) (Ez f g):=by
 intro p d s e H Q I h;refine isTrue_and (cT (m d s e H _ I h) λc q ⟨i,j,l⟩=>?_);cases c with
 |true=>exact o p d q e i Q j l
 |false=>exact⟨i,j,l⟩
def IJ(m:PT X a f)(o:PW X (.BoolOp .Or (b::rest) pos) g):PW X (.BoolOp .Or (a::b::rest) pos) (E6 f g):=by
 intro p d s e H Q I h;refine isTrue_or (cT (m d s e H _ I h) λc q ⟨i,j,l⟩=>?_);cases c with
 |true=>exact⟨i,j,l⟩
 |false=>exact o p d q e i Q j l
def xc(d:PT X a f):PT X (.UnaryOp .Not a pos) (DE f):=by
 intro e s i H Q I h;exact isTrue_not (d e s i H (λc j=>Q (!c) j) I h)
def yD(k n:TE):TE:=λd H Q=>k d H λx e=> ∃c,x= .bl c/\if c=true then n d e Q else Q (.bl false) e
def zi(k:TE):TE:=λd H Q=>k d H λx e=> ∃c,x= .bl c/\Q (.bl (!c)) e
def AF{c}{t:TE}(h:PE X a t):PE X (.BoolOp c [a] pos) t:=λd s e H Q I hw=>BoolOp_one (h d s e H Q I hw)
def Aw(m:PE X a k)(o:PE X (.BoolOp .And (b::rest) pos) n):PE X (.BoolOp .And (a::b::rest) pos) (yD k n):=by
 intro e s i H Q I h;refine BoolOp_and (cT (m e s i H _ I h) λv p ⟨x,j,l,q,d⟩=>?_);obtain⟨c,rfl,d⟩:=d;cases q;refine qh ?_;cases c with
 |true=>exact o e p i j Q l d
 |false=>exact⟨.bl false,j,l,zZ,d⟩
def Lf(e:PE X a k):PE X (.UnaryOp .Not a pos) (zi k):=by
 intro i s j H Q I h;refine UnaryOp_ (cT (e i s j H _ I h) λv p ⟨x,l,m,o,d⟩=>?_);obtain⟨c,rfl,d⟩:=d;cases o;exact not_of (qh ⟨.bl (!c),l,m,zZ,d⟩)
end
def SqL(K:Q5)(H:Hp)(a:Ad)(xs:List V):Prop:=
 Rd H a (.lst xs)∨
  ∃(o:Obj) (b:AV) (n:Nat),K.lookup a=some o/\o.cls= .type "list"/\o.dict=none/\o.data= .seq b n/\b.size<=sizeLine/\Vals xs b.toList
def SqT(K:Q5)(H:Hp)(a:Ad)(xs:List V):Prop:=
 Rd H a (.tup xs)∨
  ∃(o:Obj) (b:AV) (n:Nat),K.lookup a=some o/\o.cls= .type "tuple"/\o.data= .seq b n/\b.size<=sizeLine/\Vals xs b.toList
def Dv:Vl->Option V
 | .none=>some .non
 | .bool b=>some (.bl b)
 | .int i _=>some (.int i)
 | .str x _=>some (.str x)
 | .bytes b _=>some (.byt b)
 | .float b _=>some (.flt b)
 | .ref a=>some (.ref a)
 | .type n=>some (.ty n)
 |_=>none
def RelV.abs{x:V}{u:Vl}(r:RelV x u):Dv u=some x:=by
 cases x with
 |non=>cases r;rfl
 |bl _=>cases r;rfl
 |int _=>obtain⟨t,rfl⟩:=r;rfl
 |str _=>obtain⟨t,rfl⟩:=r;rfl
 |byt _=>obtain⟨t,rfl⟩:=r;rfl
 |flt _=>obtain⟨t,rfl⟩:=r;rfl
 |ref _=>cases r;rfl
 |ty _=>cases r;rfl
def RelV.inj{x y:V}{u:Vl}(r:RelV x u)(q:RelV y u):x=y:=gD (r.abs.symm.trans q.abs)
theorem Vals.inj: ∀{a b:List V} {c:Vs},Vals a c->Vals b c->a=b
 |_,_,_,.nil,.nil=>rfl
 |_,_,_,.cons r t,.cons d t'=>by rw[r.inj d,Vals.inj t t']
section
variable{X:Cx}{b:AO}{c:St}{H:Hp}{s:Sh}{a:Ad}{xs ys:List V}
def Q3{K:Q5}(h:H a=some (.lst xs)):SqL K H a xs:= .inl (.inl h)
def Q4{K:Q5}(h:H a=some (.tup xs)):SqT K H a xs:= .inl (.inl h)
def Inv.list(I:Inv X b c H s)(h:SqL X.K H a xs): ∃its:Vs,Vals xs its/\PlainL s.heap a its.toArray/\xs.length<=sizeLine:=by
 rcases h with h|⟨o,its,n,d,f,g,i,j,r⟩
 .obtain⟨z,its,n,r,e⟩:=h.ok I.hok;exact⟨its,r,⟨_,n,e,zZ,zZ,zZ⟩,z⟩
 .refine⟨its.toList,r,⟨o,n,I.kIn a o d,f,g,by simpa using i⟩,?_⟩;have e:=r.length;simp only[Array.length_toList]at e;lia
def Inv.tuple(I:Inv X b c H s)(h:SqT X.K H a xs): ∃its:Vs,Vals xs its/\IsTup s.heap a its.toArray/\xs.length<=sizeLine:=by
 rcases h with h|⟨o,its,n,d,f,g,i,r⟩
 .obtain⟨z,its,r,p⟩:=h.ok I.hok;exact⟨its,r,p.is,z⟩
 .refine⟨its.toList,r,⟨o,I.kIn a o d,f,n,by simpa using g⟩,?_⟩;have e:=r.length;simp only[Array.length_toList]at e;lia
def Inv.list_inj(I:Inv X b c H s)(h:SqL X.K H a xs)(h':SqL X.K H a ys):xs=ys:=by
 obtain⟨g,r,⟨o,n,e,_,_,d⟩,_⟩:=I.list h;obtain⟨f,j,⟨l,m,i,_,_,d'⟩,_⟩:=I.list h';rw[e]at i;cases i;rw[d]at d';injection d' with k _
 have:g=f:=by simpa using congrArg Array.toList k
 subst this;exact r.inj j
def Inv.tuple_inj(I:Inv X b c H s)(h:SqT X.K H a xs)(h':SqT X.K H a ys):xs=ys:=by
 obtain⟨g,r,⟨o,e,_,n,d⟩,_⟩:=I.tuple h;obtain⟨f,j,⟨l,i,_,m,d'⟩,_⟩:=I.tuple h';rw[e]at i;cases i;rw[d]at d';injection d' with k _
 have:g=f:=by simpa using congrArg Array.toList k
 subst this;exact r.inj j
end
abbrev Cx.wish(X:Cx)(E:VP):Cx:={X with xe:=E}
abbrev Cx.nox(X:Cx):Cx:=X.wish λ_ _=>False
def Cx.Ok.wish{X:Cx}(ok:X.Ok)(E:VP):(X.wish E).Ok:=
 ⟨ok.mod,ok.kind,ok.glob,ok.blt,ok.above,ok.inj,ok.has,ok.cab,ok.hd,ok.frames,ok.stk,ok.exf,ok.bs,ok.bsz,ok.noex,ok.exfs,ok.funs,ok.frf⟩
def Cx.Ok.unwish{X:Cx}{E:VP}(ok:(X.wish E).Ok):X.Ok:=
 ⟨ok.mod,ok.kind,ok.glob,ok.blt,ok.above,ok.inj,ok.has,ok.cab,ok.hd,ok.frames,ok.stk,ok.exf,ok.bs,ok.bsz,ok.noex,ok.exfs,ok.funs,ok.frf⟩
section
variable{X:Cx}{a:AO}{b:St}{H:Hp}{s:Sh}{E:VP}
def Inv.wish(I:Inv X a b H s)(E:VP):Inv (X.wish E) a b H s:=⟨I.ok.wish E,I.os,I.bare,I.base,I.loc,I.cell,I.free,I.freeC,I.pin,I.hok,I.len⟩
def Inv.unwish(I:Inv (X.wish E) a b H s):Inv X a b H s:=⟨I.ok.unwish,I.os,I.bare,I.base,I.loc,I.cell,I.free,I.freeC,I.pin,I.hok,I.len⟩
def SP.unwish{D:Ends}{f:Flow}{e:Sh}(h:SP (X.wish E) a D f e):SP X a D f e:=by
 cases f with
 |next=>obtain⟨c,d,I,q⟩:=h;exact⟨c,d,I.unwish,q⟩
 |brk=>obtain⟨c,d,I,q⟩:=h;exact⟨c,d,I.unwish,q⟩
 |cont=>obtain⟨c,d,I,q⟩:=h;exact⟨c,d,I.unwish,q⟩
 |ret u=>obtain⟨v,c,d,I,r,q⟩:=h;exact⟨v,c,d,I.unwish,r,q⟩
def PSs.nox{st:List Stmt}{t:TS}(h:PSs X.nox st t):PSs X st t:=λa s b H D I hw=>
 iM (h a s b H D (I.wish _) hw) (λ_ _ q=>q.unwish) λ_ _ z=>wE z
end
section
variable{X:Cx}{st:Stmt}{rest:List Stmt}{t u:TS}{e:Expr}{g:TE}{pos:Pos}
def F8:TS:=λD a H=>D.nx a H
def oi(t u:TS):TS:=λD a H=>t {D with nx:=u D} a H
def gO:PSs X [] F8:=λ_ _ a H _ I h=>zR ⟨a,H,I,h⟩
def cQ(c:PS X st t)(d:PSs X rest u):PSs X (st::rest) (oi t u):=by
 intro b s i H D I h;refine wpAny_execs_cons (cT (c b s i H {D with nx:=u D} I h) λf j q=>?_);cases f with
 |next=>
  obtain⟨a,k,l,q⟩:=q;exact d b j a k D l q
 |ret v=>exact q
 |brk=>exact q
 |cont=>exact q
def cU(a:PS X st t):PSs X [st] t:=by
 intro b s c H D I h;refine wpAny_execs_cons (cT (a b s c H D I h) λf d q=>?_);cases f with
 |next=>exact zR q
 |ret v=>exact q
 |brk=>exact q
 |cont=>exact q
def Inv.quiet{a:AO}{b:St}{H:Hp}{s:Sh}(I:Inv X a b H s):interactive X.env=false:=by simp[interactive,I.ok.kind]
def zW(g:TE):TS:=λD a H=>g a H λ_ b=>D.nx a b
def ju(b:PE X e g)(c:swapsWith e none pos.line X.env=pure false:=by rfl):PS X (.Expr e pos) (zW g):=by
 intro d s a H D I h;exact wpAny_Expr_any (cT (b d s a H _ I h) λv k ⟨x,f,i,l,j⟩=>⟨a,f,i,j⟩) I.quiet c
def xo(g:TE):TS:=λD a H=>g a H D.rt
def dG(b:PE X e g):PS X (.Return (some e) pos) (xo g):=by
 intro c s a H D I h;exact wpAny_Return_some (cT (b c s a H _ I h) λv k ⟨x,d,f,i,j⟩=>⟨x,a,d,f,i,j⟩)
def ye(c:TT)(t u:TS):TS:=λD a H=>c a H λb d=>if b=true then t D a d else u D a d
def gk{c:Expr}{a b:List Stmt}{j:TT}(o:PT X c j)(p:PSs X a t)(q:PSs X b u):PS X (.If c a b pos) (ye j t u):=by
 intro f s i H D I h;refine wpAny_If (cT (o f s i H _ I h) λd k ⟨l,m,n⟩=>?_);cases d with
 |true=>exact p f k i l D m n
 |false=>exact q f k i l D m n
def NW:TS:=λ_ _ _=>False
def LY:PS X st NW:=λ_ _ _ _ _ _ h=>h.elim
end
abbrev TG:=V->St->Hp->(St->Hp->Prop)->Prop
abbrev ro:=List V->St->Hp->(St->Hp->Prop)->Prop
def PG(X:Cx)(a:Expr)(t:TG):Prop:=
 ∀(c:AO) (s:Sh) (d:St) (H:Hp) (v:V) (u:Vl) (Q:St->Hp->Prop),Inv X c d H s->RelV v u->t v d H Q->
  wpAny (model X.prog X.w) X.A (assign a X.env u) (λ_ f=> ∃b e,Inv X c b e f/\Q b e) X.xe s
def w9(X:Cx)(g:List Expr)(t:ro):Prop:=
 ∀(b:AO) (s:Sh) (c:St) (H:Hp) (d:List V) (e:Vs) (Q:St->Hp->Prop),Inv X b c H s->Vals d e->t d c H Q->
  wpAny (model X.prog X.w) X.A (assignInOrder ((assignEach g X.env).map (·.2)) e) (λ_ h=> ∃a f,Inv X b a f h/\Q a f) X.xe s
abbrev uc:=V->V->V->Hp->(Hp->Prop)->Prop
def xx(X:Cx)(t:uc):Prop:=
 ∀(a:AO) (s:Sh) (b:St) (H:Hp) (o i v:V) (c d u:Vl) (Q:Hp->Prop),Inv X a b H s->RelV o c->RelV i d->RelV v u->t o i v H Q->
  wpAny (model X.prog X.w) X.A (setItem c d u) (λ_ f=> ∃e,Inv X a b e f/\Q e) X.xe s
abbrev A5:=V->V->Hp->VK->Prop
def Gy(X:Cx)(c:Operator)(t:A5):Prop:=
 ∀(a:AO) (s:Sh) (b:St) (H:Hp) (x y:V) (v u:Vl) (Q:VK),Inv X a b H s->RelV x v->RelV y u->t x y H Q->
  wpAny (model X.prog X.w) X.A (inplaceOp c v u) (EP X a b Q) X.xe s
section
variable{X:Cx}{pos:Pos}
def iE(i:Nat):TG:=λv a H Q=>Q (a.set i (some v)) H
def fb{i:Nat}{x:Str}(a:X.N.Nodup)(b:X.N[i]? =some x)(c:xS X.env.scope x)(d:X.fn x=true∨X.env.scope.names.lookup x=some .local:=by first|exact .inl rfl|exact .inr rfl|assumption):PG X (.Name x pos) (iE i):=by
 intro f s g H v u Q I r h;exact CS (D7 I a b c r (λj e=>⟨_,H,e,h⟩) d)
def ub:ro:=λa b H Q=>a=[]/\Q b H
inductive i6(t:TG)(u:ro)(b:List V)(c:St)(H:Hp)(Q:St->Hp->Prop):Prop|mk:∀v r,b=v::r->(t v c H λa d=>u r a d Q)->i6 t u b c H Q
def nO:w9 X [] ub:=by
 intro b s a H c d Q I r h;obtain⟨e,h⟩:=h;subst e;cases r;exact assignInOrder_nil ⟨a,H,I,h⟩
def iA{e:Expr}{a:List Expr}{t:TG}{u:ro}(d:PG X e t)(f:w9 X a u)
  (g:(assignEach (e::a) X.env).map (·.2)=assign e X.env::(assignEach a X.env).map (·.2):=by rfl):w9 X (e::a) (i6 t u):=by
 intro c s i H p q Q I r h;obtain⟨v,w,j,h⟩:=h;subst j;cases r with
 |cons r k=>
  rw[g];refine assignInOrder_cons (cT (d c s i H _ _ _ I r h) λ_ l ⟨b,m,n,o⟩=>?_);exact f c l b m _ _ Q n k o
inductive oZ(K:Q5)(n:Nat)(t:ro)(v:V)(c:St)(H:Hp)(Q:St->Hp->Prop):Prop|mk:∀a b,v= .ref a->SqT K H a b->b.length=n->t b c H Q->oZ K n t v c H Q
def om{c:List Expr}{k:Nat}{t:ro}{n:Nat}(j:X.calm=true)(h:w9 X c t)
  (l:(assignEach c X.env).length=n:=by rfl) (d:(assignEach c X.env).findIdx? (·.1)=none:=by rfl):PG X (.Tuple c k pos) (oZ X.K n t):=by
 intro f s g H v u Q I r hw;obtain⟨a,m,p,q,w,hw⟩:=hw;subst p;cases r;obtain⟨x,i,ht,B⟩:=I.tuple q;refine assign_Tuple_tuple (I.ok.hd j) ht (by simp[l,<-w,i.length]) d λy z=>?_;have A:Inv X f g H {s with heap:=y}:=I.kept (t':=s.toks) λb o e=>z b o (d9 (dq e)) e;exact h f _ g H m _ Q A (by simpa using i) hw
def Dd(to b:TE)(t:uc):TG:=λv a H Q=>to a H λo c=>b a c λi d=>t o i v d λe=>Q a e
def Ac{o i:Expr}{to e:TE}{t:uc}(f:PE X o to)(g:PE X i e)(j:xx X t)
  (k: ∀v,assign (.Subscript o i pos) X.env v=(do
   let a <-holding [v] (eval o X.env)
   let b <-holding [v,a] (eval i X.env)
   standAt pos
   holding [v,a,b] (setItem a b v)
   release [v,a,b] []):=by intro _;rfl):PG X (.Subscript o i pos) (Dd to e t):=by
 intro d s c H v u Q I r h;rw[k];refine cB (hG (cT (f d s c H _ I h) λa l ⟨x,m,n,p,q⟩=>?_));refine cB (hG (cT (g d l c m _ n q) λb w ⟨y,z,A,B,C⟩=>?_));refine cB (vY (cB (hG (cT (j d w c z x y v a b u _ A p B r C) λ_ J ⟨D,E,G⟩=>?_))));exact wpAny_release ⟨c,D,E,G⟩
def oE(b:TE)(g:TG):TS:=λD a H=>b a H λx c=>g x a c D.nx
def yc{a e:Expr}{b:TE}{g:TG}(f:PE X e b)(i:PG X a g)(j:swapsWithSole [a] e pos.line X.env=pure false:=by rfl)(hw:swappedStores [a] e X.env=pure none:=by rfl)
  (k:(assignEach [a] X.env).map (·.2)=[assign a X.env]:=by rfl):PS X (.Assign [a] e pos) (oE b g):=by
 intro c s d H D I h;refine wpAny_Assign_stores (cT (f c s d H _ I h) λv l ⟨x,m,n,o,p⟩=>?_) j hw;rw[k];exact cT (i c l d m x v _ n o p) λ_ r q=>q
def dj{i:Nat}{x:Str}{e:Expr}{b:TE}{a:Pos}(c:X.N.Nodup)(d:X.N[i]? =some x)(f:xS X.env.scope x)(g:PE X e b)(j:swapsWith e (some (.Name x a)) pos.line X.env=pure false:=by rfl)(k:X.fn x=true∨X.env.scope.names.lookup x=some .local:=by first|exact .inl rfl|exact .inr rfl|assumption):
  PS X (.Assign [.Name x a] e pos) (oE b (iE i)):=by
 intro l s m H D I h;refine wpAny_Assign_Name (cT (g l s m H _ I h) λv t ⟨y,n,o,p,q⟩=>?_) j;exact D7 o c d f p (λu r=>⟨_,n,r,q⟩) k
def BP(i:Nat)(b:TE)(c:A5):TS:=λD a H=> ∃x,a[i]? =some (some x)/\b a H λy d=>c x y d λz e=>D.nx (a.set i (some z)) e
def Hr{i:Nat}{x:Str}{e:Expr}{p:TE}{g:Operator}{q:A5}{b:Pos}(B:X.N.Nodup)(t:X.N[i]? =some x)(j:xS X.env.scope x)(C:PE X e p)(E:Gy X g q)(G:X.fn x=true∨X.env.scope.names.lookup x=some .local:=by first|exact .inl rfl|exact .inr rfl|assumption):
  PS X (.AugAssign (.Name x b) g e pos) (BP i p q):=by
 intro n s A H D I h;obtain⟨v,J,h⟩:=h;obtain⟨m,L,M⟩:=I.loc;have o:Bh X.env.scope x:=by rcases j with k|k;exact .inl k;exact .inr (.inl k)
 obtain⟨u,r,l⟩:=M i x v t J o;refine wpAny_AugAssign_Name ?_;have go:wpAny (model X.prog X.w) X.A (eval e X.env) (λw d=>wpAny (model X.prog X.w) X.A (inplaceOp g u w) (λr f=>wpAny (model X.prog X.w) X.A (storeName X.env x r) (λ_=>SP X n D .next) X.xe f) X.xe d) X.xe s:=by
  refine cT (C n s A H _ I h) λw N ⟨y,O,Q,T,U⟩=>?_;refine cT (E n N A O v y u w _ Q r T U) λz s2 ⟨zv,Y,I2,r2,q2⟩=>?_;exact D7 I2 B t j r2 (λs3 I3=>⟨_,Y,I3,q2⟩) G
 rcases l with⟨hk,hm⟩|⟨hk,c,hc,a⟩
 .exact wpAny_loadName_local I.ok.kind hk L hm go
 .rcases hk with hk|hk
  .exact wpAny_loadName_cell I.ok.kind hk hc a go
  .rcases j with k|k
   .have:X.env.scope.names.lookup x=some .free:=hk;rw[k]at this;cases this
   .have:X.env.scope.names.lookup x=some .free:=hk;rw[k]at this;cases this
def JQ(f:Int->Int->Int):A5:=λx y H Q=> ∃i j,x= .int i/\y= .int j/\Q (.int (f i j)) H
def FJ:Gy X .Add (JQ λi j=>i+j):=by
 intro e s f H x y v u Q I a b h;obtain⟨i,j,c,d,q⟩:=h;subst c;subst d;obtain⟨t,rfl⟩:=a;obtain⟨g,rfl⟩:=b;exact iadd_int ⟨.int _,H,I.tok _,⟨_,zZ⟩,q⟩
end
section
variable{X:Cx}{pos:Pos}
def FS(c:TT)(h:TS):TS:=λD a H=> ∃W:Nat->St->Hp->Prop,(∃m,W m a H)/\ ∀m a H,W m a H->
 c a H λb e=>if b=true then ∃N:St->Hp->Prop,(∀d f,N d f-> ∃g,g<m/\W g d f)/\h {D with nx:=N,ct:=N,bk:=D.nx} a e else D.nx a e
def FN{c:Expr}{e:List Stmt}{t:TT}{u:TS}(w:PassesOwn (model X.prog X.w) X.A X.env X.xe)(C:PT X c t)(E:PSs X e u):PS X (.While c e [] pos) (FS t u):=by
 intro l s G H D I h;obtain⟨W,⟨J,L⟩,turn⟩:=h;refine wpAny_While (codeAny_whileLoop (λn M=> ∃g x,Inv X l g x M/\W n g x) ?_ J ⟨G,H,I,L⟩);rintro n O ⟨d,y,Q,T⟩;refine sh w (cT (C l O d y _ Q (turn n d y T)) λb U ⟨z,A,j⟩=>?_);cases b with
 | true=>
  obtain⟨N,B,j⟩:=j;rw[wB zZ];refine sh w (cT (E l U d z _ A j) λf Y k=>?_);cases f with
  |next=>
   obtain⟨a,i,m,o⟩:=k;obtain⟨p,q,r⟩:=B a i o;exact⟨p,q,a,i,m,r⟩
  |cont=>
   obtain⟨a,i,m,o⟩:=k;obtain⟨p,q,r⟩:=B a i o;exact⟨p,q,a,i,m,r⟩
  |brk=>exact k
  |ret v=>exact k
 |false=>
  rw[wA gy];exact zR ⟨d,z,A,j⟩
end
structure It where
 go:Nat->Hp->Prop
 yld:Nat->Hp->V->Hp->Prop
 stop:Nat->Hp->Prop
def FpOk(X:Cx)(a:AO)(H:Hp)(b:Ad):Prop:=
 H b=none/\b≠X.env.locals/\b∉X.fs/\(b∈X.ex∨X.s₀.heap.objs.size<=b)/\(∀x c,X.env.cells.lookup x=some c->c≠b)/\ ∀p∈X.pn++a,p.1≠b
def Inv.fpOk{X:Cx}{d:AO}{f:St}{H H':Hp}{s:Sh}{b:Ad}(I:Inv X d f H s)(a:s.heap.objs.size<=b)(g:H' b=none):FpOk X d H' b:=by
 refine⟨g,m9 (gh I.lt a),I.nofs a,.inr (dL I.sz a),λx c e z=>?_,λp h z=>?_⟩
 .obtain⟨v,q⟩:=I.cell x c e;exact wC (gh q.lt (by rw[z];exact a)) (me _)
 .exact wC (gh (dq (I.pin p h).1) (by rw[z];exact a)) (me _)
structure Turn(P:Pg)(w:World)(K:Q5)(tg:Expr)(J:It)(fp:As)(it:Ad)(tn:Nat->Heap->Prop):Prop where
 mem:it∈fp
 obj: ∀i h,tn i h-> ∀b∈fp,∃o,h.get? b=some o/\ ∀v,o.data≠ .cell v
 keep: ∀i h h',tn i h->(∀b∈fp,∀o,h.get? b=some o->h'.get? b=some o)->tn i h'
 item: ∀(X:Cx),X.prog=P->X.w=w->X.K=K->X.calm=true-> ∀(i:Nat) (za:AO) (s:Sh) (σ:St) (H:Hp) (E:VP),Inv X za σ H s->(∀b∈fp,FpOk X za H b)->tn i s.heap->J.go i H->
  wpAny (model P w) X.A (pyNext (.ref it)) (λr s1=> ∃u,r=some u/\
   wpAny (model P w) X.A (letOwnedTupleGo tg (.ref it) u) (λ_ s2=> ∃x H',Inv X za σ H' s2/\RelV x u/\J.yld i H x H'/\tn (i+1) s2.heap/\ ∀b∈fp,H' b=none) E s1) E s
 done: ∀(X:Cx),X.prog=P->X.w=w->X.K=K->X.calm=true-> ∀(i:Nat) (za:AO) (s:Sh) (σ:St) (H:Hp) (E:VP),Inv X za σ H s->(∀b∈fp,FpOk X za H b)->tn i s.heap->J.stop i H->
  wpAny (model P w) X.A (pyNext (.ref it)) (λr s1=>r=none/\Inv X za σ H s1) E s
 self: ∀(A:Ar) (i:Nat) (s:Sh) (Q:VP) (E:VP),tn i s.heap->Q (.ref it) s->wpAny (model P w) A (pyIter (.ref it)) Q E s
abbrev TI:=St->Hp->(It->Hp->Prop)->Prop
def DL(X:Cx)(d:AO)(i:St)(j:Expr)(R:It->Hp->Prop)(a:Vl)(e:Sh):Prop:=
 ∃(f:Ad) (g:As) (h:Nat->Heap->Prop) (J:It) (c:Hp),a= .ref f/\Inv X d i c e/\Turn X.prog X.w X.K j J g f h/\h 0 e.heap/\(∀b∈g,FpOk X d c b)/\R J c
def PI(X:Cx)(d a:Expr)(e:TI):Prop:=
 ∀(c:AO) (s:Sh) (b:St) (H:Hp) (R:It->Hp->Prop),Inv X c b H s->e b H R->
  wpAny (model X.prog X.w) X.A (eval a X.env) (λv f=>wpAny (model X.prog X.w) X.A (pyIter v) (DL X c b d R) X.xe f) X.xe s
def AM{M:Model}{A:Ar}{E:VP}{s:Sh}{b:Expr}{c:Ad}{u:Vl}{o:Obj}{n:String}{d:AV}{Q:Unit->Sh->Prop}(e:s.heap.get? c=some o)(f:o.cls= .type n)(g:o.data= .fields d)
    (i:["enumerate","zip","dict_itemiterator","dict_reverseitemiterator","odict_iterator","itertools.zip_longest","itertools.pairwise"].contains n=false) (a:Q ⟨⟩ s):wpAny M A (letOwnedTupleGo b (.ref c) u) Q E s:=by
  unfold letOwnedTupleGo;cases b<;>first
    |exact cH a
    |(cases u<;>first
        |exact cH a
        | (refine cB (wpAny_load e ?_)
           rw[f,g];show wpAny M A (if(["enumerate","zip","dict_itemiterator","dict_reverseitemiterator","odict_iterator","itertools.zip_longest","itertools.pairwise"].contains n&&d[0]? ==some (rawInt _))=true then _ else _) Q E s
           rw[wA (by intro h;rw[i,Bu]at h;cases h)];exact cH a))
def s9(K:Q5)(a:Ad):It:=
 ⟨λi H=> ∃b x,SqL K H a b/\b[i]? =some x,λi H x c=>c=H/\ ∀b,SqL K H a b->b[i]? =some x,λi H=> ∃b,SqL K H a b/\b.length<=i⟩
def xL(K:Q5)(a:Ad):It:=
 ⟨λi H=> ∃b x,SqT K H a b/\b[i]? =some x,λi H x c=>c=H/\ ∀b,SqT K H a b->b[i]? =some x,λi H=> ∃b,SqT K H a b/\b.length<=i⟩
def uh(lo:Int)(n:Nat):It:=⟨λi _=>i<n,λi H x a=>a=H/\x= .int (lo+i),λi _=>n<=i⟩
def J3{P:Pg}{w:World}{K:Q5}{Q:Expr}(a f:Ad):Turn P w K Q (s9 K a) [f] f (λi h=>h.IsListIter f a i) where
 mem:=by simp
 obj:=λi h st b g=>by
  have e:b=f:=by simpa using g
  subst e;obtain⟨o,e,c,d⟩:=st;exact⟨o,e,λv z=>by rw[d]at z;cases z⟩
 keep:=λi h l st k=>st.at λo e=>k f (by simp) o e
 item:=by
  intro X q hw r M i N s O H E I m st t;subst q hw r;obtain⟨T,x,n,y⟩:=t;obtain⟨A,B,p,U⟩:=I.list n;obtain⟨u,Y,ru⟩:=B.get y;obtain⟨C,D,f2,G,J,L⟩:=m f (by simp);refine Ba st p.isList (x:=u) (by simpa using Y) λl j sb=>?_;have I1:Inv X N O H {s with heap:=l}:=I.turned (t':=s.toks) (λb o g e=>(sb.2 b g).trans e) C D G J L;obtain⟨o,e,c,d⟩:=id j;exact⟨u,zZ,AM (s:={s with heap:=l}) e c d (by decide) ⟨x,H,I1,ru,⟨rfl,λys hy=>by rw[I.list_inj hy n];exact y⟩,j,λb g=>(m b g).1⟩⟩
 done:=by
  intro X q hw r M i N s O H E I m st t;subst q hw r;obtain⟨T,n,y⟩:=t;obtain⟨A,B,p,U⟩:=I.list n;obtain⟨C,D,f2,G,J,L⟩:=m f (by simp);have hl:=B.length;exact EO (I.ok.hd M) st p.isList (by simp;lia) λl eb=>⟨zZ,I.turned (t':=s.toks) (λb o g e=>eb b o g e) C D G J L⟩
 self:=λ_ _ _ _ _ st h=>wpAny_pyIter_listiter st h
def MC{P:Pg}{w:World}{K:Q5}{Q:Expr}(a f:Ad):Turn P w K Q (xL K a) [f] f (λi h=>h.IsTupleIter f a i) where
 mem:=by simp
 obj:=λi h st b g=>by
  have e:b=f:=by simpa using g
  subst e;obtain⟨o,e,c,d⟩:=st;exact⟨o,e,λv z=>by rw[d]at z;cases z⟩
 keep:=λi h m st k=>st.at λo e=>k f (by simp) o e
 item:=by
  intro X r hw t M i N s O H E I n st y;subst r hw t;obtain⟨T,x,q,A⟩:=y;obtain⟨j,B,p,U⟩:=I.tuple q;obtain⟨u,Y,ru⟩:=B.get A;obtain⟨C,D,f2,G,J,L⟩:=n f (by simp);refine wpAny_pyNext_tuple_item st (show s.heap.IsTuple a j.toArray from p) (x:=u) (by simpa using Y) λm l sb=>?_;have I1:Inv X N O H {s with heap:=m}:=I.turned (t':=s.toks) (λb o g e=>(sb.2 b g).trans e) C D G J L;obtain⟨o,e,c,d⟩:=id l;exact⟨u,zZ,AM (s:={s with heap:=m}) e c d (by decide) ⟨x,H,I1,ru,⟨rfl,λys hy=>by rw[I.tuple_inj hy q];exact A⟩,l,λb g=>(n b g).1⟩⟩
 done:=by
  intro X r hw t M i N s O H E I n st y;subst r hw t;obtain⟨T,q,A⟩:=y;obtain⟨j,B,p,U⟩:=I.tuple q;obtain⟨C,D,f2,G,J,L⟩:=n f (by simp);have hl:=B.length;exact wpAny_pyNext_tuple_end (I.ok.hd M) st (show s.heap.IsTuple a j.toArray from p) (by simp;lia) λm eb=>⟨zZ,I.turned (t':=s.toks) (λb o g e=>eb b o g e) C D G J L⟩
 self:=λ_ _ _ _ _ st h=>wpAny_pyIter_tupleiter st h
def JV{P:Pg}{w:World}{K:Q5}{D:Expr}(a:Ad)(lo:Int)(n:Nat):Turn P w K D (uh lo n) [a] a (λi h=>IsRangeIter h a (lo+(i:Nat) * 1) ((n:Int)-(i:Nat)) 1) where
 mem:=by simp
 obj:=λi h st b c=>by
  have e:b=a:=by simpa using c
  subst e;exact⟨_,st,λv z=>by
   have G:Data.fields _=Data.cell v:=z;cases G⟩
 keep:=λi h f st k=>k a (by simp) _ st
 item:=by
  intro X j hw l m i A s B H E I g st p;subst j hw l;obtain⟨q,r,J,u,x,y⟩:=g a (by simp);have W:=Walks.range (prog:=X.prog) (w:=X.w) (I.ok.hd m) a lo 1 n;refine W.item i s _ _ p st λv f C L d M=>?_;obtain⟨t,rfl⟩:=L;have N:Inv X A B H {s with heap:=f,toks:=C}:=I.turned (λb o c e=>M b o (by simpa using c) e) q r u x y;refine⟨_,zZ,AM (s:={s with heap:=f,toks:=C}) (n:="range_iterator") d rfl rfl (by decide) ⟨.int (lo+i),H,N,⟨t,?_⟩,⟨rfl,rfl⟩,d,λb c=>(g b c).1⟩⟩;rw[Int.mul_one]
 done:=by
  intro X j hw l m i A s B H E I g st p;subst j hw l;obtain⟨q,r,J,u,x,y⟩:=g a (by simp);exact wpAny_pyNext_range_end (I.ok.hd m) st (by have:n<=i:=p;lia) λf O=>⟨zZ,I.turned (t':=s.toks) (λb o c e=>O b o c e) q r u x y⟩
 self:=λ_ _ _ _ _ st h=>wpAny_pyIter_rangeiter st h
section
variable{X:Cx}{c:Expr}
def HH(K:Q5)(tl:TE):TI:=λd H R=>tl d H λx b=> ∃a,x= .ref a/\(∃e,SqL K b a e)/\R (s9 K a) b
def wU(K:Q5)(tl:TE):TI:=λd H R=>tl d H λx b=> ∃a,x= .ref a/\(∃e,SqT K b a e)/\R (xL K a) b
def iT{l:Expr}{tl:TE}(g:PE X l tl):PI X c l (HH X.K tl):=by
 intro i s j H R I h;refine cT (g i s j H _ I h) λv d ⟨x,k,f,m,n⟩=>?_;obtain⟨a,e,⟨w,r⟩,q⟩:=n;subst e;cases m;obtain⟨t,y,p,z⟩:=f.list r;refine wW p.isList ?_;refine⟨d.heap.objs.size,[d.heap.objs.size],_,_,k,zZ,f.kept (t':=d.toks) λb o e=>dM _ e,J3 a _,⟨_,fj _ zZ,zZ,zZ⟩,λb u=>?_,q⟩;have e:b=d.heap.objs.size:=by simpa using u
 subst e;exact f.fpOk (cO _) (f.hok.fresh (cO _))
def ua{l:Expr}{tl:TE}(i:PE X l tl):PI X c l (wU X.K tl):=by
 intro j s k H R I h;refine cT (i j s k H _ I h) λv d ⟨x,m,f,n,r⟩=>?_;obtain⟨a,e,⟨w,t⟩,q⟩:=r;subst e;cases n;obtain⟨g,y,p,z⟩:=f.tuple t;refine wpAny_pyIter_tuple (show d.heap.IsTuple a g.toArray from p) ?_;refine⟨d.heap.objs.size,[d.heap.objs.size],_,_,m,zZ,f.kept (t':=d.toks) λb o e=>dM _ e,MC a _,⟨_,fj _ zZ,zZ,zZ⟩,λb u=>?_,q⟩;have e:b=d.heap.objs.size:=by simpa using u
 subst e;exact f.fpOk (cO _) (f.hok.fresh (cO _))
def Ll{d:AO}{f:St}{H:Hp}{s:Sh}{R:It->Hp->Prop}{E:VP}{lo a:Int}{t u v:Tok}{g:Nat}(I:Inv X d f H s)(i: -(2 ^ 62)<=lo)(j:lo<2 ^ 62)(k: -(2 ^ 62)<=a)(l:a<2 ^ 62)
  (q:R (uh lo (a-lo).toNat) H):wpAny (model X.prog X.w) X.A (pyIter (.ref s.heap.objs.size)) (DL X d f c R) E {s with heap:=s.heap.push {cls:= .type "range",data:= .fields #[.int lo t,.int a u,.int 1 v]},toks:=g}:=by
 refine wpAny_pyIter_range (IsRange.new ..) (small_one i j k l) ?_;have h:Inv X d f H {s with heap:=s.heap.push {cls:= .type "range",data:= .fields #[.int lo t,.int a u,.int 1 v]},toks:=g}:=I.kept λb o e=>dM _ e;refine⟨(s.heap.push {cls:= .type "range",data:= .fields #[.int lo t,.int a u,.int 1 v]}).objs.size,[(s.heap.push {cls:= .type "range",data:= .fields #[.int lo t,.int a u,.int 1 v]}).objs.size],_,_,H,zZ,
  h.kept (t':=g) λb o e=>dM _ e,JV _ lo (a-lo).toNat,?_,λb m=>?_,q⟩
 .have n:lo+((0:Nat):Int) * 1=lo:=by simp
  have p:(((a-lo).toNat:Nat):Int)-((0:Nat):Int)=Builtin.Range.rangeSize lo a 1:=by rw[rangeSize_one];split<;>lia
  show IsRangeIter _ _ (lo+((0:Nat):Int) * 1) ((((a-lo).toNat:Nat):Int)-((0:Nat):Int)) 1;rw[n,p];exact fj _ rfl
 .have e:b=(s.heap.push {cls:= .type "range",data:= .fields #[.int lo t,.int a u,.int 1 v]}).objs.size:=by simpa using m
  subst e;exact h.fpOk (cO _) (h.hok.fresh (cO _))
def Ff(a:TA):TI:=λb H R=>a b H λd e=> ∃j:Int,d=[.int j]/\ -(2 ^ 62)<=j/\j<2 ^ 62/\R (uh 0 j.toNat) e
def m8{a:Expr}{d:TA}{p pos:Pos}(f:Gl X "range")(g:X.mg "range"=none)(i:PA X [a] d)(k:starEach [a] X.env=[(false,eval a X.env)]:=by rfl):PI X c (.Call (.Name "range" p) [a] [] pos) (Ff d):=by
 intro l s m H R I h;refine Call_ (ue I f g boot_range (Aj (cT (i pos l s m H _ I h) λw x ⟨y,z,n,o,b⟩=>?_) k zZ));obtain⟨j,e,b,u,q⟩:=b;subst e;cases o with
 |cons r v=>
  cases v;obtain⟨t,rfl⟩:=r;exact call_range_1 (Ll n () () b u (by simpa using q))
def t7(h:TI)(g:TG)(j:TS):TS:=λD a H=>h a H λJ k=> ∃W:Nat->Nat->St->Hp->Prop,(∃m,W 0 m a k)/\ ∀i m a H,W i m a H->
 (J.stop i H/\D.nx a H)∨(J.go i H/\ ∃N:St->Hp->Prop,(∀b d,N b d-> ∃f,f<m/\W (i+1) f b d)/\ ∀x d,J.yld i H x d->g x a d λe l=>j {D with nx:=N,ct:=N,bk:=D.nx} e l)
def v6(a:As)(h:Heap):AO:=a.filterMap λb=>(h.get? b).map λo=>(b,o)
def vm{a:As}{h:Heap}{b:Ad}{o:Obj}(d:b∈a)(e:h.get? b=some o):(b,o)∈v6 a h:=List.mem_filterMap.mpr ⟨b,d,by rw[e];rfl⟩
def JO{a:As}{h:Heap}{p:Ad×Obj}(d:p∈v6 a h):p.1∈a/\h.get? p.1=some p.2:=by
 obtain⟨b,f,e⟩:=List.mem_filterMap.mp d;cases q:h.get? b with
 |none=>rw[q]at e;cases e
 |some o=>
  rw[q]at e;have g:(b,o)=p:=gD e;subst g;exact⟨f,q⟩
def Inv.pinned{a:AO}{g:St}{H:Hp}{s:Sh}{f:As}(I:Inv X a g H s)(j: ∀b∈f,FpOk X a H b)(k: ∀b∈f,∃o,s.heap.get? b=some o/\ ∀v,o.data≠ .cell v):Inv X (a++v6 f s.heap) g H s:=
 I.pins_of λp l=>(dD.mp l).elim (λz=>I.pin p (fg _ z)) λz=>by
  obtain⟨h,e⟩:=JO z;obtain⟨m,n,q,_⟩:=j p.1 h;obtain⟨o,i,d⟩:=k p.1 h;rw[e]at i;cases i;exact⟨e,m,n,q,d⟩
def Inv.unpinned{a d:AO}{b:St}{H:Hp}{s:Sh}(I:Inv X (a++d) b H s):Inv X a b H s:=I.pins_of λp e=>I.pin p (fg _ (ni _ e))
def iH{j:Expr}{z:List Stmt}{wi:TI}{g:TG}{tb:TS}{pos:Pos}(E:PassesOwn (model X.prog X.w) X.A X.env X.xe)(hc:X.calm=true)(hi:PI X c j wi)(hg:PG X c g)(k:PSs X z tb)
  (hs: ∀x,foldedSetIterable j X.env x=pure x:=by intro _;rfl):PS X (.For c j z [] pos) (t7 wi g tb):=by
 intro B s σ H D I h;refine wpAny_For (cT (hi B s σ H _ I h) λv s1 h1=>cT h1 λaf s2 h2=>?_) hs;obtain⟨it,G,tn,J,H2,e,I2,T,U,f2,W,⟨m0,w0⟩,turn⟩:=h2;subst e;have l: ∀{y:Hp},(∀b∈G,y b=none)-> ∀b∈G,FpOk X B y b:=λhn b k=>⟨hn b k,(f2 b k).2⟩;refine codeAny_forLoop_any (λn s'=> ∃i p y,Inv X B p y s'/\tn i s'.heap/\(∀b∈G,y b=none)/\W i n p y) ?_ m0 ⟨0,σ,H2,I2,U,λb k=>(f2 b k).1,w0⟩;rintro n s3 ⟨i,q,Q,I3,L,M,w3⟩
 rcases turn i n q Q w3 with⟨stop,qn⟩|⟨go,N,hN,step⟩
 .refine sh E (cT (T.done X zZ zZ zZ hc i B s3 q Q X.xe I3 (l M) L stop) λr s4 ⟨Y,I4⟩=>?_);subst Y;exact zR ⟨q,Q,I4,qn⟩
 .refine sh E (cT (T.item X zZ zZ zZ hc i B s3 q Q X.xe I3 (l M) L go) λr s4 ⟨u,Y,h4⟩=>?_);subst Y;refine sh E (cT h4 λ_ s5 ⟨x,H5,I5,r5,y5,C,aa⟩=>?_);have ab:=I5.pinned (l aa) (T.obj _ _ C);refine sh E (cT (hg _ s5 q H5 x u _ ab r5 (step x H5 y5)) λ_ s6 ⟨ae,H6,I6,q6⟩=>?_);refine sh E (cT (k _ s6 ae H6 _ I6 q6) λf s7 A=>?_);have again: ∀{a:St} {t:Hp},Inv X (B++v6 G s5.heap) a t s7->N a t-> ∃m,m<n/\ ∃i p y,Inv X B p y s7/\tn i s7.heap/\(∀b∈G,y b=none)/\W i m p y:=λ{a t} w O=>by
   obtain⟨m',hm,w7⟩:=hN a t O;refine⟨m',hm,i+1,a,t,w.unpinned,T.keep _ _ _ C λb k o e=>(w.pin (b,o) (fg _ (fg _ (vm k e)))).1,λb k=>?_,w7⟩;obtain⟨o,e,d⟩:=T.obj _ _ C b k;exact(w.pin (b,o) (fg _ (fg _ (vm k e)))).2.1
  cases f with
  |next=>obtain⟨a,t,w,O⟩:=A;exact again w O
  |cont=>obtain⟨a,t,w,O⟩:=A;exact again w O
  |brk=>obtain⟨a,t,w,A⟩:=A;exact⟨a,t,w.unpinned,A⟩
  |ret v=>obtain⟨x7,a,t,w,r7,A⟩:=A;exact⟨x7,a,t,w.unpinned,r7,A⟩
end
def pK{K:Q5}{a:Ad}{xs:List V}{g:TG}{k:TS}{D:Ends}{b:St}{H:Hp}(Pv:Nat->St->Hp->Prop)(n:Pv 0 b H)(o: ∀i b H,i<=xs.length->Pv i b H->SqL K H a xs)
  (r: ∀i x b H,xs[i]? =some x->Pv i b H->g x b H λc j=>k {D with nx:=Pv (i+1),ct:=Pv (i+1),bk:=D.nx} c j) (s: ∀b H,Pv xs.length b H->D.nx b H):
  ∃W:Nat->Nat->St->Hp->Prop,(∃m,W 0 m b H)/\ ∀i m b H,W i m b H->
   ((s9 K a).stop i H/\D.nx b H)∨((s9 K a).go i H/\ ∃N:St->Hp->Prop,(∀d f,N d f-> ∃l,l<m/\W (i+1) l d f)/\ ∀x f,(s9 K a).yld i H x f->g x b f λc j=>k {D with nx:=N,ct:=N,bk:=D.nx} c j):=by
 refine⟨λi m b H=>m=xs.length-i/\i<=xs.length/\Pv i b H,⟨xs.length,by simp,Nat.zero_le _,n⟩,?_⟩;rintro i m b H ⟨rfl,t,p⟩;have q:=o i b H t p;by_cases h:i<xs.length
 .refine .inr ⟨⟨xs,xs[i],q,by simp[h]⟩,Pv (i+1),λd f u=>⟨xs.length-(i+1),Nat.sub_succ_lt_self _ _ h,zZ,h,u⟩,λx f y=>?_⟩;obtain⟨e,y⟩:=y;subst e;exact r i x b _ (y xs q) p
 .have e:i=xs.length:=by lia
  subst e;exact .inl ⟨⟨xs,q,cO _⟩,s b H p⟩
def wK{lo:Int}{n:Nat}{g:TG}{j:TS}{D:Ends}{a:St}{H:Hp}(Pv:Nat->St->Hp->Prop)(l:Pv 0 a H)
  (o: ∀i a H,i<n->Pv i a H->g (.int (lo+i)) a H λc h=>j {D with nx:=Pv (i+1),ct:=Pv (i+1),bk:=D.nx} c h) (q: ∀a H,Pv n a H->D.nx a H):
  ∃W:Nat->Nat->St->Hp->Prop,(∃m,W 0 m a H)/\ ∀i m a H,W i m a H->
   ((uh lo n).stop i H/\D.nx a H)∨((uh lo n).go i H/\ ∃N:St->Hp->Prop,(∀d f,N d f-> ∃k,k<m/\W (i+1) k d f)/\ ∀x f,(uh lo n).yld i H x f->g x a f λc h=>j {D with nx:=N,ct:=N,bk:=D.nx} c h):=by
 refine⟨λi m a H=>m=n-i/\i<=n/\Pv i a H,⟨n,by simp,Nat.zero_le _,l⟩,?_⟩;rintro i m a H ⟨rfl,s,p⟩;by_cases b:i<n
 .refine .inr ⟨b,Pv (i+1),λd f r=>⟨n-(i+1),Nat.sub_succ_lt_self _ _ b,zZ,b,r⟩,λx f y=>?_⟩;obtain⟨e,y⟩:=y;subst e y;exact o i a _ b p
 .have e:i=n:=by lia
  subst e;exact .inl ⟨cO _,q a H p⟩
abbrev R2:=V->V->Hp->VK->Prop
def OpR(X:Cx)(f:Vl->Vl->Sem Vl)(r:R2):Prop:=
 ∀(a:AO) (s:Sh) (b:St) (H:Hp) (x y:V) (v u:Vl) (Q:VK),Inv X a b H s->RelV x v->RelV y u->r x y H Q->
  wpAny (model X.prog X.w) X.A (f v u) (EP X a b Q) X.xe s
def EQ(X:Cx)(f:Vl->Sem Vl)(r:V->Hp->VK->Prop):Prop:=
 ∀(a:AO) (s:Sh) (b:St) (H:Hp) (x:V) (v:Vl) (Q:VK),Inv X a b H s->RelV x v->r x H Q->
  wpAny (model X.prog X.w) X.A (f v) (EP X a b Q) X.xe s
def kg(X:Cx)(f:Vl)(r:List V->Hp->VK->Prop):Prop:=
 ∀(a:AO) (s:Sh) (b:St) (H:Hp) (c:List V) (d:Vs) (Q:VK),Inv X a b H s->Vals c d->r c H Q->
  wpAny (model X.prog X.w) X.A (call f d) (EP X a b Q) X.xe s
def CC(X:Cx)(r:V->Hp->(Bool->Hp->Prop)->Prop):Prop:=
 ∀(a:AO) (s:Sh) (b:St) (H:Hp) (x:V) (v:Vl) (Q:Bool->Hp->Prop),Inv X a b H s->RelV x v->r x H Q->
  wpAny (model X.prog X.w) X.A (truthy v) (TP X a b Q) X.xe s
def yB(r:R2)(b c:TE):TE:=λa H Q=>b a H λx d=>c a d λy e=>r x y e Q
def Nb(r:V->Hp->VK->Prop)(a:TE):TE:=λb H Q=>a b H λx c=>r x c Q
inductive rI(C:Int->Int->Prop)(g:Int->Int->V)(x y:V)(H:Hp)(Q:VK):Prop|mk:∀i j,x= .int i->y= .int j->C i j->Q (g i j) H->rI C g x y H Q
inductive t0(g:Int->Int->V)(x y:V)(H:Hp)(Q:VK):Prop|mk:∀i j,x= .int i->y= .int j->Q (g i j) H->t0 g x y H Q
inductive rU(g:Int->V)(x:V)(H:Hp)(Q:VK):Prop|mk:∀i,x= .int i->Q (g i) H->rU g x H Q
section
variable{X:Cx}{a b c:Expr}{d e k:TE}{pos:Pos}
def sq(p:PE X a d)(q:PE X b e){m:AO}{s:Sh}{g:St}{H:Hp}{R:V->V->Hp->Prop}(I:Inv X m g H s)
  (h:d g H λx o=>e g o λy i=>R x y i) {Q:VP} {f:Vl->Vl->Sem Vl}
  (r: ∀v u n x y i,Inv X m g i n->RelV x v->RelV y u->R x y i->wpAny (model X.prog X.w) X.A (f v u) Q X.xe n):
  wpAny (model X.prog X.w) X.A (eval a X.env) (λv j=>wpAny (model X.prog X.w) X.A (eval b X.env) (λu l=>wpAny (model X.prog X.w) X.A (f v u) Q X.xe l) X.xe j) X.xe s:=by
 refine cT (p m s g H _ I h) λv t ⟨x,o,w,z,A⟩=>?_;refine cT (q m t g o _ w A) λu n ⟨y,i,B,C,D⟩=>?_;exact r v u n x y i B z C D
def fv{f:Operator}{r:R2}(g:OpR X (binaryOp f) r)(i:PE X a d)(j:PE X b e):PE X (.BinOp a f b pos) (yB r d e):=by
 intro l s m H Q I h;exact wpAny_BinOp (sq i j I h λv u n x y o p t w q=>g l n m o x y v u Q p t w q)
def xI{f:UnaryOp}{r:V->Hp->VK->Prop}(j:EQ X (unaryOp f) r)(l:PE X a d):PE X (.UnaryOp f a pos) (Nb r d):=by
 intro g s i H Q I h;exact UnaryOp_ (cT (l g s i H _ I h) λv m ⟨x,n,o,p,q⟩=>j g m i n x v Q o p q)
def FH{f:Vl->Vl->Sem Vl}{C:Int->Int->Prop}{g:Int->Int->Int}
  (rule: ∀(i j:Int) (t u:Tok) (s:Sh) (Q:VP) (E:VP),C i j->Q (.int (g i j) s.toks) {s with toks:=s.toks+1}->wpAny (model X.prog X.w) X.A (f (.int i t) (.int j u)) Q E s):
  OpR X f (rI C λi j=> .int (g i j)):=by
 intro p s r H x y v u Q I l m h;obtain⟨i,j,rfl,rfl,n,q⟩:=h;obtain⟨t,rfl⟩:=l;obtain⟨o,rfl⟩:=m;exact rule i j t o s _ _ n ⟨.int (g i j),H,I.tok _,⟨_,zZ⟩,q⟩
def yO{f:Vl->Vl->Sem Vl}{g:Int->Int->Int}
  (rule: ∀(i j:Int) (t u:Tok) (s:Sh) (Q:VP) (E:VP),Q (.int (g i j) s.toks) {s with toks:=s.toks+1}->wpAny (model X.prog X.w) X.A (f (.int i t) (.int j u)) Q E s):
  OpR X f (t0 λi j=> .int (g i j)):=by
 intro o s p H x y v u Q I l m h;obtain⟨i,j,rfl,rfl,q⟩:=h;obtain⟨t,rfl⟩:=l;obtain⟨n,rfl⟩:=m;exact rule i j t n s _ _ ⟨.int (g i j),H,I.tok _,⟨_,zZ⟩,q⟩
def xY{f:Vl->Vl->Sem Vl}{g:Int->Int->Bool}
  (rule: ∀(i j:Int) (t u:Tok) (s:Sh) (Q:VP) (E:VP),Q (.bool (g i j)) s->wpAny (model X.prog X.w) X.A (f (.int i t) (.int j u)) Q E s):
  OpR X f (t0 λi j=> .bl (g i j)):=by
 intro o s p H x y v u Q I l m h;obtain⟨i,j,rfl,rfl,q⟩:=h;obtain⟨t,rfl⟩:=l;obtain⟨n,rfl⟩:=m;exact rule i j t n s _ _ ⟨.bl (g i j),H,I,zZ,q⟩
def BX(i j:Int):Prop:=0<j/\j<1073741824
def ug:OpR X (binaryOp .Add) (t0 λi j=> .int (i+j)):=yO λ_ _ _ _ _ _ _ q=>add_int q
def Gf:OpR X (binaryOp .Sub) (t0 λi j=> .int (i-j)):=yO λ_ _ _ _ _ _ _ q=>sub_int q
def wy:OpR X (binaryOp .FloorDiv) (rI BX λi j=> .int (i/j)):=FH λi j _ _ _ _ _ f q=>by
 have g:(0:Int)<j:=f.1;have h:j<1073741824:=f.2;exact floordiv_int () (by rw[Int.fdiv_eq_ediv_of_nonneg i ()];exact q) (.inl (PyProof.noPylong_small ()))
def nB:OpR X (binaryOp .Mod) (rI (λ_ j=>0<j) λi j=> .int (i%j)):=FH λi j _ _ _ _ _ f q=>by
 have g:(0:Int)<j:=f;exact mod_int' () (by rw[Int.fmod_eq_emod_of_nonneg i ()];exact q)
def LJ{f:Vl->Sem Vl}{g:Int->Int}
  (rule: ∀(i:Int) (t:Tok) (s:Sh) (Q:VP) (E:VP),Q (.int (g i) s.toks) {s with toks:=s.toks+1}->wpAny (model X.prog X.w) X.A (f (.int i t)) Q E s):
  EQ X f (rU λi=> .int (g i)):=by
 intro l s m H x v Q I j h;obtain⟨i,rfl,q⟩:=h;obtain⟨t,rfl⟩:=j;exact rule i t s _ _ ⟨.int (g i),H,I.tok _,⟨_,zZ⟩,q⟩
def Nj:EQ X (unaryOp .USub) (rU λi=> .int (-i)):=LJ λ_ _ _ _ _ q=>neg_int q
end
def x4:V->V->Bool
 | .non,.non=>true| .non,.int _=>true| .int _,.non=>true| .non,.bl _=>true| .bl _,.non=>true| .non,.str _=>true| .str _,.non=>true
 | .int _,.int _=>true| .bl _,.bl _=>true| .str _,.str _=>true| .byt _,.byt _=>true
 | .int _,.str _=>true| .str _,.int _=>true| .bl _,.str _=>true| .str _,.bl _=>true
 |_,_=>false
def Jj:R2:=λx y H Q=>x4 x y=true/\Q (.bl (decide (x=y))) H
def NM:R2:=λx y H Q=>x4 x y=true/\Q (.bl (!decide (x=y))) H
def Gx{i j:Int}:decide (V.int i=V.int j)=(i==j):=by
 rw[lH];simp
def FQ{i j:Bool}:decide (V.bl i=V.bl j)=(i==j):=by
 rw[lH];simp
def GV{i j:Str}:decide (V.str i=V.str j)=(i==j):=by
 rw[lH];simp
def Gr{i j:Array UInt8}:decide (V.byt i=V.byt j)=(i.toList==j.toList):=by
 rw[lH];cases i;cases j;simp
section
variable{X:Cx}{a b c:Expr}{d f g:TE}{pos:Pos}
def fW{h:AO}{i:St}{H:Hp}{s:Sh}{Q:VK}{k j:Bool}(I:Inv X h i H s)(q:Q (.bl k) H)(e:k=j):EP X h i Q (.bool j) s:=by
 subst e;exact⟨.bl k,H,I,zZ,q⟩
def Ak:OpR X (compareOp .Eq) Jj:=by
 intro n s o H x y v u Q I m e h;obtain⟨l,q⟩:=h;cases x with
 |non=>
  cases m;cases y with
  |non=>cases e;exact PySem.EqNone.eq_none_none (fW I q (by simp))
  |bl j=>cases e;exact PySem.EqNone.eq_none_bool (fW I q (by simp))
  |int j=>obtain⟨k,rfl⟩:=e;exact PySem.EqNone.eq_none_int (fW I q (by simp))
  |str j=>obtain⟨k,rfl⟩:=e;exact PySem.EqNone.eq_none_str (fW I q (by simp))
  |_=>exact wC (show false=true from l) gy
 |bl i=>
  cases m;cases y with
  |non=>cases e;exact PySem.EqNone.eq_bool_none (fW I q (by simp))
  |bl j=>cases e;exact eq_bool (fW I q FQ)
  |str j=>obtain⟨k,rfl⟩:=e;exact PySem.EqMixed.eq_bool_str (fW I q (by simp))
  |_=>exact wC (show false=true from l) gy
 |int i=>
  obtain⟨t,rfl⟩:=m;cases y with
  |non=>cases e;exact PySem.EqNone.eq_int_none (fW I q (by simp))
  |int j=>obtain⟨k,rfl⟩:=e;exact eq_int (fW I q Gx)
  |str j=>obtain⟨k,rfl⟩:=e;exact PySem.EqMixed.eq_int_str (fW I q (by simp))
  |_=>exact wC (show false=true from l) gy
 |str i=>
  obtain⟨t,rfl⟩:=m;cases y with
  |non=>cases e;exact PySem.EqNone.eq_str_none (fW I q (by simp))
  |bl j=>cases e;exact PySem.EqMixed.eq_str_bool (fW I q (by simp))
  |int j=>obtain⟨k,rfl⟩:=e;exact PySem.EqMixed.eq_str_int (fW I q (by simp))
  |str j=>obtain⟨k,rfl⟩:=e;exact eq_str (fW I q GV)
  |_=>exact wC (show false=true from l) gy
 |byt i=>
  obtain⟨t,rfl⟩:=m;cases y with
  |byt j=>obtain⟨k,rfl⟩:=e;exact PySem.W.eq_bytes (fW I q Gr)
  |_=>exact wC (show false=true from l) gy
 |_=>cases y<;>exact wC (show false=true from l) gy
def Fy:OpR X (compareOp .NotEq) NM:=by
 intro n s o H x y v u Q I m e h;obtain⟨l,q⟩:=h;cases x with
 |non=>
  cases m;cases y with
  |non=>cases e;exact PySem.EqNone.ne_none_none (fW I q (by simp))
  |bl j=>cases e;exact PySem.EqNone.ne_none_bool (fW I q (by simp))
  |int j=>obtain⟨k,rfl⟩:=e;exact PySem.EqNone.ne_none_int (fW I q (by simp))
  |str j=>obtain⟨k,rfl⟩:=e;exact PySem.EqNone.ne_none_str (fW I q (by simp))
  |_=>exact wC (show false=true from l) gy
 |bl i=>
  cases m;cases y with
  |non=>cases e;exact PySem.EqNone.ne_bool_none (fW I q (by simp))
  |bl j=>cases e;exact ne_bool (fW I q (dN not FQ))
  |str j=>obtain⟨k,rfl⟩:=e;exact PySem.EqMixed.ne_bool_str (fW I q (by simp))
  |_=>exact wC (show false=true from l) gy
 |int i=>
  obtain⟨t,rfl⟩:=m;cases y with
  |non=>cases e;exact PySem.EqNone.ne_int_none (fW I q (by simp))
  |int j=>obtain⟨k,rfl⟩:=e;exact ne_int (fW I q (dN not Gx))
  |str j=>obtain⟨k,rfl⟩:=e;exact PySem.EqMixed.ne_int_str (fW I q (by simp))
  |_=>exact wC (show false=true from l) gy
 |str i=>
  obtain⟨t,rfl⟩:=m;cases y with
  |non=>cases e;exact PySem.EqNone.ne_str_none (fW I q (by simp))
  |bl j=>cases e;exact PySem.EqMixed.ne_str_bool (fW I q (by simp))
  |int j=>obtain⟨k,rfl⟩:=e;exact PySem.EqMixed.ne_str_int (fW I q (by simp))
  |str j=>obtain⟨k,rfl⟩:=e;exact ne_str (fW I q (dN not GV))
  |_=>exact wC (show false=true from l) gy
 |byt i=>
  obtain⟨t,rfl⟩:=m;cases y with
  |byt j=>obtain⟨k,rfl⟩:=e;exact PySem.W.ne_bytes (fW I q (dN not Gr))
  |_=>exact wC (show false=true from l) gy
 |_=>cases y<;>exact wC (show false=true from l) gy
def yI:OpR X (compareOp .Lt) (t0 λi j=> .bl (decide (i<j))):=xY λ_ _ _ _ _ _ _ q=>lt_int q
def vW:OpR X (compareOp .Gt) (t0 λi j=> .bl (decide (j<i))):=xY λ_ _ _ _ _ _ _ q=>gt_int q
def Mu:OpR X (compareOp .Is) (λx y H Q=>y= .non/\Q (.bl (decide (x= .non))) H):=by
 intro j s k H x y v u Q I e i h;obtain⟨rfl,q⟩:=h;cases i;refine is_none_gen (fW I q ?_);cases x<;>first
  |(cases e;rfl)
  |(obtain⟨t,rfl⟩:=e;rfl)
def Fk:OpR X (compareOp .IsNot) (λx y H Q=>y= .non/\Q (.bl (!decide (x= .non))) H):=by
 intro j s k H x y v u Q I e i h;obtain⟨rfl,q⟩:=h;cases i;refine isnot_none_gen (fW I q ?_);cases x<;>first
  |(cases e;rfl)
  |(obtain⟨t,rfl⟩:=e;rfl)
def fY(b:Expr){e:CmpOp}(h:e≠ .In:=by decide)(i:e≠ .NotIn:=by decide):behindInMarks e b=false:=by
 have j:(e==CmpOp.In)=false:=by cases e<;>first|rfl|exact wC zZ h
 have k:(e==CmpOp.NotIn)=false:=by cases e<;>first|rfl|exact wC zZ i
 cases b<;>simp[behindInMarks,j,k]
def wm{e:CmpOp}{r:R2}(i:OpR X (compareOp e) r)(j:PE X a d)(k:PE X b f)(l:behindInMarks e b=false):PE X (.Compare a [e] [b] pos) (yB r d f):=by
 intro m s n H Q I h;exact wpAny_Compare1 (sq j k I h λv u o x y p t w z q=>i m o n p x y v u Q t w z q) l
def yt(t:TE):TT:=λe H Q=>t e H λx h=> ∃k,x= .bl k/\Q k h
def gB{i:CmpOp}{r:R2}(m:OpR X (compareOp i) r)(n:PE X a d)(o:PE X b f)(p:behindInMarks i b=false):PT X (.Compare a [i] [b] pos) (yt (yB r d f)):=by
 intro j s l H Q I h;refine wpAny_isTrue_Compare1 (cT (n j s l H _ I h) λv q ⟨x,t,w,A,B⟩=>cT (o j q l t _ w B) λu C ⟨y,D,E,G,J⟩=>
  cT (m j C l D x y v u _ E A G J) λc T ⟨z,L,M,N,k,e,O⟩=>?_) p
 subst e;cases N;exact qh ⟨L,M,O⟩
def se(K:Q5)(x:V)(H:Hp)(k:Bool):Prop:=
 match x with
 | .non=>k=false
 | .bl b=>k=b
 | .int i=>k=(i != 0)
 | .str y=>y.length<=sizeLine/\k=((y.length:Int) != 0)
 | .byt y=>y.size<=sizeLine/\k=((y.size:Int) != 0)
 | .ref p=>(∃e,SqL K H p e/\k= !e.isEmpty)∨(∃e,SqT K H p e/\k= !e.isEmpty)∨ ∃h,H p=some (.dK h)/\k= !h.isEmpty
 |_=>False
def OX{h:Type}{e:List (h×V)}{i:List (h×Vl)}(r:KV e i):(!i.isEmpty)= !e.isEmpty:=by
 cases r<;>rfl
def HL{h:List V}{e:Vs}(r:Vals h e):(!e.toArray.isEmpty)= !h.isEmpty:=by
 cases r<;>simp
def wT:(sizeLine:Nat)<2 ^ 63:=by rw[dz];decide
def Jo:CC X (λx H Q=> ∃k,se X.K x H k/\Q k H):=by
 intro G s J H x v Q I u h;obtain⟨k,e,q⟩:=h;have L:=wT;have M:sizeLine=16777216:=dz;cases x with
 |non=>
  cases u;have j:k=false:=e;subst j;exact truthy_none ⟨H,I,q⟩
 |bl b=>
  cases u;have j:k=b:=e;subst j;exact qh ⟨H,I,q⟩
 |int i=>
  obtain⟨t,rfl⟩:=u;have j:k=(i != 0):=e;subst j;exact PySem.P.truthy_int ⟨H,I,q⟩
 |str y=>
  obtain⟨t,rfl⟩:=u;obtain⟨D,j⟩:y.length<=sizeLine/\k=((y.length:Int) != 0):=e;subst j;exact PySem.P.truthy_str () ⟨H,I.tok _,q⟩
 |byt y=>
  obtain⟨t,rfl⟩:=u;obtain⟨D,j⟩:y.size<=sizeLine/\k=((y.size:Int) != 0):=e;subst j;exact PySem.W.truthy_bytes () ⟨H,I.tok _,q⟩
 | ref p=>
  cases u;have j:(∃o,SqL X.K H p o/\k= !o.isEmpty)∨(∃o,SqT X.K H p o/\k= !o.isEmpty)∨ ∃l,H p=some (.dK l)/\k= !l.isEmpty:=e
  rcases j with⟨o,w,j⟩|⟨o,w,j⟩|⟨l,w,j⟩
  .subst j;obtain⟨A,r,B,C⟩:=I.list w;have n:=r.length;exact wpAny_truthy_list B.isList (by simp only[List.size_toArray];lia) ⟨H,I.tok _,by rw[HL r];exact q⟩
  .subst j;obtain⟨A,r,B,C⟩:=I.tuple w;have n:=r.length;exact truthy_tuple B (by simp only[List.size_toArray];lia) ⟨H,I.tok _,by rw[HL r];exact q⟩
  .subst j;obtain⟨C,E,z,r,m⟩:l.length<=sizeLine/\(p==sysModules)=false/\ ∃z,KV l z/\s.heap.DictOf (l8 X.prog X.w) p z:=I.hok p _ w;have n:l.length=z.length:=pB r;exact wpAny_truthy_dict E m () ⟨H,I.tok _,by rw[OX r];exact q⟩
 |_=>exact(show False from e).elim
def Fn(m:PE X a d)(n: ∀e,isTrue a X.env e=(do let v <-e;standAt a.pos;holding [v] (truthy v))):
  PT X a (λi H Q=>d i H λx j=> ∃k,se X.K x j k/\Q k j):=by
 intro l s i H Q I h;exact isTrue_plain (cT (m l s i H _ I h) λv o ⟨x,p,q,r,t⟩=>Jo l o i p x v Q q r t) (n _)
def j3{x:V}{e:Vs}(r:Vals [x] e): ∃u,e=[u]/\RelV x u:=by
 cases r with
 |cons h i=>cases i;exact⟨_,zZ,h⟩
def xA{x y:V}{e:Vs}(r:Vals [x,y] e): ∃u h,e=[u,h]/\RelV x u/\RelV y h:=by
 cases r with
 |cons i j=>
  cases j with
  |cons k l=>cases l;exact⟨_,_,zZ,i,k⟩
end
structure ObjM(h:Heap)(x dx C:Ad)(mA:SV):Prop where
 obj:h.get? x=some (PySem.W.instObj C dx)
 ns:h.Ns1 dx mA
 ne:dx≠x
def Ol{h:Heap}{c:Ad}{d:SV}(n:h.Ns1 c d): ∃f,h.get? c=some f/\ ∀name,PySem.W.lookIn name f=some (d name):=by
 obtain⟨o,g,r,i,j,k,_,l⟩:=n;refine⟨o,i,λname=>?_⟩;have e:=l name;unfold nsFind findBy at e;rw[<-Array.find?_toList]at e;unfold PySem.W.lookIn;rw[j];dsimp only;split
 .rename_i y q
  rw[q]at e;exact dN some e
 .rename_i q
  rw[q]at e;have a:g.toList.any (·.refKey)=false:=by
   rw[Aa];intro y m;obtain⟨z,t,b⟩:=k y (Cm.mp m);simp[DictEntry.refKey,b]
  have p: ¬g.toList.any (·.refKey)=true:=by rw[a];exact gy
  rw[wA p];exact dN some e
def ObjM.look{h:Heap}{x b C:Ad}{c:SV}(I:ObjM h x b C c): ∃a,PySem.W.InstAt h x (PySem.W.instObj C b) C (some a)/\ ∀name,PySem.W.lookIn name a=some (c name):=
 let⟨a,d,e⟩:=Ol I.ns
 ⟨a,⟨I.obj,zZ,zZ,d⟩,e⟩
section
variable{c:Pg}{w:World}{A:Ar}{E:VP}{s:Sh}{K:Q5}{x i C f:Ad}{e:SV}{name:Str}{v:Vl}
def Mc{a:Bool}{Q:VP}(X:K.In s.heap)(I:ObjM s.heap x i C e)(d:PySem.W.plainGet K C name=true)(g:PySem.W.hasDictIn K C=true)
  (j:PySem.W.findIn K (.ref C) name=some none) (k:e name=some v) (b:PySem.W.handedIn v=true) (h:Q v {s with toks:=s.toks+1}):
  wpAny (model c w) A (getAttr (.ref x) name a) Q E s:=by
 obtain⟨m,J,l⟩:=I.look;exact PySem.W.get_value X J (DI d).1 (PySem.W.findObj_own g j zZ (by rw[l,k])) b h
def KE{b:Sem Bool}{Q:Vl×Vs->Sh->Prop}(X:K.In s.heap)(I:ObjM s.heap x i C e)(a:PySem.W.plainGet K C name=true)
  (d:PySem.W.findIn K (.ref C) name=some (some (.ref f))) (ht:PySem.W.isFn K (.ref f)=true) (g:e name=none) (h:Q (.ref f,[.ref x]) s):
  wpAny (model c w) A (getMethod (.ref x) name b) Q E s:=by
 obtain⟨j,J,k⟩:=I.look;exact PySem.W.method_fn X J (DI a).1 (DI a).2 d (oO.mp ht) (by show(PySem.W.lookIn name j).map (·.isSome)=some false;rw[k,g];rfl) h
def Jf{o:Ss}{Q:Unit->Sh->Prop}(X:K.In s.heap)(I:ObjM s.heap x i C e)
  (p:PySem.W.findIn K (.ref C) "__setattr__"=some (some (.builtin "object.__setattr__"))) (q:PySem.W.plainOver K C=true) (ht:PySem.W.takerIn K C name=some none) (t:PySem.W.hasDictIn K C=true)
  (hw:PySem.Within e o) (u:o.length<=sizeLine)
  (h: ∀j,ObjM j x i C (λy=>if y=name then some v else e y)->Heap.SameBut i s.heap j->Q ⟨⟩ {s with heap:=j,toks:=s.toks+2}):
  wpAny (model c w) A (setAttr (.ref x) name v) Q E s:=by
 obtain⟨H,J,L⟩:=I.look;refine PySem.W.set_plain X J p (PySem.W.osa_open (s:={s with toks:=s.toks+1}) (r:=none) X J q ht λb=>?_);obtain⟨M,z,k⟩:=PySem.W.any_some t;have B:s.heap.get? x=some ⟨.ref C,some i,.plain,#[]⟩:=I.obj;refine cB (cH (cB (cB (wpAny_loadPart B (cB (PySem.W.Looks.here (s:={s with toks:=s.toks+1}) (PySem.W.looks_clsIn X z) ?_))))));rw[k];refine cH (a:=some i) (cB (cH (cB ?_)));refine wpAny_nsSet1 (s:={s with toks:=s.toks+1}) I.ns λj d g=>?_;obtain⟨N,D,G,l,m,n⟩:=d.count (PySem.Within.cons name v hw);refine cB (wpAny_lookBehind l (by rw[m];exact pastItsLine_dict (dL n (by rw[nt];lia))) ?_);exact cH (h _ ⟨(g.2 _ (fh I.ne)).trans I.obj,d,I.ne⟩ g)
def N1{R:Result->Sh->Prop}{a:Vs}{b:List (Str×Vl)}(X:K.In s.heap)(j:PySem.W.makesIn K C=true)
    (k:PySem.W.findIn K (.ref C) "__init__"=some (some (.ref f))) (l:PySem.W.typeIn K (.ref f)=some (.type "function"))
    (h:codeAny (model c w) (A.under (.builtin "type.__call__" ⟨.ref C::a,b⟩)) (.call (.ref f) ⟨.ref (s.heap.objs.size+1)::a,b⟩) (PySem.W.InitBack (s.heap.objs.size+1) R)
      {s with heap:=(s.heap.push PySem.W.emptyDict).push (PySem.W.instObj C s.heap.objs.size)}):
    codeAny (model c w) A (.call (.ref C) ⟨a,b⟩) R s:=by
  obtain⟨m,g,d,t,os⟩:=s;exact PySem.W.make_core (PySem.W.makes_of X j) (PySem.W.looks_findIn X k) (λself=>PySem.W.bind_fn X self l) (.inl zZ) h
end
def dX(f:Str)(v:V):List (Str×V)->List (Str×V)
 | []=>[(f,v)]
 |(g,x)::r=>if g=f then(g,v)::r else(g,x)::dX f v r
theorem IB(f g:Str)(v:V): ∀fs:List (Str×V),(dX f v fs).lookup g=if g=f then some v else fs.lookup g
 | []=>by
  show List.lookup g [(f,v)]=_;by_cases h:g=f
  .have a:(g==f)=true:=oO.mpr h;simp only[List.lookup,a,wB h]
  .have a:(g==f)=false:=pA.mpr h;simp only[List.lookup,a,wA h]
 | (k,x)::r=>by
  have c:=IB f g v r;rw[show dX f v ((k,x)::r)=(if k=f then(k,v)::r else(k,x)::dX f v r)from rfl];by_cases b:k=f
  .rw[wB b];by_cases h:g=k
   .have a:(g==k)=true:=oO.mpr h;simp only[List.lookup,a,wB (h.trans b)]
   .have a:(g==k)=false:=pA.mpr h;simp only[List.lookup,a,wA (λe:g=f=>h (e.trans b.symm))]
  .rw[wA b];by_cases h:g=k
   .have a:(g==k)=true:=oO.mpr h;simp only[List.lookup,a,wA (λe:g=f=>b (h.symm.trans e))]
   .have a:(g==k)=false:=pA.mpr h;simp only[List.lookup,a];exact c
theorem EF(f:Str)(v:V): ∀fs:List (Str×V),f∈(dX f v fs).map (·.1)/\ ∀g,g∈fs.map (·.1)->g∈(dX f v fs).map (·.1)
 | []=>⟨by simp[dX],λg h=>by simp at h⟩
 | (k,x)::r=>by
  obtain⟨b,c⟩:=EF f v r;rw[show dX f v ((k,x)::r)=(if k=f then(k,v)::r else(k,x)::dX f v r)from rfl];by_cases a:k=f
  .rw[wB a];subst a;exact⟨by simp,λg h=>by simpa using h⟩
  .rw[wA a];refine⟨?_,λg h=>?_⟩
   .rw[iG];exact fR _ b
   .rw[iG]at h⊢
    rcases dZ.mp h with e|e
    .exact dZ.mpr (.inl e)
    .exact fR _ (c g e)
theorem Gw(f:Str)(v:V): ∀fs:List (Str×V),(dX f v fs).length<=fs.length+1
 | []=>by simp[dX]
 |(k,x)::r=>by
  have b:=Gw f v r;rw[show dX f v ((k,x)::r)=(if k=f then(k,v)::r else(k,x)::dX f v r)from rfl];by_cases a:k=f
  .rw[wB a,nt,nt];lia
  .rw[wA a,nt,nt];lia
def RelO.some_of{v:V}{o:Option Vl}(r:RelO (some v) o): ∃u,o=some u/\RelV v u:=by
 cases o with
 |none=>exact(show False from r).elim
 |some u=>exact⟨u,zZ,r⟩
def RelO.none_of{o:Option Vl}(r:RelO none o):o=none:=by
 cases o with
 |none=>rfl
 |some u=>exact(show False from r).elim
def OT{v:V}{u:Vl}(r:RelV v u):PySem.W.handedIn u=true:=by
 cases v with
 |non=>cases(show u=Value.none from r);rfl
 |bl b=>cases(show u=Value.bool b from r);rfl
 |int i=>obtain⟨t,e⟩:=(show ∃t,u=Value.int i t from r);cases e;rfl
 |str x=>obtain⟨t,e⟩:=(show ∃t,u=Value.str x t from r);cases e;rfl
 |byt b=>obtain⟨t,e⟩:=(show ∃t,u=Value.bytes b t from r);cases e;rfl
 |flt b=>obtain⟨t,e⟩:=(show ∃t,u=Value.float b t from r);cases e;rfl
 |ref a=>cases(show u=Value.ref a from r);rfl
 |ty n=>cases(show u=Value.type n from r);rfl
section
variable{P:Pg}{w:World}{H i:Hp}{h g:Heap}{a C b:Ad}{fs c:List (Str×V)}
def Bc(k:HOk P w H h)(e:H a=some (.ins C b fs)): ∃j,ObjM h a b C j/\(∀f,RelO (fs.lookup f) (j f))/\PySem.Within j (fs.map (·.1))/\fs.length<=1000/\H b=some (.own a):=by
 obtain⟨d,z,l,m,j,n,r,q⟩:=(show ObjOk P w H h a (.ins C b fs)from k a _ e);exact⟨j,⟨m,n,l⟩,r,q,z,d⟩
end
structure Cls(K:Q5)(C:Ad):Prop where
 pg:PySem.W.plainGet K C Str.empty=true
 hd:PySem.W.hasDictIn K C=true
 po:PySem.W.plainOver K C=true
 sa:PySem.W.findIn K (.ref C) "__setattr__"=some (some (.builtin "object.__setattr__"))
def Cls.get{K:Q5}{C:Ad}(c:Cls K C)(f:Str):PySem.W.plainGet K C f=true:=c.pg
def NoAttr(K:Q5)(C:Ad)(f:Str):Prop:=PySem.W.findIn K (.ref C) f=some none
def NoAttr.taker{K:Q5}{C:Ad}{f:Str}(n:NoAttr K C f):PySem.W.takerIn K C f=some none:=by
 unfold PySem.W.takerIn;rw[show PySem.W.findIn K (.ref C) f=some none from n];rfl
structure Meth(K:Q5)(C:Ad)(m:Str)(f:Ad):Prop where
 at_:PySem.W.findIn K (.ref C) m=some (some (.ref f))
 fn:PySem.W.isFn K (.ref f)=true
 kp:PySem.W.keepIn K (.ref f)=true
section
variable{X:Cx}{d:AO}{i:St}{H:Hp}{s:Sh}{a C j:Ad}{fs:List (Str×V)}{f:Str}{v:V}{A:Ar}{E:VP}
def MK{b:Bool}{Q:VP}(I:Inv X d i H s)(e:H a=some (.ins C j fs))(c:Cls X.K C)(n:NoAttr X.K C f)(l:fs.lookup f=some v)
  (h: ∀u g,Inv X d i H g->RelV v u->Q u g):wpAny (model X.prog X.w) A (getAttr (.ref a) f b) Q E s:=by
 obtain⟨m,O,r,_,_,_⟩:=Bc I.hok e;obtain⟨u,p,k⟩:=RelO.some_of (v:=v) (o:=m f) (by rw[<-l];exact r f);exact Mc I.kIn O (c.get f) c.hd n p (OT k) (h u _ (I.tok _) k)
def FI{m:Str}{g:Ad}{b:Sem Bool}{Q:Vl×Vs->Sh->Prop}(I:Inv X d i H s)(e:H a=some (.ins C j fs))(c:Cls X.K C)(k:Meth X.K C m g)(l:fs.lookup m=none)
  (h:Q (.ref g,[.ref a]) s):wpAny (model X.prog X.w) A (getMethod (.ref a) m b) Q E s:=by
 obtain⟨n,O,r,_,_,_⟩:=Bc I.hok e;have o:n m=none:=RelO.none_of (by rw[<-l];exact r m);exact KE I.kIn O (c.get m) k.at_ k.fn o h
def Kf{y:V}{u:Vl}{Q:Unit->Sh->Prop}(I:Inv X d i H s)(e:H a=some (.ins C j fs))(c:Cls X.K C)(n:NoAttr X.K C f)(T:fs.length<1000)(w:RelV y u)
  (h: ∀l,Inv X d i (cA H a (.ins C j (dX f y fs))) l->Q ⟨⟩ l):wpAny (model X.prog X.w) A (setAttr (.ref a) f u) Q E s:=by
 obtain⟨m,O,r,p,_,t⟩:=Bc I.hok e;have B:(fs.map (·.1)).length<=sizeLine:=by rw[cC,dz];lia
 refine Jf I.kIn O c.sa c.po n.taker c.hd p B λD k G=>h _ ?_;have J: ∃o,D.get? j=some o:=let⟨o,_,_,L,_⟩:=k.ns;⟨o,L⟩
 refine I.write (x:=a) (e:=j) (by rw[e];exact True.intro) (.inr t) (λb q M z=>(G.2 b M).trans z) J ?_;refine⟨by rw[cK O.ne];exact t,?_,O.ne,k.obj,_,k.ns,λg=>?_,λg N=>?_⟩
 .have:=Gw f y fs;lia
 .show RelO ((dX f y fs).lookup g) (if g=f then some u else m g);rw[IB];by_cases q:g=f
  .rw[wB q,wB q];exact w
  .rw[wA q,wA q];exact r g
 .by_cases q:g=f
  .rw[q];exact(EF f y fs).1
  .refine(EF f y fs).2 g (p g λz=>N ?_);show(if g=f then some u else m g)=none;rw[wA q];exact z
def Inv.made(I:Inv X d i H s):Inv X d i (cA (cA H s.heap.objs.size (.own (s.heap.objs.size+1))) (s.heap.objs.size+1) (.ins C s.heap.objs.size []))
    {s with heap:=(s.heap.push PySem.W.emptyDict).push (PySem.W.instObj C s.heap.objs.size)}:=by
  have c:(s.heap.push PySem.W.emptyDict).get? s.heap.objs.size=some PySem.W.emptyDict:=fj s.heap rfl;have h:((s.heap.push PySem.W.emptyDict).push (PySem.W.instObj C s.heap.objs.size)).get? (s.heap.objs.size+1)=some (PySem.W.instObj C s.heap.objs.size):=by
    have:=fj (s.heap.push PySem.W.emptyDict) (o:=PySem.W.instObj C s.heap.objs.size) rfl;rwa[rf]at this
  have k:(s.heap.push PySem.W.emptyDict).Ns s.heap.objs.size (λ_=>none):=⟨PySem.W.emptyDict,#[],_,c,zZ,(λe l=>wC l (by simp)),λ_=>rfl⟩;have m:=I.laid (a:=s.heap.objs.size) (o:= .own (s.heap.objs.size+1)) (h':=s.heap.push PySem.W.emptyDict) (t':=s.toks) (λb u q=>dM _ q) (cO _) ⟨_,c⟩;refine m.laid (a:=s.heap.objs.size+1) (o:= .ins C s.heap.objs.size []) (t':=s.toks) (λb u q=>dM _ q) (pq (rf _ _)) ?_;have g:s.heap.objs.size≠s.heap.objs.size+1:=d9 (oJ _);refine⟨by rw[cK g,cF],jj _,g,h,λ_=>none,(Heap.Ns1.of_empty k).at λo q=>dM _ q,λ_=>True.intro,λy n=>wC rfl n⟩
def Nm{b:Pg}{w:World}{c:Env}{e:Expr}{f:Str}{pos:Pos}{s:Sh}{Q:VP}(k:attributeBase e f c (eval e c)=eval e c)
  (h:wpAny (model b w) A (eval e c) (λo g=>wpAny (model b w) A (getAttr o f true) Q E g) E s):wpAny (model b w) A (eval (.Attribute e f pos) c) Q E s:=
 Attribute_any_ h (by rw[arm_eval_Attribute,k])
end
def Ci(K:Q5)(c:TE)(f:Str):TE:=λd H Q=>c d H λx b=> ∃a C e fs v,x= .ref a/\b a=some (.ins C e fs)/\Cls K C/\NoAttr K C f/\fs.lookup f=some v/\Q v b
def DT(K:Q5)(e g:TE)(f:Str):TS:=λD b H=>g b H λy h=>e b h λx c=> ∃a C d fs,x= .ref a/\c a=some (.ins C d fs)/\Cls K C/\NoAttr K C f/\fs.length<1000/\
 D.nx b (cA c a (.ins C d (dX f y fs)))
section
variable{X:Cx}{o e b:Expr}{f:Str}{pos d j:Pos}{g i:TE}
def iB(k:PE X e g)(m:attributeBase e f X.env (eval e X.env)=eval e X.env):PE X (.Attribute e f pos) (Ci X.K g f):=by
 intro p s r H Q I h;refine Nm m (cT (k p s r H _ I h) λu E ⟨x,t,w,y,a,C,G,fs,v,z,A,c,n,l,q⟩=>?_);subst z;obtain rfl:u=Value.ref a:=y;exact MK w A c n l λJ L B D=>⟨v,t,B,D,q⟩
def um(p:PE X o g)(r:PE X b i)(t:swapsWith b (some (.Attribute o f d)) pos.line X.env=pure false):PS X (.Assign [.Attribute o f d] b pos) (DT X.K g i f):=by
 intro m s k H D I h;refine plainObj_wpAny_Assign_Attribute (cT (r m s k H _ I h) λu v ⟨y,w,z,A,q⟩=>cT (p m v k w _ z q) λB O ⟨x,Q,E,G,a,C,T,fs,J,L,c,n,l,M⟩=>?_) t;subst J;obtain rfl:B=Value.ref a:=G;exact Kf E L c n l A λU N=>⟨k,_,N,M⟩
end
section
variable{X:Cx}{za:AO}{σ:St}{H:Hp}{s:Sh}{A:Ar}{E:VP}{Q:VP}{c:Vl}{b:Bool}
inductive TyOf (K:Q5) (H:Hp):V->Vl->Prop where
 |non:TyOf K H .non (.type "NoneType")
 |bl (x:Bool):TyOf K H (.bl x) (.type "bool")
 |int (i:Int):TyOf K H (.int i) (.type "int")
 |str (x:Str):TyOf K H (.str x) (.type "str")
 |flt (x:UInt64):TyOf K H (.flt x) (.type "float")
 |lst {a:Ad} {xs:List V} (e:H a=some (.lst xs)):TyOf K H (.ref a) (.type "list")
 |frz {a:Ad} {o:Obj} {xs:List V} (e:H a=some (.frz o (.lst xs))):TyOf K H (.ref a) (.type "list")
 |tup {a:Ad} {xs:List V} (e:H a=some (.tup xs)):TyOf K H (.ref a) (.type "tuple")
 |dK {a:Ad} {kvs:List (dB×V)} (e:H a=some (.dK kvs)):TyOf K H (.ref a) (.type "dict")
 |dT {a:Ad} {kvs:List (List dB×V)} (e:H a=some (.dT kvs)):TyOf K H (.ref a) (.type "dict")
 | ins {a C dx:Ad} {fs:List (Str×V)} (e:H a=some (.ins C dx fs)) (cl:Cls K C) (ha:PySem.W.findIn K (.ref C) "__class__"=some (some (.builtin "object.__class__")))
   (hn:PySem.W.specialIn K (.builtin "object.__class__") "__get__"=some (some (.builtin "getset_descriptor.__get__"))) (htk:PySem.W.takesIn K (.builtin "object.__class__")=some true)
   (hm:PySem.W.mroIn K C (.type "object")=some true):TyOf K H (.ref a) (.ref C)
def Oe{x:V}{u t:Vl}(I:Inv X za σ H s)(d:RelV x u)(ty:TyOf X.K H x t)(e:PySem.W.kitOne X.K t c=some b)(h: ∀v,Q (.bool b) {s with toks:=v}):
  wpAny (model X.prog X.w) A (call (.builtin "isinstance") [u,c]) Q E s:=by
 cases ty with
 |non=>cases(show u=Value.none from d);exact nC PySem.W.kitx_none I.kIn True.intro e (λz=>nomatch z) h
 |bl y=>cases(show u=Value.bool y from d);exact nC PySem.W.kitx_bool I.kIn True.intro e (λz=>nomatch z) h
 |int i=>obtain⟨t,q⟩:=(show ∃t,u=Value.int i t from d);cases q;exact nC PySem.W.kitx_int I.kIn True.intro e (λz=>nomatch z) h
 |str y=>obtain⟨t,q⟩:=(show ∃t,u=Value.str y t from d);cases q;exact nC PySem.W.kitx_str I.kIn True.intro e (λz=>nomatch z) h
 |flt y=>obtain⟨t,q⟩:=(show ∃t,u=Value.float y t from d);cases q;exact nC PySem.W.kitx_float I.kIn True.intro e (λz=>nomatch z) h
 | @lst a k f=>
  cases(show u=Value.ref a from d);obtain⟨_,_,n,_,g⟩:=(show ObjOk X.prog X.w H s.heap a (.lst k)from I.hok a _ f);exact nC PySem.W.kitx_list I.kIn ⟨_,g,zZ⟩ e (λz=>nomatch z) h
 | @frz a w k f=>
  cases(show u=Value.ref a from d);obtain⟨_,_,_,n,_,g⟩:=(show ObjOk X.prog X.w H s.heap a (.frz w (.lst k))from I.hok a _ f);exact nC PySem.W.kitx_list I.kIn ⟨_,g,zZ⟩ e (λz=>nomatch z) h
 | @tup a k f=>
  cases(show u=Value.ref a from d);obtain⟨_,_,_,p⟩:=(show ObjOk X.prog X.w H s.heap a (.tup k)from I.hok a _ f);obtain⟨o,g,l,_⟩:=p;exact nC PySem.W.kitx_tuple I.kIn ⟨o,g,l⟩ e (λz=>nomatch z) h
 | @dK a j f=>
  cases(show u=Value.ref a from d);obtain⟨_,_,N,_,p⟩:=(show ObjOk X.prog X.w H s.heap a (.dK j)from I.hok a _ f);obtain⟨o,B,D,g,l,_⟩:=p;exact nC PySem.W.kitx_dict I.kIn ⟨o,g,l.1⟩ e (λz=>nomatch z) h
 | @dT a j f=>
  cases(show u=Value.ref a from d);obtain⟨_,_,k,_,o,B,D,g,l,_⟩:=(show ObjOk X.prog X.w H s.heap a (.dT j)from I.hok a _ f);exact nC PySem.W.kitx_dict I.kIn ⟨o,g,l.1⟩ e (λz=>nomatch z) h
 | @ins a C T fs f r G L m M=>
  cases(show u=Value.ref a from d);obtain⟨U,O,_⟩:=Bc I.hok f;obtain⟨Y,J,_⟩:=O.look;exact nC (PySem.W.kitx_own (r.get _) r.hd G L m M) I.kIn J e (λz=>nomatch z) h
end
structure Room(k:Nat)(A:Ar):Prop where
 hd:A.handled=none
 dp:A.depth+3 * k+5<recursionLimit
 un:A.units+16 * k+200<cLine
def Room.mono{j k:Nat}{A:Ar}(r:Room k A)(h:j<=k):Room j A:=⟨r.hd,by have:=r.dp;lia,by have:=r.un;lia⟩
def Room.m{A:Ar}{k j:Nat}(h:Room k A)(d:j≤k:=by decide):Room j A:=h.mono d
def Room.deeper{k:Nat}{A:Ar}(r:Room (k+1) A)(a:Env):Room k (A.deeper a):=
 ⟨r.hd,by have:=r.dp;show A.depth+1+3 * k+5<_;lia,by have:=r.un;show A.units+3+16 * k+200<_;lia⟩
def Room.in1{k:Nat}{A:Ar}(r:Room (k+1) A):Room k A.in1:=
 ⟨r.hd,by have:=r.dp;show A.depth+3 * k+5<_;lia,by have:=r.un;show A.units+1+16 * k+200<_;lia⟩
def Pt{A:Ar}{C:Ad}{a:Vs}{b:List (Str×Vl)}:(A.under (.builtin "type.__call__" ⟨.ref C::a,b⟩)).depth=A.depth+1:=by
 first|rfl|simp[Around.under,Code.weight,Code.isCreation,Code.isGuard,Code.isCaller,Code.frames,Code.isFrame,guardIds]
def NS{A:Ar}{C:Ad}{a:Vs}{b:List (Str×Vl)}:(A.under (.builtin "type.__call__" ⟨.ref C::a,b⟩)).units=A.units+1:=by
 first|rfl|simp[Around.under,Code.cUnits,Code.frames,Code.isFrame]
def Room.make{k:Nat}{A:Ar}(r:Room (k+1) A)(C:Ad)(a:Vs)(b:List (Str×Vl)):Room k (A.under (.builtin "type.__call__" ⟨.ref C::a,b⟩)):=
 ⟨r.hd,by have:=r.dp;rw[Pt];lia,by have:=r.un;rw[NS];lia⟩
def Room.depth{k:Nat}{A:Ar}(r:Room k A):A.depth<recursionLimit:=by have:=r.dp;lia
def Room.units{k:Nat}{A:Ar}(r:Room k A):A.units+64<cLine:=by have:=r.un;lia
def lZ:TA:=λ_ H Q=>Q [] H
def mN(b:TE)(c:TA):TA:=λa H Q=>b a H λx d=>c a d λe f=>Q (x::e) f
section
variable{X:Cx}{e:Expr}{a:List Expr}{c:TE}{t:TA}{pos:Pos}
def cJ:PA X [] lZ:=λ_ _ _ _ H Q I h=>Calls.spliced_nil ⟨[],H,I,.nil,h⟩
def cN(f:PE X e c)(g:PA X a t)(i:starEach (e::a) X.env=(false,eval e X.env)::starEach a X.env:=by rfl):PA X (e::a) (mN c t):=by
 intro pos b s d H Q I h;rw[i];show wpAny _ _ (spliced ((false,eval e X.env)::backTo pos (starEach a X.env))) _ _ s;refine Calls.spliced_cons (cT (f b s d H _ I h) λu j ⟨x,k,l,m,n⟩=>?_);exact cT (g pos b j d k _ l n) λw y ⟨o,p,q,r,v⟩=>⟨x::o,p,q,.cons m r,v⟩
def Cd(t:TA):TE:=λf H Q=>t f H λb d=>b.length<=sizeLine/\ ∀p,d p=none->Q (.ref p) (cA d p (.tup b))
def ym(t:TA):TE:=λf H Q=>t f H λb d=>b.length<=sizeLine/\ ∀p,d p=none->Q (.ref p) (cA d p (.lst b))
def jg{i}(h:PA X a t):PE X (.Tuple a i pos) (Cd t):=by
 intro j s k H Q I l;refine wpAny_Tuple_spliced (cT (h pos j s k H _ I l) λm d ⟨n,f,g,r,z,q⟩=>⟨by rw[<-r.length];exact z,?_⟩);have o:f d.heap.objs.size=none:=g.hok.fresh (cO _);refine⟨.ref d.heap.objs.size,cA f d.heap.objs.size (.tup n),g.laid (t':=d.toks) (λb u e=>dM _ e) (cO _) ?_,zZ,q _ o⟩;exact⟨z,m,r,⟨_,fj _ zZ,zZ,_,zZ,zZ⟩⟩
def gI(h:PA X a t):PE X (.List a pos) (ym t):=by
 intro i s j H Q I k;refine wpAny_List_spliced (cT (h pos i s j H _ I k) λl d ⟨m,f,g,r,z,q⟩=>⟨by rw[<-r.length];exact z,?_⟩);have n:f d.heap.objs.size=none:=g.hok.fresh (cO _);refine⟨.ref d.heap.objs.size,cA f d.heap.objs.size (.lst m),g.laid (t':=d.toks) (λb u e=>dM _ e) (cO _) ?_,zZ,q _ n⟩;exact⟨z,l,0,r,fj _ zZ⟩
end
abbrev Sp:=List V->Hp->VK->XK->Prop
abbrev qz:=List Env->Hp->Sh->XK->Vl->Sh->Prop
structure Env0(P:Pg)(w:World)(K:Q5)(mg:SV)(base:Heap)(A:Ar)(outer:List Env)(s:Sh)(H:Hp):Prop where
 frames:A.frames=some outer
 mod:Mod K mg base
 bs: ∀b o,base.get? b=some o->s.heap.get? b=some o/\H b=none
 bsz:base.objs.size<=s.heap.objs.size
 funs:s.heap.FunFrames base outer
 frf: ∀b∈kq outer,H b=none
 hok:HOk P w H s.heap
 bare:AllBare s.gens
def CE(a:List Env)(P:Pg)(w:World)(H:Hp)(s:Sh)(Q:VK)(u:Vl)(b:Sh):Prop:=
 ∃v c,b.os=s.os/\AllBare b.gens/\Un (kq a) [] H c s.heap b.heap/\HOk P w c b.heap/\RelV v u/\Q v c
def CR(c:qz)(a:List Env)(P:Pg)(w:World)(H:Hp)(s:Sh)(Q:VK)(E:XK)(r:Result)(b:Sh):Prop:=
 match r with
 | .ok (.ret u)=>CE a P w H s Q u b
 | .ok _=>False
 | .error e=>c a H s E e b
structure FnOk(P:Pg)(w:World)(K:Q5)(mg:SV)(base:Heap)(CX:qz)(k:Nat)(f:Ad)(fd:Fd)(ps:Ss)(sp:Sp):Prop where
 len: ∀vs H Q E,sp vs H Q E->vs.length=ps.length
 run: ∀(A:Ar) (outer:List Env) (s:Sh) (H:Hp) (args:Args) (us:Vs) (vs:List V) (Q:VK) (E:XK),Room k A->Env0 P w K mg base A outer s H->BindsTo s fd args (ps.zip us)->Vals vs us->sp vs H Q E->
  codeAny (model P w) A (.call (.ref f) args) (CR CX outer P w H s Q E) s
def Env0.make{P:Pg}{w:World}{K:Q5}{mg:SV}{b:Heap}{A:Ar}{a:List Env}{s:Sh}{H:Hp}(e:Env0 P w K mg b A a s H)(C:Ad)(c:Vs)(d:List (Str×Vl)):
  Env0 P w K mg b (A.under (.builtin "type.__call__" ⟨.ref C::c,d⟩)) a s H:=⟨by first|exact e.frames|(simpa[Around.under,Code.envs,Code.isFrame,pushEnvs]using e.frames),e.mod,e.bs,e.bsz,e.funs,e.frf,e.hok,e.bare⟩
def Env0.in1{P:Pg}{w:World}{K:Q5}{mg:SV}{b:Heap}{A:Ar}{a:List Env}{s:Sh}{H:Hp}(e:Env0 P w K mg b A a s H):
  Env0 P w K mg b A.in1 a s H:=⟨e.frames,e.mod,e.bs,e.bsz,e.funs,e.frf,e.hok,e.bare⟩
section
variable{X:Cx}{c:AO}{a:St}{H:Hp}{s e:Sh}
def Inv.env0(I:Inv X c a H s):Env0 X.prog X.w X.K X.mg X.base X.A X.stack s H:=
 ⟨I.ok.frames,I.ok.mod,I.bs,dL I.ok.bsz I.sz,I.stack,I.stkFree,I.hok,I.bare⟩
def Inv.after{Q:VK}{u:Vl}(I:Inv X c a H s)(h:CE X.stack X.prog X.w H s Q u e):EP X c a Q u e:=by
 obtain⟨v,H',os,f,un,i,r,q⟩:=h;obtain⟨k,g,d,t,j⟩:=e;obtain rfl:j=s.os:=os;exact⟨v,H',I.call (h':=k) (g':=g) (d':=d) (t':=t) (ch:=[]) un i f (λb z=>wC z (by simp)),r,q⟩
end
def Bi(b:Sp)(a:List V)(E:XK)(t:TA):TE:=λc H Q=>t c H λd e=>b (d++a) e Q E
def zx(C:Ad)(m:Str)(e:Sp)(b:List V)(E:XK)(f:TE)(t:TA):TE:=λc H Q=>f c H λx d=> ∃a g fs,x= .ref a/\d a=some (.ins C g fs)/\fs.lookup m=none/\
 t c d λh i=>e (x::(h++b)) i Q E
def Gi(C:Ad)(d:Sp)(b:List V)(E:XK)(t:TA):TE:=λe H Q=>t e H λf c=> ∀x a,c x=none->c a=none->a≠x->
 d (.ref x::(f++b)) (cA (cA c a (.own x)) x (.ins C a [])) (λv g=>v= .non/\Q (.ref x) g) E
def Binds(K:Q5)(d:Fd)(b:Ss)(c:Vs):Prop:=
 ∀(s:Sh) (a:Vs),K.In s.heap->(a++c).length=b.length->BindsTo s d ⟨a,[]⟩ (b.zip (a++c))
def Binds.all{K:Q5}{c:Fd}{b:Ss}(h: ∀a:Vs,a.length=b.length->bindArgs c ⟨a,[]⟩=pure (b.zip a)):Binds K c b []:=λs a _ d=>by
 rw[iV]at d⊢;exact .of_eq (h a d)
def r9(b:qz)(X:Cx)(E:XK):Prop:= ∀(c:AO) (d:St) (H:Hp) (s:Sh) (e:Vl) (a:Sh),Inv X c d H s->b X.stack H s E e a->X.xe e a
section
variable{X:Cx}{CX:qz}{k:Nat}{f C:Ad}{fd:Fd}{ps:Ss}{sp:Sp}{dvs:List V}{ds:Vs}{E:XK}{x m:Str}{p pos apos:Pos}{e o:Expr}{es:List Expr}{ta:TE}{t:TA}
def BG{b:AO}{c:St}{H:Hp}{s:Sh}{Q:VK}{us:Vs}{vs:List V}(F:FnOk X.prog X.w X.K X.mg X.base CX k f fd ps sp)(g:Room k X.A)(i:Binds X.K fd ps ds)(j:Vals dvs ds)(l:r9 CX X E)
  (I:Inv X b c H s) (r:Vals vs us) (h:sp (vs++dvs) H Q E):wpAny (model X.prog X.w) X.A (call (.ref f) us) (EP X b c Q) X.xe s:=by
 have d:Vals (vs++dvs) (us++ds):=r.append j;have n:(us++ds).length=ps.length:=by rw[<-d.length];exact F.len _ _ _ _ h
 refine wQ (oP (F.run X.A X.stack s H ⟨us,[]⟩ (us++ds) (vs++dvs) Q E g I.env0 (i s us I.kIn n) d h) λr q a=>?_);cases r with
 |error e=>exact l b c H s e q I a
 |ok v=>
  cases v with
  |ret u=>exact I.after a
  |next=>exact wE a
  |brk=>exact wE a
  |cont=>exact wE a
def Lr(F:FnOk X.prog X.w X.K X.mg X.base CX k f fd ps sp)(d:Room k X.A)(g:Gl X x)(i:X.mg x=some (.ref f))(j:PySem.W.keepIn X.K (.ref f)=true)(l:Binds X.K fd ps ds)(n:Vals dvs ds)(u:r9 CX X E)
  (v:PA X (e::es) t) (a:(x==("__debug__":Str))=false:=by decide) (w:starEach (e::es) X.env=(false,eval e X.env)::starEach es X.env:=by rfl) (b:(backTo pos (starEach es X.env)).any (·.1)=false:=by rfl):
  PE X (.Call (.Name x p) (e::es) [] pos) (Bi sp dvs E t):=by
 intro y s z H Q I h;refine ut (zV I g i ?_ a);refine Aq (h₀:=X.base) I.ok.mod.kin j (cT (v pos y s z H _ I h) λA B ⟨D,G,c,r,q⟩=>⟨c.kIn,?_⟩) w b;exact BG F d l n u c r q
def OJ{g:Sem Bool}(z:PE X o ta)(c:Cls X.K C)(i:Meth X.K C m f)(F:FnOk X.prog X.w X.K X.mg X.base CX k f fd ps sp)(A:Room k X.A)(B:Binds X.K fd ps ds)(D:Vals dvs ds)(G:r9 CX X E)(J:PA X (e::es) t)
  (b:starEach (e::es) X.env=(false,eval e X.env)::starEach es X.env:=by rfl) (d:(backTo pos (starEach es X.env)).any (·.1)=false:=by rfl)
  (ht:eval (.Call (.Attribute o m apos) (e::es) [] pos) X.env=(do
   let j <-eval o X.env
   standAt apos.atName
   let(f,first) <-holding [j] (getMethod j m g)
   callWith pos f first (backTo pos (starEach (e::es) X.env)) (backToKw pos (keywordEach [] X.env))):=by rfl):
  PE X (.Call (.Attribute o m apos) (e::es) [] pos) (zx C m sp dvs E ta t):=by
 intro n s v H Q I h;refine PySem.W.methodCall_KW (pl:=g) (cT (z n s v H _ I h) λu L ⟨x,M,w,N,a,dx,fs,O,T,l,q⟩=>?_) ht;subst O;obtain rfl:u=Value.ref a:=N;refine FI w T c i l ?_;refine Aq (first:=[.ref a]) (h₀:=X.base) I.ok.mod.kin i.kp (cT (J pos n L v M _ w q) λU s2 ⟨Y,H2,y,r,q2⟩=>⟨y.kIn,?_⟩) b d;exact BG (us:= .ref a::U) (vs:= .ref a::Y) F A B D G y (.cons zZ r) q2
def K8{pl:Sem Bool}(i:PE X o ta)(c:Cls X.K C)(d:Meth X.K C m f)(F:FnOk X.prog X.w X.K X.mg X.base CX k f fd ps sp)(j:Room k X.A)(n:Binds X.K fd ps ds)(r:Vals dvs ds)(v:r9 CX X E)
  (ht:eval (.Call (.Attribute o m apos) [] [] pos) X.env=(do
   let g <-eval o X.env
   standAt apos.atName
   let(f,first) <-holding [g] (getMethod g m pl)
   callWith pos f first (backTo pos (starEach [] X.env)) (backToKw pos (keywordEach [] X.env))):=by rfl):
  PE X (.Call (.Attribute o m apos) [] [] pos) (zx C m sp dvs E ta lZ):=by
 intro w s y H Q I h;refine PySem.W.methodCall_KW (pl:=pl) (cT (i w s y H _ I h) λu D ⟨x,G,b,z,a,J,fs,A,B,l,q⟩=>?_) ht;subst A;obtain rfl:u=Value.ref a:=z;refine FI b B c d l ?_;exact PySem.W.callWith_K0 (first:=[.ref a]) b.kIn d.kp (BG (us:=[.ref a]) (vs:=[.ref a]) F j n r v b (.cons zZ .nil) q)
structure Mk(K:Q5)(C f:Ad):Prop where
 makes:PySem.W.makesIn K C=true
 init:PySem.W.findIn K (.ref C) "__init__"=some (some (.ref f))
 fn:PySem.W.isFn K (.ref f)=true
 kp:PySem.W.keepIn K (.ref C)=true
def KW{g:AO}{i:St}{H:Hp}{s:Sh}{Q:VK}{b:Vs}{j:List V}(M:Mk X.K C f)(F:FnOk X.prog X.w X.K X.mg X.base CX k f fd ps sp)(q:Room (k+1) X.A)(w:Binds X.K fd ps ds)(y:Vals dvs ds)
  (z:r9 CX X E) (I:Inv X g i H s) (r:Vals j b)
  (h: ∀x c,H x=none->H c=none->c≠x->sp (.ref x::(j++dvs)) (cA (cA H c (.own x)) x (.ins C c [])) (λv A=>v= .non/\Q (.ref x) A) E):
  wpAny (model X.prog X.w) X.A (call (.ref C) b) (EP X g i Q) X.xe s:=by
 have l:=h (s.heap.objs.size+1) s.heap.objs.size (I.hok.fresh (oK _)) (I.hok.fresh (cO _)) (d9 (oJ _));have d:=Inv.made (C:=C) I;have n:Vals (V.ref (s.heap.objs.size+1)::(j++dvs)) (Value.ref (s.heap.objs.size+1)::(b++ds)):= .cons zZ (r.append y);have B:(Value.ref (s.heap.objs.size+1)::b++ds).length=ps.length:=by
  have e:=n.length;rw[F.len _ _ _ _ l]at e;exact e.symm
 refine wQ (N1 (f:=f) I.kIn M.makes M.init (oO.mp M.fn) (oP (F.run _ X.stack _ _ ⟨Value.ref (s.heap.objs.size+1)::b,[]⟩ (Value.ref (s.heap.objs.size+1)::(b++ds)) _ _ E (q.make C b [])
  (d.env0.make C b []) (w _ (Value.ref (s.heap.objs.size+1)::b) d.kIn B) n l) λr D a=>?_))
 cases r with
 |error e=>exact z g i _ _ e D d a
 | ok G=>
  cases G with
  |ret u=>
   obtain⟨v,J,L,N,O,T⟩:=d.after a;subst O;exact⟨N,⟨V.ref (s.heap.objs.size+1),J,L,zZ,T⟩⟩
  |next=>exact wE a
  |brk=>exact wE a
  |cont=>exact wE a
def PF(M:Mk X.K C f)(F:FnOk X.prog X.w X.K X.mg X.base CX k f fd ps sp)(d:Room (k+1) X.A)(g:Gl X x)(i:X.mg x=some (.ref C))(j:Binds X.K fd ps ds)(l:Vals dvs ds)(n:r9 CX X E)
  (u:PA X (e::es) t) (a:(x==("__debug__":Str))=false:=by decide) (v:starEach (e::es) X.env=(false,eval e X.env)::starEach es X.env:=by rfl) (b:(backTo pos (starEach es X.env)).any (·.1)=false:=by rfl):
  PE X (.Call (.Name x p) (e::es) [] pos) (Gi C sp dvs E t):=by
 intro w s y H Q I h;refine ut (zV I g i ?_ a);refine Aq (h₀:=X.base) I.ok.mod.kin M.kp (cT (u pos w s y H _ I h) λz A ⟨B,D,c,r,q⟩=>⟨c.kIn,?_⟩) v b;exact KW M F d j l n c r q
end
structure FnScope(N P:Ss)(sc:Scope):Prop where
 kind:sc.kind= .function:=by rfl
 co:sc.isCoroutine=false:=by rfl
 gen:sc.isGenerator=false:=by rfl
 nd:N.Nodup:=by decide+kernel
 pre:N.take P.length=P:=by rfl
 par: ∀x∈P,sc.names.lookup x=some .local∨sc.names.lookup x=some .cell:=by decide+kernel
 nofree: ∀y∈sc.names,y.2≠ .free:=by decide+kernel
theorem Fw{kindOf:Str->Option NameKind}{x:Str}: ∀{binds:List (Str×Vl)} {m:SV},(∀v,(x,v)∉binds)->bindL kindOf binds m x=m x
 | [],_,_=>rfl
 | (n,v)::r,m,h=>by
  unfold bindL;rw[Fw λw hw=>h w (fR _ hw)];split
  .have:x≠n:=by rintro rfl;exact h v dY
   simp[this]
  .rfl
theorem FU{kindOf:Str->Option NameKind}{x:Str}: ∀{binds:List (Str×Vl)} {m:SV},(∀v,(x,v)∉binds)->bindC kindOf binds m x=m x
 | [],_,_=>rfl
 | (n,v)::r,m,h=>by
  unfold bindC;rw[FU λw hw=>h w (fR _ hw)];split
  .rfl
  .have:x≠n:=by rintro rfl;exact h v dY
   simp[this]
theorem Hh{kindOf:Str->Option NameKind}{x:Str}{v:Vl}: ∀{P:Ss} {a:Vs} {i:Nat} {m:SV},P.Nodup->P[i]? =some x->a[i]? =some v->kindOf x=some .local->
  bindL kindOf (P.zip a) m x=some v
 | [],_,_,_,_,h,_,_=>by simp at h
 |_::_,[],_,_,_,_,h,_=>by simp at h
 |p::P,w::a,0,m,nd,b,c,d=>by
  simp at b c;subst b;subst c;show bindL kindOf ((p,w)::P.zip a) m p=_;unfold bindL;rw[Fw λv e=>(mE.mp nd).1 (Be e).1,wB d];simp
 |p::P,w::a,i+1,m,nd,b,c,d=>by
  show bindL kindOf ((p,w)::P.zip a) m x=_;unfold bindL;exact Hh (i:=i) (mE.mp nd).2 (by simpa using b) (by simpa using c) d
theorem HX{kindOf:Str->Option NameKind}{x:Str}{v:Vl}: ∀{P:Ss} {a:Vs} {i:Nat} {m:SV},P.Nodup->P[i]? =some x->a[i]? =some v->kindOf x≠some .local->
  bindC kindOf (P.zip a) m x=some v
 | [],_,_,_,_,h,_,_=>by simp at h
 |_::_,[],_,_,_,_,h,_=>by simp at h
 |p::P,w::a,0,m,nd,b,c,d=>by
  simp at b c;subst b;subst c;show bindC kindOf ((p,w)::P.zip a) m p=_;unfold bindC;rw[FU λv e=>(mE.mp nd).1 (Be e).1,wA d];simp
 |p::P,w::a,i+1,m,nd,b,c,d=>by
  show bindC kindOf ((p,w)::P.zip a) m x=_;unfold bindC;exact HX (i:=i) (mE.mp nd).2 (by simpa using b) (by simpa using c) d
def start(N:Ss)(a:List V):St:=a.map some++List.replicate (N.length-a.length) none
def td(g:qz)(P:Pg)(w:World)(K:Q5)(mg:SV)(base:Heap)(N:Ss)(b:Str)(a:Scope)(f:Ad)(d:Vl)(A:Ar)(outer:List Env)(s:Sh)(H:Hp)(E:XK):Cx where
 prog:=P
 w:=w
 K:=K
 mg:=mg
 base:=base
 A:=A.deeper (envOfC b a s.heap.objs.size f d)
 N:=N
 s₀:=s
 H₀:=H
 env:=envOfC b a s.heap.objs.size f d
 outer:=outer
 stack:=envOfC b a s.heap.objs.size f d::outer
 ex:=[]
 calm:=true
 fn:=λ_=>true
 pn:=[]
 xe:=λe h=>wpAny (model P w) (A.deeper (envOfC b a s.heap.objs.size f d)) (leaving (envOfC b a s.heap.objs.size f d) e) (λ_ c=>g outer H s E e c) (λi c=>g outer H s E i c) h
def Fu{a:Scope}{n:Nat}{x:Str}(h:a.names.lookup x=some .cell): ∃c,(cellsFrom n a.names []).lookup x=some c:=by
 have q:=PySem.W.cellsFrom_some a.names n [] (.inl h);exact Option.isSome_iff_exists.mp q
def L3{O:qz}{P:Pg}{w:World}{K:Q5}{mg:SV}{m:Heap}{N t:Ss}{j:Str}{d:Scope}{f:Ad}{I:Vl}{A:Ar}{g:List Env}{s Q:Sh}{H:Hp}{E:XK}{M:Vs}{B:List V}
  (S:FnScope N t d) (Y:A.handled=none) (o:Env0 P w K mg m A g s H) (hl:B.length=t.length) (r:Vals B M)
  (x:InCallC s s.heap.objs.size (bindL (envOfC j d s.heap.objs.size f I).kindOf (t.zip M) λ_=>none) (cellsFrom (s.heap.objs.size+1) d.names []) (bindC (envOfC j d s.heap.objs.size f I).kindOf (t.zip M) λ_=>none) Q):
  Inv (td O P w K mg m N j d f I A g s H E) [] (start N B) H Q:=by
 have aa:t.length<=N.length:=by have:=dN List.length S.pre;rw[fi]at this;lia
 obtain⟨J,tk,rfl,T⟩:=x.done;have C: ∀b:Ad,b∉(td O P w K mg m N j d f I A g s H E).ex:=λb z=>wC (show b∈([]:As)from z) (by simp);refine⟨⟨o.mod,S.kind,zZ,zZ,cO _,λy z c J l=>?_,λy hy=>?_,λy c _ h=>?_,λ_=>Y,Around.frames_deeper o.frames,.inr ⟨zZ,zZ⟩,λb z=>wC z (C b),o.bs,o.bsz,λb _ _=>C b,λb z=>wC z (C b),o.funs,o.frf⟩,
  rfl,o.bare,Un.kept T,⟨_,x.toInCall.ns,λi y v J l h3=>?_⟩,λy c h=>⟨_,x.cell y c h⟩,o.hok.fresh (cO _),λy c h=>?_,λp D=>wC (show p∈([]:AO)from D) (by simp),o.hok.kept T,?_⟩
 .exact name_of_addr x.apart (nK J) (nK l)
 .have hy:d.names.lookup y=some .cell∨d.names.lookup y=some .free:=hy
  rcases hy with hy|hy
  .exact Fu hy
  .exact wC zZ (S.nofree _ (nK hy))
 .exact fQ (x.above y c (nK h))
 .have L:i<B.length:=by
   unfold start at l;by_cases L:i<B.length
   .exact L
   .rw[e9 (by simpa using L)]at l;rw[List.getElem?_replicate]at l;split at l<;>cases l
  have ha:B[i]? =some v:=by
   unfold start at l;rw[fe (by simpa using L),List.getElem?_map]at l;cases e:B[i]? with
   |none=>rw[e]at l;cases l
   |some a=>rw[e]at l;cases l;rfl
  obtain⟨u,U,rv⟩:=r.get ha;have D:t[i]? =some y:=by
   rw[<-S.pre,pG ()];exact J
  have G:t.Nodup:=by rw[<-S.pre];exact S.nd.sublist (vX _ _)
  refine⟨u,rv,?_⟩
  rcases S.par y (cY D)with k|k
  .exact .inl ⟨k,Hh G D U k⟩
  .obtain⟨c,e⟩:=Fu (n:=s.heap.objs.size+1) k;refine .inr ⟨.inl k,c,e,?_⟩;have q:=x.cell y c e;rw[HX G D U (by show d.names.lookup y≠_;rw[k];decide)]at q;exact q
 .exact o.hok.fresh (fQ (x.above y c (nK h)))
 .unfold start;show _=N.length;rw[dF,cC,xv];lia
def IZ{M:qz}{P:Pg}{w:World}{K:Q5}{mg:SV}{h:Heap}{k:Nat}{f:Ad}{name d:Str}{i:Arguments}{j:List Stmt}{a:Scope}{dV kV D pm g ct oc:Vl}{an od:Option Ad}
  {T:Array (Option Vl)} {N O:Ss} {U:Sp} (lk:K.lookup f=some ⟨oc,od,.func (PySem.W.fnOf name d i j a dV kV D pm an g ct),T⟩) (Y:PySem.W.codeIn K g d=true) (S:FnScope N O a)
  (len: ∀l H Q E,U l H Q E->l.length=O.length)
  (z: ∀(A:Ar) (c:List Env) (s:Sh) (H:Hp) (l:List V) (Q:VK) (E:XK),Room k (A.deeper (envOfC d a s.heap.objs.size f g))->U l H Q E->
   ∃t,PSs (td M P w K mg h N d a f g A c s H E) j t/\t {nx:=λ_ p=>Q .non p,rt:=Q} (start N l) H):
  FnOk P w K mg h M (k+1) f (PySem.W.fnOf name d i j a dV kV D pm an g ct) O U:=by
 refine⟨len,λA c s H args us l Q E hr G hb r L=>?_⟩;have hl:=len _ _ _ _ L;have KX:K.In s.heap:=G.mod.kin.keeps λb o e=>(G.bs b o e).1;have aa:s.heap.NoLimit:=G.mod.nolimit.keeps λb o e=>(G.bs b o e).1;have B: ∀y∈O.zip us,a.names.lookup y.1=some .local∨(a.names.lookup y.1=some .cell/\((cellsFrom (s.heap.objs.size+1) a.names []).lookup y.1).isSome=true):=λ⟨n,v⟩ hy=>by
  rcases S.par n (Be hy).1 with q|q
  .exact .inl q
  .exact .inr ⟨q,PySem.W.cellsFrom_some _ _ _ (.inl q)⟩
 refine codeAny_call_function hr.depth (KX _ _ lk) zZ S.co S.gen zZ (PySem.W.codeRec_of KX Y) (hb _ _ _ _ ?_);refine wpAny_newFunctionEnv_cells S.kind B λab he s1 x=>?_;subst he;refine⟨aa.keeps x.toInCall.keep,codeAny_func ?_⟩;obtain⟨t,ht,hq⟩:=z A c s H l Q E (hr.deeper _) L;have I:Inv (td M P w K mg h N d a f g A c s H E) [] (start N l) H s1:=L3 S hr.hd G hl r x;refine iM (ht [] s1 (start N l) H _ I hq) (λfl s' C=>?_) λe s' C=>C;have fin: ∀{m:St} {p:Hp} {v:V} {u:Vl},Inv (td M P w K mg h N d a f g A c s H E) [] m p s'->RelV v u->Q v p->CE c P w H s Q u s':=
  λ{m p v u} J rv q=>⟨v,p,J.os,J.bare,J.base,J.hok,rv,q⟩
 cases fl with
 |ret u=>
  obtain⟨v,m,p,J,rv,q⟩:=C;exact fin J rv q
 |next=>
  obtain⟨m,p,J,q⟩:=C;exact fin (v:=V.non) (u:=Value.none) J zZ q
 |brk=>
  obtain⟨_,_,_,q⟩:=C;exact wE q
 |cont=>
  obtain⟨_,_,_,q⟩:=C;exact wE q
section
variable{X:Cx}{x:Str}{p pos:Pos}{e:Expr}{a:List Expr}{t:TA}{id T:String}{r:List V->Hp->VK->Prop}
def Gg(r:List V->Hp->VK->Prop)(t:TA):TE:=λb H Q=>t b H λc d=>r c d Q
def fc(g:kg X (.builtin id) r)(i:Gl X x)(j:X.mg x=none)(k:bootBuiltins x=some (.builtin id))(l:PA X (e::a) t)(m:x≠"__name__":=by decide)(b:(x==("__debug__":Str))=false:=by decide)
  (n:starEach (e::a) X.env=(false,eval e X.env)::starEach a X.env:=by rfl) (c:(backTo pos (starEach a X.env)).any (·.1)=false:=by rfl):PE X (.Call (.Name x p) (e::a) [] pos) (Gg r t):=by
 intro d s f H Q I h;refine ut (ue I i j k ?_ m b);exact PyProof.Rows.callWith_builtin1 (cT (l pos d s f H _ I h) λo q ⟨u,v,w,y,z⟩=>g d q f v u o Q w y z) n c
def iN(g:kg X (.type T) r)(i:Gl X x)(j:X.mg x=none)(k:bootBuiltins x=some (.type T))(l:PA X (e::a) t)(m:x≠"__name__":=by decide)(b:(x==("__debug__":Str))=false:=by decide)
  (n:starEach (e::a) X.env=(false,eval e X.env)::starEach a X.env:=by rfl) (c:(backTo pos (starEach a X.env)).any (·.1)=false:=by rfl):PE X (.Call (.Name x p) (e::a) [] pos) (Gg r t):=by
 intro d s f H Q I h;refine ut (ue I i j k ?_ m b);exact Aj (cT (l pos d s f H _ I h) λo q ⟨u,v,w,y,z⟩=>g d q f v u o Q w y z) n c
end
end L2
namespace HT
open PySem PyProof.Rows
def gu(A:Ar)(s:Sh)(a:Int)(t:Tok)(c:Int)(u:Tok): ∃e,SeqAt.EqAt A s (.int a t) (.int c u) e/\(e=true↔a=c):=
 ⟨(a==c),SeqAt.EqAt.int_int a t c u,by simp⟩
section
variable{a:Pg}{w:World}{A:Ar}{E:VP}{s:Sh}
def cat_tup{t b:Ad}{f c:Vs}{Q:VP}(ht:IsTup s.heap t f.toArray)(v:IsTup s.heap b c.toArray)(m:f≠[])
  (x:c=[]->Q (.ref t) s) (y:c≠[]->Q (.ref s.heap.objs.size) {s with heap:=s.heap.push {cls:= .type "tuple",data:= .seq (f++c).toArray}})
  (l:f.length+c.length<=sizeLine):wpAny (model a w) A (binaryOp .Add (.ref t) (.ref b)) Q E s:=by
 obtain⟨⟨cls,o,data,sl⟩,k,p,n,q⟩:=id ht;obtain⟨⟨r,g,data2,h⟩,d,i,u,j⟩:=id v;simp only at p q i j;subst p q i j;have e:f.toArray++c.toArray=(f++c).toArray:=by simp
 by_cases hw:c=[]
 .exact A4 ⟨_,k,zZ⟩ ⟨_,d,zZ⟩ DK seq_tuple_add PySem.F.slot_tuple_add PySem.F.entry_tuple_add (PySem.F.args_tuple_add_2 _ _)
   (tuple_addW1 t b f.toArray c.toArray n u o g sl h (by simpa using m) (by simp[hw])) ⟨k,d,x hw⟩
 .refine A4 ⟨_,k,zZ⟩ ⟨_,d,zZ⟩ DK seq_tuple_add PySem.F.slot_tuple_add PySem.F.entry_tuple_add (PySem.F.args_tuple_add_2 _ _)
   (tuple_addW2 t b f.toArray c.toArray n u o g sl h (by simpa using m) (by simpa using hw) (by rw[List.size_toArray,List.size_toArray];exact l)) ⟨k,d,?_⟩
  rw[e];exact y hw
def sIx(n d:Nat):Option Int->Nat
 |none=>d
 |some v=>if v<0 then(v+(n:Int)).toNat else min v.toNat n
def sIx_none(n d:Nat):sIx n d none=d:=rfl
def sIx_nat(n d k:Nat):sIx n d (some (k:Int))=min k n:=by
 show(if(k:Int)<0 then((k:Int)+(n:Int)).toNat else min (k:Int).toNat n)=min k n;rw[wA (),ip]
def N8(n d:Nat)(c:d<=n)(o:Option Int):sIx n d o<=n:=by
 cases o with
 |none=>exact c
 |some v=>
  show(if v<0 then(v+(n:Int)).toNat else min v.toNat n)<=n;by_cases b:v<0
  .rw[wB b];lia
  .rw[wA b];exact Nat.min_le_right _ _
def FE(v:Int)(n d:Nat):(if v<0 then max (v+(n:Int)) 0 else min v (n:Int))=((sIx n d (some v):Nat):Int):=by
 show(if v<0 then max (v+(n:Int)) 0 else min v (n:Int))=(((if v<0 then(v+(n:Int)).toNat else min v.toNat n):Nat):Int);by_cases b:v<0
 .simp only[wB b];lia
 .simp only[wA b];lia
def Jh(lo b:Option Int)(n:Nat):Builtin.Slice.sliceAdjust lo b 1 (n:Int)=(((sIx n 0 lo:Nat):Int),((sIx n n b:Nat):Int)):=by
 have c: ¬((1:Int)<0):=by lia
 unfold Builtin.Slice.sliceAdjust;simp only[c,if_false];refine Prod.ext ?_ ?_
 .cases lo with
  |none=>rfl
  |some v=>exact FE v n 0
 .cases b with
  |none=>rfl
  |some v=>exact FE v n n
def NY(i j:Nat):Builtin.Slice.slicePlaces (i:Int) (j:Int) 1=j-i:=by
 unfold Builtin.Slice.slicePlaces;have b:(1:Int)>0:=by lia
 simp only[b,if_true,Int.ediv_one];split<;>lia
def E5{v:Vl}{o:Option Int}{Q:Option Int->Sh->Prop}(p:IsPart v o)(h:Q o s):wpAny (model a w) A (Builtin.Slice.slicePartIndex v) Q E s:=by
 cases p with
 |none=>exact slicePart_none h
 |int i t=>exact slicePart_int h
def sliceApplied_gen{sl:Ad}{e f:Vl}{lo b:Option Int}{n:Nat}{Q:Int×Int×Nat->Sh->Prop}(g:s.heap.IsSliceOf sl e f .none)(i:IsPart e lo)(j:IsPart f b)
  (h:Q (((sIx n 0 lo:Nat):Int),1,sIx n n b-sIx n 0 lo) s):wpAny (model a w) A (Builtin.Slice.sliceApplied (.ref sl) (pure (n:Int))) Q E s:=by
 obtain⟨os,c,k,d⟩:=id g;unfold Builtin.Slice.sliceApplied Builtin.Slice.sliceFields;refine cB (cB (pO c d (x:=e) zZ (cB (pO c d (x:=f) zZ (cB (pO c d (x:= .none) zZ (cH ?_)))))));refine cB (slicePart_none ?_);show wpAny _ _ (if((1:Int)==0)=true then _ else _) _ _ s;rw[wA (by decide)];refine cB (E5 i (cB (E5 j (cB (cH ?_)))));show wpAny _ _ (match Builtin.Slice.sliceAdjust lo b 1 (n:Int)with|(lo,b)=>pure (lo,(1:Int),Builtin.Slice.slicePlaces lo b 1)) _ _ s;rw[Jh lo b n];show wpAny _ _ (pure (((sIx n 0 lo:Nat):Int),(1:Int),Builtin.Slice.slicePlaces ((sIx n 0 lo:Nat):Int) ((sIx n n b:Nat):Int) 1)) _ _ s;rw[NY];exact cH h
def JS(b:AV)(i k:Nat):((List.range k).filterMap λ(m:Nat)=>b[((i:Int)+(m:Int) * 1).toNat]?).toArray=((b.toList.drop i).take k).toArray:=by
 have e:(λ(m:Nat)=>b[((i:Int)+(m:Int) * 1).toNat]?)=λm=>b[i+m]? :=by
  funext m
  have:((i:Int)+(m:Int) * 1).toNat=i+m:=by lia
  rw[this]
 rw[e];have:=pick_run b i k;rw[List.filterMap_map]at this;have c:((λx=>b[x]?)∘λx=>i+x)=λm=>b[i+m]? :=rfl;rw[c]at this;rw[this]
def getItem_tuple_cut{t sl:Ad}{b:AV}{j k:Vl}{lo d:Option Int}{Q:VP}(ht:IsTup s.heap t b)(l:s.heap.IsSliceOf sl j k .none)(n:IsPart j lo)(o:IsPart k d)
  (hw: ¬(sIx b.size 0 lo=0/\sIx b.size b.size d=b.size))
  (h:Q (.ref s.heap.objs.size) {s with heap:=s.heap.push {cls:= .type "tuple",data:= .seq ((b.toList.drop (sIx b.size 0 lo)).take (sIx b.size b.size d-sIx b.size 0 lo)).toArray}})
  (p:b.size<=sizeLine):wpAny (model a w) A (getItem (.ref t) (.ref sl)) Q E s:=by
 have c:sizeOk (.seq ((b.toList.drop (sIx b.size 0 lo)).take (sIx b.size b.size d-sIx b.size 0 lo)).toArray):=by
  show((b.toList.drop (sIx b.size 0 lo)).take (sIx b.size b.size d-sIx b.size 0 lo)).toArray.size<=sizeLine;rw[eM,fi,oD,eO];lia
 have u:sIx b.size b.size d<=b.size:=N8 _ _ (cO _) d;obtain⟨os,e,f,r⟩:=id l;have g:s.TypeIs (.ref sl) "slice":=⟨os,e,f⟩;unfold getItem
 try with_reducible refine hG ?_
 first|refine cB (cH ?_)|skip
 refine cB (wpAny_sequenceKey ht.typeIs (by decide) ?_);refine cB (oT (name:=Str.ofString "__getitem__") ht.typeIs vg
  (kv vg ht.typeIs entry_tuple_getitem ?_ (args_tuple_getitem _ _)))
 show wpAny _ _ (Builtin.Tuple.tupleItemsOf (.ref t) >>= _) _ _ s;refine cB (tupleItemsOf_ ht ?_);refine cB (vU g ?_);rw[wB (by decide)];refine cB (sliceApplied_gen l n o ?_);have i: ¬((((sIx b.size 0 lo:Nat):Int)==0&&(1:Int)==1&&(sIx b.size b.size d-sIx b.size 0 lo)==b.size)=true):=by
  intro q;rw[lU,lU]at q;have v:((sIx b.size 0 lo:Nat):Int)=0:=eq_of_beq q.1.1;have x:sIx b.size b.size d-sIx b.size 0 lo=b.size:=eq_of_beq q.2;exact hw ⟨(),()⟩
 show wpAny _ _ (if(((sIx b.size 0 lo:Nat):Int)==0&&(1:Int)==1&&(sIx b.size b.size d-sIx b.size 0 lo)==b.size)=true then _ else _) _ _ s;rw[wA i,JS]
 first
  |exact cB (m:=Builtin.Tuple.tupleExact _) (md (cH ⟨_,zZ,cH h⟩) c)
  |exact cB (m:=Builtin.Tuple.tupleExact _) (md (cB (cH (cH ⟨_,zZ,cH h⟩))) c)
  |exact cB (cB (m:=Builtin.Tuple.tupleExact _) (md (cH (cH ⟨_,zZ,cH h⟩)) c))
  |exact cB (cB (m:=Builtin.Tuple.tupleExact _) (md (cH ⟨_,zZ,cH h⟩) c))
end
end HT
namespace L2
open PySem PySem.Spec PyProof.Rows
abbrev TO:=St->Hp->(Option Int->Hp->Prop)->Prop
def PO(X:Cx)(e:Option Expr)(t:TO):Prop:=
 ∀(b:AO) (s:Sh) (a:St) (H:Hp) (Q:Option Int->Hp->Prop),Inv X b a H s->t a H Q->
  wpAny (model X.prog X.w) X.A (evalPart e X.env) (λu d=> ∃o c,Inv X b a c d/\IsPart u o/\Q o c) X.xe s
def Jz:TO:=λ_ H Q=>Q none H
def ze(t:TE):TO:=λa H Q=>t a H λx b=> ∃i,x= .int i/\Q (some i) b
def KO{a:Zs}: ∀{b:Vs},Vals (a.map V.int) b->IntsAre b a:=by
 induction a with
 |nil=>intro b r;rw[Bp]at r;cases r;exact .nil
 | cons n a c=>
  intro b r;rw[iG]at r;cases r with
  |cons d f=>
   obtain⟨t,e⟩:=d;subst e;exact .cons n t (c f)
section
variable{X:Cx}{e:Expr}{d:TE}{lo c:Option Expr}{tl f:TO}{pos g:Pos}
def z7:PO X none Jz:=by
 intro a s b H Q I h;rw[evalPart_none];exact cH ⟨none,H,I,.none,h⟩
def qE(h:PE X e d):PO X (some e) (ze d):=by
 intro a s b H Q I hw;rw[evalPart_some];refine cT (h a s b H _ I hw) λu n ⟨x,j,k,l,m⟩=>?_;obtain⟨i,rfl,q⟩:=m;obtain⟨t,rfl⟩:=l;exact⟨some i,j,k,.int i t,q⟩
def BL(X:Cx)(r:V->Option Int->Option Int->Hp->VK->Prop):Prop:=
 ∀(a:AO) (s:Sh) (b:St) (H:Hp) (x:V) (v h i:Vl) (lo c:Option Int) (sl:Ad) (Q:VK),Inv X a b H s->RelV x v->s.heap.IsSliceOf sl h i .none->IsPart h lo->IsPart i c->r x lo c H Q->
  ∃T id,typeLookup (.type T) "__getitem__"=pure (some (.builtin id))/\s.TypeIs v T/\wpAny (model X.prog X.w) X.A (getItem v (.ref sl)) (EP X a b Q) X.xe s
def NA(r:V->Option Int->Option Int->Hp->VK->Prop)(d:TE)(tl f:TO):TE:=λa H Q=>d a H λx b=>tl a b λl h=>f a h λu i=>r x l u i Q
def ve{r:V->Option Int->Option Int->Hp->VK->Prop}(m:BL X r)(n:PE X e d)(o:PO X lo tl)(p:PO X c f):PE X (.Subscript e (.Slice lo c none g) pos) (NA r d tl f):=by
 intro a s i H Q I h;refine Subscript_ (cT (n a s i H _ I h) λv t ⟨x,w,y,z,A⟩=>?_);refine wpAny_Slice (cT (o a t i w _ y A) λj B ⟨l,C,D,E,G⟩=>cT (p a B i C _ D G) λvu s3 ⟨u,k,J,L,M⟩=>?_);rw[evalPart_none];refine cH ?_;have N:Inv X a i k {s3 with heap:=s3.heap.push {cls:= .type "slice",data:= .fields #[j,vu,.none]}}:=J.kept (t':=s3.toks) λb U q=>dM _ q;obtain⟨T,id,hT,ht,O⟩:=m a {s3 with heap:=s3.heap.push {cls:= .type "slice",data:= .fields #[j,vu,.none]}} i k x v j vu l u s3.heap.objs.size Q N z (Heap.IsSliceOf.new ..) E L M;show wpAny (model X.prog X.w) X.A (subscriptTail e (.Slice lo c none g) v (.ref s3.heap.objs.size)) (EP X a i Q) X.xe {s3 with heap:=s3.heap.push {cls:= .type "slice",data:= .fields #[j,vu,.none]}};exact tail_any (ops:=[.ref s3.heap.objs.size,v]) ht hT O (by with_unfolding_all rfl)
def jB(a:List V)(lo c:Option Int):List V:=(a.drop (HT.sIx a.length 0 lo)).take (HT.sIx a.length a.length c-HT.sIx a.length 0 lo)
def HY(a:List V)(lo c:Option Int):(jB a lo c).length<=a.length:=by
 unfold jB;rw[fi,oD];lia
inductive y6(K:Q5)(x:V)(lo c:Option Int)(H:Hp)(Q:VK):Prop|mk:∀a b,x= .ref a->SqT K H a b->¬(HT.sIx b.length 0 lo=0/\HT.sIx b.length b.length c=b.length)->(∀p,H p=none->Q (.ref p) (cA H p (.tup (jB b lo c))))->y6 K x lo c H Q
def L5:BL X (y6 X.K):=by
 intro w s y H x v z A lo c sl Q I m n p t h;obtain⟨a,j,rfl,u,hw,q⟩:=h;cases m;obtain⟨k,r,ht,l⟩:=I.tuple u;have i:k.toArray.size=j.length:=by rw[eM];exact r.length.symm
 refine⟨"tuple",_,vg.lookup,ht.typeIs,?_⟩;refine HT.getItem_tuple_cut ht n p t (by rw[i];exact hw) ?_ (by rw[i];exact l);rw[i];refine⟨.ref s.heap.objs.size,_,I.laid (t':=s.toks) (o:= .tup (jB j lo c)) (λb B q=>dM _ q) (cO _) ?_,zZ,q _ (I.hok.fresh (cO _))⟩;exact⟨dL (HY j lo c) l,_,(r.drop (HT.sIx j.length 0 lo)).take (HT.sIx j.length j.length c-HT.sIx j.length 0 lo),TupD.new _ _⟩
inductive qo(K:Q5)(x y:V)(H:Hp)(Q:VK):Prop|mk:∀a b i h,x= .ref a->y= .ref b->SqT K H a i->SqT K H b h->i≠[]->i.length+h.length<=sizeLine->((h=[]->Q (.ref a) H))->((h≠[]-> ∀p,H p=none->Q (.ref p) (cA H p (.tup (i++h)))))->qo K x y H Q
def Vals.nil_iff{a:List V}{b:Vs}(r:Vals a b):b=[]↔a=[]:=by
 cases r with
 |nil=>simp
 |cons _ _=>simp
def MF:OpR X (binaryOp .Add) (qo X.K):=by
 intro J s L H x y v u Q I m n h;obtain⟨a,b,p,r,rfl,rfl,t,A,B,k,C,D⟩:=h;cases m;cases n;obtain⟨E,j,G,_⟩:=I.tuple t;obtain⟨l,i,g,_⟩:=I.tuple A;refine HT.cat_tup G g (λz=>B (j.nil_iff.mp z)) (λz=>⟨.ref a,H,I,zZ,C (i.nil_iff.mp z)⟩) (λz=>?_) (by rw[<-j.length,<-i.length];exact k);refine⟨.ref s.heap.objs.size,_,I.laid (t':=s.toks) (o:= .tup (p++r)) (λb M q=>dM _ q) (cO _) ?_,zZ,D (λw=>z (i.nil_iff.mpr w)) _ (I.hok.fresh (cO _))⟩;exact⟨by rw[dF];exact k,_,j.append i,TupD.new _ _⟩
end
def pW(n:Nat)(i:Int):Option Nat:=if 0<=i then(if i<n then some i.toNat else none)else if -(n:Int)<=i then some (i+n).toNat else none
def lF{a:Type}(b:List a)(i:Int):Option a:=(pW b.length i).bind λj=>b[j]?
def G5{n:Nat}{i:Int}{j:Nat}(h:pW n i=some j):seqIndex? i n=some j/\j<n/\ -(n:Int)<=i/\i<n:=by
 unfold pW at h;by_cases b:0<=i
 .rw[wB b]at h;by_cases a:i<n
  .rw[wB a]at h;have e:i.toNat=j:=gD h;exact⟨by rw[Bg b a,e],(),(),a⟩
  .rw[wA a]at h;cases h
 .rw[wA b]at h;by_cases a: -(n:Int)<=i
  .rw[wB a]at h;have e:(i+n).toNat=j:=gD h;exact⟨by rw[seqIndex_neg () a,e],(),a,()⟩
  .rw[wA a]at h;cases h
def Fq{b:Type}{a:List b}{i:Int}{v:b}(h:lF a i=some v): ∃j,seqIndex? i a.length=some j/\a[j]? =some v/\j<a.length/\ -(a.length:Int)<=i/\i<a.length:=by
 unfold lF at h;cases e:pW a.length i with
 |none=>rw[e]at h;cases h
 |some j=>
  rw[e]at h;obtain⟨c,d,f,g⟩:=G5 e;exact⟨j,c,h,d,f,g⟩
def gF{b:Type}{a:List b}{j:Nat}{v:b}(h:a[j]? =some v):lF a (j:Int)=some v:=by
 have c:j<a.length:=(cP.mp h).1;have e:pW a.length (j:Int)=some j:=by
  unfold pW;rw[wB (),wB ()];simp
 unfold lF;rw[e];exact h
def ND(b:Expr):Prop:= ∀o i,subscripted b false o i=operate [o,i] (getItem o i)
def IxR(X:Cx)(r:R2):Prop:=
 ∀(b a:Expr) (c:AO) (s:Sh) (d:St) (H:Hp) (x y:V) (v u:Vl) (Q:VK),Inv X c d H s->RelV x v->RelV y u->r x y H Q->
  subscripted a false v u=operate [v,u] (getItem v u)->wpAny (model X.prog X.w) X.A (subscriptTail b a v u) (EP X c d Q) X.xe s
def uj(X:Cx)(id:String)(r:V->List V->Hp->VK->Prop):Prop:=
 ∀(a:AO) (s:Sh) (b:St) (H:Hp) (x:V) (c:List V) (v:Vl) (d:Vs) (Q:VK),Inv X a b H s->RelV x v->Vals c d->r x c H Q->
  wpAny (model X.prog X.w) X.A (call (.builtin id) (v::d)) (EP X a b Q) X.xe s
section
variable{X:Cx}{a b:Expr}{B C:TE}{pos:Pos}
def cW{r:R2}(c:IxR X r)(d:PE X a B)(e:PE X b C)(f:ND b):PE X (.Subscript a b pos) (yB r B C):=by
 intro g s i H Q I h;exact Subscript_ (sq d e I h λv u j x y k l m n q=>c a b g j i k x y v u Q l m n q (f _ _))
inductive oh(K:Q5)(x y:V)(H:Hp)(Q:VK):Prop|mk:∀p c i v,x= .ref p->y= .int i->SqL K H p c->lF c i=some v->Q v H->oh K x y H Q
inductive mS(K:Q5)(x y:V)(H:Hp)(Q:VK):Prop|mk:∀p c i v,x= .ref p->y= .int i->SqT K H p c->lF c i=some v->Q v H->mS K x y H Q
def fX:IxR X (oh X.K):=by
 intro d e m s n H x y v u Q I E G h o;obtain⟨p,Y,i,z,rfl,rfl,J,L,q⟩:=h;cases E;obtain⟨t,rfl⟩:=G;obtain⟨f,r,g,hz⟩:=I.list J;obtain⟨j,c,M,h3,N,O⟩:=Fq L;obtain⟨w,A,k⟩:=r.get M;have T:=r.length;have hn:=wT;have fin:EP X m n Q w s:=⟨z,H,I,k,q⟩;by_cases D:0<=i
 .have l:i.toNat=j:=by
   rw[Bg D O]at c;exact gD c
  exact item_listR g.isList D () (by rw[l];simpa using A) fin o
 .have l:(i+(f.toArray.size:Int)).toNat=j:=by
   rw[seqIndex_neg () N]at c;rw[eM,<-T];exact gD c
  exact subscriptTail_builtinR (x:=w) g.isList.typeIs slot_list_getitem.lookup
   (wpAny_getItem_list_neg (Q:=λr U=>r=w/\EP X m n Q r U) g.isList () (by rw[eM]<;>lia) () (by rw[l];simpa using A) ⟨zZ,fin⟩) o
def dr:IxR X (mS X.K):=by
 intro c d f s g H x y v u Q I l m h n;obtain⟨p,N,i,z,rfl,rfl,o,A,q⟩:=h;cases l;obtain⟨t,rfl⟩:=m;obtain⟨D,r,k,O⟩:=I.tuple o;obtain⟨j,E,G,T,U,Y⟩:=Fq A;obtain⟨w,J,e⟩:=r.get G;have L:=r.length;have hn:=wT;have fin:EP X f g Q w s:=⟨z,H,I,e,q⟩;exact subscriptTail_builtinR (x:=w) k.typeIs slot_tuple_getitem.lookup
  (getItem_tuple (j:=j) (Q:=λr M=>r=w/\EP X f g Q r M) k () () (by rw[eM,<-L];exact E) (by simpa using J) ⟨zZ,fin⟩) n
def Km(c:Vs)(n j:Nat)(u:Vl):Obj.mapSeq (·.setIfInBounds j u) {cls:= .type "list",data:= .seq c.toArray n}={cls:= .type "list",data:= .seq (c.set j u).toArray n}:=by
 simp[Obj.mapSeq]
def Inv.lst{d:AO}{f:St}{H:Hp}{s:Sh}{p:Ad}{c:List V}(I:Inv X d f H s)(h:H p=some (.lst c)):
  ∃(its:Vs) (n:Nat),Vals c its/\s.heap.get? p=some {cls:= .type "list",data:= .seq its.toArray n}/\c.length<=sizeLine:=by
 obtain⟨z,its,n,r,e⟩:=I.hok p _ h;exact⟨its,n,r,e,z⟩
def Inv.lstUpd{j:AO}{k:St}{H:Hp}{s:Sh}{p:Ad}{m g:List V}{d c:Vs}{n i:Nat}{f:Obj->Obj}(I:Inv X j k H s)(h:H p=some (.lst m))
  (o:s.heap.get? p=some {cls:= .type "list",data:= .seq d.toArray n}) (l:f {cls:= .type "list",data:= .seq d.toArray n}={cls:= .type "list",data:= .seq c.toArray i}) (r:Vals g c) (v:g.length<=sizeLine) (t:Nat):
  Inv X j k (cA H p (.lst g)) {s with heap:=s.heap.update p f,toks:=t}:=by
 have e:(s.heap.update p f).get? p=some {cls:= .type "list",data:= .seq c.toArray i}:=by
  rw[v4 f o (by rw[l]<;>rfl),l]
 refine I.write (x:=p) (e:=p) (by rw[h];trivial) (.inl zZ) (λb u w q=>(mC _ _ (fh w)).trans q) ⟨_,e⟩ ?_;exact⟨v,c,i,r,e⟩
inductive ry(o i v:V)(H:Hp)(Q:Hp->Prop):Prop|mk:∀p c k j,o= .ref p->i= .int k->H p=some (.lst c)->pW c.length k=some j->Q (cA H p (.lst (c.set j v)))->ry o i v H Q
def Ah:xx X ry:=by
 intro z s A H o i v N O u Q I D E G h;obtain⟨p,J,k,j,rfl,rfl,l,L,q⟩:=h;cases D;obtain⟨t,rfl⟩:=E;obtain⟨c,n,r,e,M⟩:=I.lst l;obtain⟨d,T,m,w⟩:=G5 L;have f:=r.length;have U:=wT;have x:Inv X z A (cA H p (.lst (J.set j v))) {s with heap:=s.heap.update p (Obj.mapSeq (·.setIfInBounds j u))}:=
  I.lstUpd l e (Km c n j u) (r.set G j) (by rw[pN];exact M) s.toks
 by_cases y:0<=k
 .have g:k.toNat=j:=by
   rw[Bg y w]at d;exact gD d
  exact PySem.W.ki_setAt e y () (by rw[eM,<-f];exact w) (by rw[g];exact⟨_,x,q⟩)
 .have g:(k+(c.toArray.size:Int)).toNat=j:=by
   rw[seqIndex_neg () m]at d;rw[eM,<-f];exact gD d
  exact PySem.W.ki_setBack e () (by rw[eM,<-f];exact m) () (by rw[g];exact⟨_,x,q⟩)
def LF(lo c:Option Int)(n:Nat):(sliceBounds lo c none n).1=((HT.sIx n 0 lo:Nat):Int)/\(sliceBounds lo c none n).2.1=((HT.sIx n n c:Nat):Int)/\(sliceBounds lo c none n).2.2=1:=by
 refine⟨?_,?_,zZ⟩
 .cases lo with
  |none=>simp[sliceBounds,HT.sIx]
  |some i=>
   simp only[sliceBounds,HT.sIx,Option.getD_none,show(1:Int)>0 by decide,if_true];by_cases h:i<0
   .simp only[h,if_true]<;>lia
   .simp only[h,if_false]<;>lia
 .cases c with
  |none=>simp[sliceBounds,HT.sIx]
  |some i=>
   simp only[sliceBounds,HT.sIx,Option.getD_none,show(1:Int)>0 by decide,if_true];by_cases h:i<0
   .simp only[h,if_true]<;>lia
   .simp only[h,if_false]<;>lia
def M8(c:Vs)(lo d:Option Int):slicePick c.toArray lo d none=((c.drop (HT.sIx c.length 0 lo)).take (HT.sIx c.length c.length d-HT.sIx c.length 0 lo)).toArray:=by
 obtain⟨e,f,g⟩:=LF lo d c.toArray.size;unfold slicePick;rw[e,f,g];simp only[sliceRange_one,pick_run,List.size_toArray]<;>rfl
inductive yH(K:Q5)(x:V)(lo c:Option Int)(H:Hp)(Q:VK):Prop|mk:∀a d,x= .ref a->SqL K H a d->(∀p,H p=none->Q (.ref p) (cA H p (.lst (jB d lo c))))->yH K x lo c H Q
def Dc:BL X (yH X.K):=by
 intro n s p H x v t u lo e sl Q I f g i j h;obtain⟨a,c,rfl,k,q⟩:=h;cases f;obtain⟨l,r,ht,m⟩:=I.list k;have d:=r.length;refine⟨"list",_,slot_list_getitem.lookup,ht.isList.typeIs,?_⟩;refine wpAny_getItem_list_slice ht.isList g i j .none (by simp) ?_ (by rw[List.size_toArray]<;>lia);rw[M8,<-d];refine⟨.ref s.heap.objs.size,_,I.laid (t':=s.toks) (o:= .lst (jB c lo e)) (λb w q=>dM _ q) (cO _) ?_,zZ,q _ (I.hok.fresh (cO _))⟩;exact⟨dL (HY c lo e) m,_,0,(r.drop (HT.sIx c.length 0 lo)).take (HT.sIx c.length c.length e-HT.sIx c.length 0 lo),fj _ zZ⟩
def j6:V->Bool
 | .non=>true
 | .bl _=>true
 | .int _=>true
 | .str _=>true
 |_=>false
def n':V->V->Bool
 | .non,.non=>true
 | .bl a,.bl b=>a==b
 | .bl a,.int b=>(if a then 1 else 0)==b
 | .int a,.bl b=>a==(if b then 1 else 0)
 | .int a,.int b=>a==b
 | .str a,.str b=>a==b
 |_,_=>false
def z9{A:Ar}{s:Sh}{y x:V}{u v:Vl}(e:RelV y u)(c:RelV x v)(g:j6 y=true)(f:j6 x=true):SeqAt.EqAt A s u v (n' y x):=by
 cases y with
 |non=>
  cases e;cases x with
  |non=>cases c;exact SeqAt.EqAt.same _
  |bl b=>cases c;exact SeqAt.EqAt.none_bool b
  |int b=>obtain⟨t,rfl⟩:=c;exact SeqAt.EqAt.none_int b t
  |str b=>obtain⟨t,rfl⟩:=c;exact SeqAt.EqAt.none_str b t
  |_=>exact wC (show false=true from f) gy
 |bl a=>
  cases e;cases x with
  |non=>cases c;exact SeqAt.EqAt.bool_none a
  |bl b=>cases c;exact SeqAt.EqAt.bool_bool a b
  |int b=>obtain⟨t,rfl⟩:=c;exact SeqAt.EqAt.bool_int a b t
  |str b=>obtain⟨t,rfl⟩:=c;exact SeqAt.EqAt.bool_str a b t
  |_=>exact wC (show false=true from f) gy
 |int a=>
  obtain⟨d,rfl⟩:=e;cases x with
  |non=>cases c;exact SeqAt.EqAt.int_none a d
  |bl b=>cases c;exact SeqAt.EqAt.int_bool a d b
  |int b=>obtain⟨t,rfl⟩:=c;exact SeqAt.EqAt.int_int a d b t
  |str b=>obtain⟨t,rfl⟩:=c;exact SeqAt.EqAt.int_str a d b t
  |_=>exact wC (show false=true from f) gy
 |str a=>
  obtain⟨d,rfl⟩:=e;cases x with
  |non=>cases c;exact SeqAt.EqAt.str_none a d
  |bl b=>cases c;exact SeqAt.EqAt.str_bool a d b
  |int b=>obtain⟨t,rfl⟩:=c;exact SeqAt.EqAt.str_int a d b t
  |str b=>obtain⟨t,rfl⟩:=c;exact SeqAt.EqAt.str_str a d b t
  |_=>exact wC (show false=true from f) gy
 |_=>exact wC (show false=true from g) gy
def lJ(x:V)(u:Vl):Bool:=match u with
 | .none=>n' .non x
 | .bool b=>n' (.bl b) x
 | .int i _=>n' (.int i) x
 | .str z _=>n' (.str z) x
 |_=>false
def G7{x y:V}{u:Vl}(r:RelV y u)(f:j6 y=true):lJ x u=n' y x:=by
 cases y with
 |non=>cases r;rfl
 |bl b=>cases r;rfl
 |int i=>obtain⟨t,rfl⟩:=r;rfl
 |str z=>obtain⟨t,rfl⟩:=r;rfl
 |_=>exact wC (show false=true from f) gy
theorem xT{x:V}: ∀{c:List V} {d:Vs},Vals c d->c.all j6=true->d.any (lJ x)=c.any λy=>n' y x
 |_,_,.nil,_=>rfl
 |y::c,u::d,.cons r t,f=>by
  rw[List.all_cons,lU]at f;rw[vk,vk,G7 r f.1,xT t f.2]
theorem yQ{A:Ar}{s:Sh}{x:V}{v:Vl}(e:RelV x v)(g:j6 x=true): ∀{c:List V} {d:Vs},Vals c d->c.all j6=true-> ∀u∈d,SeqAt.EqAt A s u v (lJ x u)
 |_,_,.nil,_=>λu hu=>by cases hu
 |y::c,u::d,.cons r t,f=>λh hu=>by
  rw[List.all_cons,lU]at f
  rcases dZ.mp hu with rfl|hu
  .rw[G7 r f.1];exact z9 r e f.1 g
  .exact yQ e g t f.2 h hu
def By(x:V)(c:List V):Bool:=c.any λy=>n' y x
inductive yj(K:Q5)(c:Bool)(x y:V)(H:Hp)(Q:VK):Prop|mk:∀p d,y= .ref p->((SqL K H p d∨SqT K H p d))->j6 x=true->d.all j6=true->(Q (.bl (if c then !By x d else By x d)) H)->yj K c x y H Q
def MH:OpR X (compareOp .In) (yj X.K false):=by
 intro j s k H x y v u Q I e g h;obtain⟨p,l,rfl,hq,f,fs,q⟩:=h;cases g
 rcases hq with hq|hq
 .obtain⟨c,r,d,i⟩:=I.list hq;refine SeqAt.in_listAt (lJ x) d.isList (λw hw=>yQ e f r fs w (by simpa using hw)) ⟨.bl _,H,I,zZ,?_⟩;rw[show c.toArray.any (lJ x)=c.any (lJ x) by simp,xT r fs];exact q
 .obtain⟨c,r,d,i⟩:=I.tuple hq;refine SeqAt.in_tupleAt (lJ x) d (λw hw=>yQ e f r fs w (by simpa using hw)) ⟨.bl _,H,I,zZ,?_⟩;rw[show c.toArray.any (lJ x)=c.any (lJ x) by simp,xT r fs];exact q
def Ks:OpR X (compareOp .NotIn) (yj X.K true):=by
 intro j s k H x y v u Q I e g h;obtain⟨p,l,rfl,hq,f,fs,q⟩:=h;cases g
 rcases hq with hq|hq
 .obtain⟨c,r,d,i⟩:=I.list hq;refine SeqAt.notIn_listAt (lJ x) d.isList (λw hw=>yQ e f r fs w (by simpa using hw)) ⟨.bl _,H,I,zZ,?_⟩;rw[show c.toArray.any (lJ x)=c.any (lJ x) by simp,xT r fs];exact q
 .obtain⟨c,r,d,i⟩:=I.tuple hq;refine SeqAt.notIn_tupleAt (lJ x) d (λw hw=>yQ e f r fs w (by simpa using hw)) ⟨.bl _,H,I,zZ,?_⟩;rw[show c.toArray.any (lJ x)=c.any (lJ x) by simp,xT r fs];exact q
def gv:kg X (.builtin "len") (λi H Q=> ∃p d,i=[.ref p]/\(SqL X.K H p d∨SqT X.K H p d)/\Q (.int d.length) H):=by
 intro l s m H i n Q I r h;obtain⟨p,d,rfl,hq,q⟩:=h;obtain⟨u,rfl,j⟩:=j3 r;cases j;have o:=wT
 rcases hq with hq|hq
 .obtain⟨e,f,g,k⟩:=I.list hq;have c:=f.length;exact Calls.call_len_list g.isList (by simp only[List.size_toArray]<;>lia) ⟨.int d.length,H,I.tok _,⟨s.toks+1,by rw[List.size_toArray,c]⟩,q⟩
 .obtain⟨e,f,g,k⟩:=I.tuple hq;have c:=f.length;exact len_tuple g (by simp only[List.size_toArray]<;>lia) ⟨.int d.length,H,I.tok _,⟨s.toks+1,by rw[List.size_toArray,c]⟩,q⟩
def Kr:kg X (.type "list") (λy H Q=> ∃p f,y=[.ref p]/\(SqL X.K H p f∨SqT X.K H p f)/\ ∀l,H l=none->Q (.ref l) (cA H l (.lst f))):=by
 intro A s D H y G Q I r h;obtain⟨p,f,rfl,hq,q⟩:=h;obtain⟨u,rfl,E⟩:=j3 r;cases E;have fin: ∀(c:Vs),Vals f c->f.length<=sizeLine-> ∀(d:Heap) (g:Nat),(∀b z,s.heap.get? b=some z->d.get? b=some z)->
   d.get? s.heap.objs.size=some {cls:= .type "list",dict:=none,data:= .seq c.toArray g,slots:= #[]}->EP X A D Q (.ref s.heap.objs.size) {s with heap:=d}:=λc i j d g k e=>
  ⟨.ref s.heap.objs.size,_,I.laid (t':=s.toks) k (cO _) (show ObjOk X.prog X.w _ d _ (.lst f)from⟨j,c,g,i,e⟩),zZ,q _ (I.hok.fresh (cO _))⟩
 rcases hq with hq|hq
 .obtain⟨c,i,t,j⟩:=I.list hq;have m:=i.length;obtain⟨o,v,w,n,x⟩:=t.isList;exact call_list_seq p (.inl zZ) v w x (λd g k e=>fin c i j d g k e) (by simp only[List.size_toArray]<;>lia)
 .obtain⟨c,i,t,j⟩:=I.tuple hq;have m:=i.length;obtain⟨o,v,w,n,x⟩:=t;exact call_list_seq p (.inr zZ) v w x (λd g k e=>fin c i j d g k e) (by simp only[List.size_toArray]<;>lia)
def n6:kg X (.type "tuple") (λk H Q=> ∃p d,k=[.ref p]/\((SqL X.K H p d/\ ∀l,H l=none->Q (.ref l) (cA H l (.tup d)))∨(SqT X.K H p d/\Q (.ref p) H))):=by
 intro m s n H k A Q I r h;obtain⟨p,d,rfl,h⟩:=h;obtain⟨u,rfl,x⟩:=j3 r;cases x
 rcases h with⟨g,q⟩|⟨g,q⟩
 .obtain⟨c,i,j,t⟩:=I.list g;have v:=i.length;refine call_tuple_list j.isList (λf y=>?_) (by simp only[List.size_toArray]<;>lia);have w:Inv X m n H {s with heap:=f}:=I.kept (t':=s.toks) y;have z:Inv X m n (cA H f.objs.size (.tup d)) {s with heap:=f.push {cls:= .type "tuple",data:= .seq c.toArray}}:=
   w.laid (t':=s.toks) (λb o e=>dM _ e) (cO _) (show ObjOk X.prog X.w _ _ _ (.tup d)from⟨t,c,i,TupD.new _ _⟩)
  exact⟨.ref f.objs.size,_,z,zZ,q _ (w.hok.fresh (cO _))⟩
 .obtain⟨c,i,j,t⟩:=I.tuple g;exact call_tuple_same j ⟨.ref p,H,I,zZ,q⟩
def Ew(K:Q5)(T:String)(x:V)(H:Hp):Prop:=match x with
 | .str _=>T="str"
 | .int _=>T="int"
 | .ref p=>(T="list"/\ ∃d,SqL K H p d)∨(T="tuple"/\ ∃o,K.lookup p=some o/\o.cls= .type "tuple"/\o.dict=none)∨
   (T="dict"/\((∃c,H p=some (.dK c))∨ ∃c,H p=some (.dT c)))∨(T="set"/\ ∃S n,H p=some (.set S n))
 |_=>False
def G3{m:AO}{q:St}{H:Hp}{s:Sh}{T:String}{x:V}{v:Vl}(I:Inv X m q H s)(r:RelV x v)(ty:Ew X.K T x H):
  s.TypeIs v T/\ ∀a,v= .ref a-> ∃k,s.heap.get? a=some k/\k.dict=none:=by
 cases x with
 |str z=>
  obtain⟨t,rfl⟩:=r;cases(show T="str" from ty);exact⟨typeIs_str s z t,λ_ e=>nomatch e⟩
 |int i=>
  obtain⟨t,rfl⟩:=r;cases(show T="int" from ty);exact⟨wP s i t,λ_ e=>nomatch e⟩
 | ref p=>
  cases r
  rcases ty with⟨rfl,A,u⟩|⟨rfl,o,d,w,g⟩|⟨rfl,d⟩|⟨rfl,S,n,d⟩
  .obtain⟨y,_,l,_⟩:=I.list u;refine⟨l.isList.typeIs,λa e=>?_⟩;cases e;obtain⟨o,n,e,c,g,_⟩:=l;exact⟨o,e,g⟩
  .refine⟨⟨o,I.kIn p o d,w⟩,λa e=>?_⟩;cases e;exact⟨o,I.kIn _ o d,g⟩
  .have z: ∃o,s.heap.get? p=some o/\o.ExactDict:=by
    rcases d with⟨h,d⟩|⟨h,d⟩
    .obtain⟨_,_,_,_,o,_,_,e,f,_⟩:=I.hok p _ d;exact⟨o,e,f⟩
    .obtain⟨_,_,_,_,o,_,_,e,f,_⟩:=I.hok p _ d;exact⟨o,e,f⟩
   obtain⟨o,e,f⟩:=z;refine⟨⟨o,e,f.1⟩,λa j=>?_⟩;cases j;exact⟨o,e,f.2.1⟩
  .obtain⟨o,_,_,_,e,f,_⟩:=I.hok p _ d;refine⟨⟨o,e,f.1⟩,λa j=>?_⟩;cases j;exact⟨o,e,f.2.1⟩
 |_=>exact wE ty
def BW(K:Q5)(T:String)(r:V->List V->Hp->VK->Prop)(to:TE):TE:=λd H Q=>to d H λx c=>Ew K T x c/\r x [] c Q
def Af(K:Q5)(T:String)(r:V->List V->Hp->VK->Prop)(to:TE)(t:TA):TE:=λc H Q=>to c H λx d=>Ew K T x d/\t c d λe f=>r x e f Q
variable{o e:Expr}{m:List Expr}{to:TE}{t:TA}{name:Str}{g d:Pos}{T id:String}{r:V->List V->Hp->VK->Prop}
def Ly(q:PlainAttrs T)(i:Slot T name id)(j:typeOf (.builtin id)=pure (.type "method_descriptor"))(u:uj X id r)(w:PE X o to)
  (c:attributeBase o name X.env (eval o X.env)=eval o X.env:=by rfl) (f:(g.endLine==d.line)=true:=by rfl):PE X (.Call (.Attribute o name g) [] [] d) (BW X.K T r to):=by
 intro k s l H Q I h;refine wpAny_Call_method0_late c f (cT (w k s l H _ I h) λv y ⟨x,z,n,p,ty,A⟩=>?_);obtain⟨D,E⟩:=G3 n p ty;exact⟨T,id,q,i,j,D,E,EH zZ (PySem.evalArgs_none (u k y l z x [] v [] Q n p .nil A))⟩
def hE(y:PlainAttrs T)(j:Slot T name id)(l:typeOf (.builtin id)=pure (.type "method_descriptor"))(z:uj X id r)(A:PE X o to)(D:PA X (e::m) t)
  (f:attributeBase o name X.env (eval o X.env)=eval o X.env:=by rfl)
  (k:((backTo d (starEach (e::m) X.env)).all (λx=> !x.1)&&(backToKw d (keywordEach [] X.env)).all (λx=>x.1.isSome)
   &&decide ((e::m).length+([]:List Keyword).length+(if([]:List Keyword).isEmpty then 0 else 1)<30))=true:=by rfl)
  (i:(g.endLine==d.line)=true:=by rfl) (E:starEach (e::m) X.env=(false,eval e X.env)::starEach m X.env:=by rfl) (c:(backTo d (starEach m X.env)).any (·.1)=false:=by rfl):
  PE X (.Call (.Attribute o name g) (e::m) [] d) (Af X.K T r to t):=by
 intro n s p H Q I h;refine wpAny_Call_method_late f k i zZ (cT (A n s p H _ I h) λv G ⟨x,J,q,u,ty,L⟩=>?_);obtain⟨M,N⟩:=G3 q u ty;refine⟨T,id,y,j,l,M,N,?_⟩;have w:=D d n G p J _ q L;rw[E]at w⊢;refine EH (by show(false || (backTo d (starEach m X.env)).any (·.1))=false;rw[c]<;>rfl) (Calls.evalArgs_plain ?_);exact cT w λO U ⟨Y,H2,I2,r2,q2⟩=>z n U p H2 x Y v O Q I2 u r2 q2
end
def GR(X:Cx)(id:String)(r:V->List V->Hp->VK->Prop):Prop:=
 ∀(a:AO) (s:Sh) (b:St) (H:Hp) (x:V) (c:List V) (v:Vl) (d:Vs) (Q:VK),Inv X a b H s->RelV x v->Vals c d->r x c H Q->
  wpAny (model X.prog X.w) X.A (call (.builtin id) (v::d)) (EP X a b Q) X.xe s
theorem Vals.one: ∀{x:V} {a:Vs},Vals [x] a-> ∃u,a=[u]/\RelV x u
 |_,_,.cons r .nil=>⟨_,zZ,r⟩
theorem Vals.eraseIdx: ∀{a:List V} {b:Vs} (i:Nat),Vals a b->Vals (a.eraseIdx i) (b.eraseIdx i)
 |_,_,_,.nil=> .nil
 |_,_,0,.cons _ t=>t
 |_,_,i+1,.cons r t=> .cons r (Vals.eraseIdx i t)
theorem Vals.rep{a:List V}{b:Vs}(h:Vals a b): ∀k:Nat,Vals (List.replicate k a).flatten (List.replicate k b).flatten
 |0=> .nil
 |k+1=>by
  rw[yp,yp,AB,AB];exact Vals.append h (Vals.rep h k)
theorem FP{a:Type}: ∀(l:List a) (i:Nat),(l.eraseIdx i).length<=l.length
 | [],_=>cO _
 |_::_,0=>oK _
 |_::r,i+1=>Nat.succ_le_succ (FP r i)
theorem Cu(a:Vs): ∀(k:Nat) (b:Vs),
  List.foldl (λc d=>c++d) b.toArray (List.replicate k a.toArray)=(b++(List.replicate k a).flatten).toArray
 |0,b=>by simp
 | k+1,b=>by
  have e:b.toArray++a.toArray=(b++a).toArray:=by simp
  have f:(b++a)++(List.replicate k a).flatten=b++(List.replicate (k+1) a).flatten:=by
   rw[yp,AB,fO]
  rw[<-f,<-Cu a k (b++a),<-e,yp,CD]
section
variable{X:Cx}{a:AO}{c:St}{H:Hp}{s:Sh}{l b:Ad}{g d i:List V}
def Inv.lset{h its':Vs}{n:Nat}{f:AV->Array Vl}{t':Nat}(I:Inv X a c H s)(j:H l=some (.lst g))
  (e:s.heap.get? l=some {cls:= .type "list",data:= .seq h.toArray n}) (k:f h.toArray=its'.toArray) (m:Vals d its') (o:d.length<=sizeLine):
  Inv X a c (cA H l (.lst d)) {s with heap:=s.heap.update l (Obj.mapSeq f),toks:=t'}:=by
 have q:=PySem.IsL.update e f;rw[k]at q;refine I.write (x:=l) (e:=l) (by rw[j];exact trivial) (.inl zZ) (λt u p r=>(mC s.heap (Obj.mapSeq f) (fh p)).trans r) ⟨_,q⟩ ?_;exact⟨o,its',_,m,q⟩
def Inv.lnew{e:Vs}{t':Nat}(I:Inv X a c H s)(f:Vals d e)(h:d.length<=sizeLine):
  Inv X a c (cA H s.heap.objs.size (.lst d)) {s with heap:=s.heap.push {cls:= .type "list",data:= .seq e.toArray},toks:=t'}:=
 I.laid (λ_ _ q=>dM _ q) (cO _) ⟨h,e,0,f,fj _ zZ⟩
def Inv.fresh(I:Inv X a c H s):H s.heap.objs.size=none:=I.hok.fresh (cO _)
def Inv.lstM(I:Inv X a c H s)(h:H l=some (.lst g)):g.length<=sizeLine/\ ∃(f:Vs) (n:Nat),Vals g f/\g.length=f.length/\s.heap.get? l=some {cls:= .type "list",data:= .seq f.toArray n}:=by
 obtain⟨z,f,n,r,e⟩:=I.hok l _ h;exact⟨z,f,n,r,r.length,e⟩
def Kv{n:Nat}(h:n<=sizeLine):Builtin.List.listTooLong n=false:=by
 unfold Builtin.List.listTooLong;exact fy ()
end
section
variable{X:Cx}
inductive i7(x:V)(b:List V)(H:Hp)(Q:VK):Prop|mk:∀l a y,x= .ref l->b=[y]->H l=some (.lst a)->a.length<sizeLine->Q .non (cA H l (.lst (a++[y])))->i7 x b H Q
def ku:GR X "list.append" i7:=by
 intro g s i H x j v k Q I c d h;obtain⟨l,m,y,rfl,rfl,b,o,q⟩:=h;cases c;obtain⟨u,rfl,f⟩:=d.one;obtain⟨z,a,n,r,p,e⟩:=I.lstM b;refine oo F.slot_list_append ⟨_,e,zZ⟩ F.entry_list_append (F.args_list_append_2 _ _) (PySem.list_append l a.toArray n u (by rw[eM];lia)) ⟨e,?_⟩;refine⟨.non,_,I.lset (its':=a++[u]) b e (by simp) (r.append (.cons f .nil)) ?_,zZ,q⟩;rw[dF,wM];lia
inductive n0(x:V)(b:List V)(H:Hp)(Q:VK):Prop|mk:∀l a i k y,x= .ref l->b=[.int i]->H l=some (.lst a)-> -(2 ^ 63)<=i->i<2 ^ 63->seqIndex? i a.length=some k->a[k]? =some y->Q y (cA H l (.lst (a.eraseIdx k)))->n0 x b H Q
def Gp:GR X "list.pop" n0:=by
 intro C s D H x E v G Q I d f h;obtain⟨l,g,i,k,y,rfl,rfl,c,j,m,o,p,q⟩:=h;cases d;obtain⟨u,rfl,A⟩:=f.one;obtain⟨t,rfl⟩:=A;obtain⟨z,a,n,r,B,e⟩:=I.lstM c;obtain⟨w,hw,b⟩:=r.get p;refine oo F.slot_list_pop ⟨_,e,zZ⟩ F.entry_list_pop (F.args_list_pop_2 _ _)
  (MeetsSeq.list_pop_at l a.toArray n i t k w (fitsIndex_both j m) (by rw[eM,<-B];exact o) (by rw[<-lK];exact hw) (by rw[eM];lia)) ⟨e,?_⟩
 refine⟨y,_,I.lset (its':=a.eraseIdx k) c e ?_ (r.eraseIdx k) ?_,b,q⟩
 .show a.toArray.eraseIdxIfInBounds k=(a.eraseIdx k).toArray;rw[List.eraseIdxIfInBounds_toArray]
 .have:=FP g k;lia
inductive ya(x y:V)(H:Hp)(Q:VK):Prop|mk:∀l k a,x= .ref l->y= .int k->H l=some (.lst a)-> -(2 ^ 63)<=k->k<2 ^ 63->a.length * k.toNat<=sizeLine->(∀p,H p=none->Q (.ref p) (cA H p (.lst (List.replicate k.toNat a).flatten)))->ya x y H Q
def CJ{b:Type}(a:List b)(k:Nat):(List.replicate k a).flatten.length=k * a.length:=by
 induction k with
 |zero=>simp
 |succ k c=>rw[yp,AB,dF,c,Nat.succ_mul,Am]
def OE:OpR X (binaryOp .Mult) ya:=by
 intro L s M H x y v u Q I w A h;obtain⟨l,k,N,rfl,rfl,B,C,D,p,q⟩:=h;cases w;obtain⟨t,rfl⟩:=A;obtain⟨z,b,n,r,E,e⟩:=I.lstM B;have d:b.toArray.size * k.toNat<=sizeLine:=by rw[eM,<-E];exact p
 have f: ¬b.toArray.size * k.toNat>(2 ^ 63-1) /8:=by
  have:(sizeLine:Nat)<=(2 ^ 63-1) /8:=by decide
  lia
 have g: ¬(!Builtin.List.listFitsIndex k)=true:=by
  rw[fitsIndex_both C D];exact gy
 have c: ¬Builtin.List.listTooLong (b.toArray.size * k.toNat)=true:=by
  rw[Kv d];exact gy
 have i:List.foldl (λj o=>j++o) #[] (List.replicate (if b.toArray.isEmpty=true then 0 else k.toNat) b.toArray)=(List.replicate k.toNat b).flatten.toArray:=by
  have G: ∀m:Nat,List.foldl (λj o=>j++o) #[] (List.replicate m b.toArray)=(List.replicate m b).flatten.toArray:=λm=>by
   have:=Cu b m [];rw[zu]at this;exact this
  rw[G];cases b with
  |nil=>simp
  |cons a O=>rw[wA (by simp)]
 refine wpAny_binaryOp_repeat_ref (T:="list") (U:="int") (by decide) ⟨_,e,zZ⟩ (λJ=>wP J k t) noFill_list_mul F.fills_int_mul AL repeat_list F.slot_int_index.lookup
  (oo AL (wP s k t) F.entry_int_rmul (F.args_int_rmul_2 _ _) (int___rmul___int_list k t l b.toArray n)
   ⟨e,zZ,⟨_,e,zZ⟩,oo F.slot_list_mul ⟨_,e,zZ⟩ F.entry_list_mul (F.args_list_mul_2 _ _) (AutoListH.list___mul___list_int_3 l b.toArray n k t g f c) ⟨e,?_⟩⟩)
 rw[i];exact⟨.ref _,_,I.lnew (t':=s.toks) (r.rep k.toNat) (by rw[CJ,Nat.mul_comm];exact p),zZ,q _ I.fresh⟩
end
end L2
namespace Att
open PySem PySem.W PySem.Calls PyProof.Rows
def Lx{P:Params}{h:Heap}: ∀(c:Zs) (d:Vs),WellAll P h d (c.map WData.int)->IntsAre d c:=by
 intro c
 induction c with
 |nil=>
  intro d w;rw[Bp]at w;cases w;exact .nil
 | cons n c e=>
  intro d w;rw[iG]at w;cases w with
  |cons a b=>
   cases a;exact .cons _ _ (e _ b)
def Kt{l:OpenLaw}{n:Nat}(s:l.most=some n){P:Params}{h:Heap}{args:List WData}{c:Vs}
  (e:l.row.toRowW.claim.pre args=true) (k:WellAll P h c args):
  ∃a o b,c=[Value.ref a]/\args=[WData.list (b.map WData.int)]/\h.get? a=some {cls:= .type "list",data:= .seq o.toArray}/\IntsAre o b/\b.length<=n:=by
 have m:WShape.hasAll [] args [.list .int]=true:=(pre_splitW e).1;have p:l.pre.holds [] {args:=args}=true:=(pre_splitW e).2;obtain⟨d,r,rfl,t,u⟩:=hasAllW_cons m;obtain rfl:=hasAllW_nil u;obtain⟨A,rfl,v⟩:=hasW_list t;obtain⟨b,rfl⟩:=items_int v;have f:b.length<=n:=by
  unfold OpenLaw.pre at p;have i:(WTm.not (.lt (.lit (.int (n:Int))) (.len (.arg 0)))).holds [] {args:=[.list (b.map .int)]}=true:=by
   have i:=(holds_andW p).1;rw[s]at i;exact i
  have j:=condW_of i (w_not (w_lt w_lit (w_len_list (w_arg zZ))));rw[cC]at j;refine AR λq=>?_;have w:(n:Int)<((b.length:Nat):Int):=by lia
  first
   |(rw[eJ w]at j;exact wC j (by decide))
   |(simp at j;lia)
 cases k with
 |cons x y=>
  cases y;cases x with
  |list z g=>exact⟨_,_,b,zZ,zZ,z,Lx b _ g,f⟩
def OC(l:OpenLaw)(args:List WData):l.row.toRowW.claim.post args (.bool true) args=true:=
 postW_of (r:=l.row.toRowW) (X:=(true==true))
  (show WShape.has [] (.bool true) .bool=true by first|rfl|decide|simp[WShape.has,WShape.arms,WShape.armsAll])
  (show(WTm.eq .res (.lit (.bool true))).value [] {args:=args,res:=some (.bool true),after:=args}=some (.bool (true==true))from w_eq_bool (w_res zZ) w_lit) rfl
def attach_call{l:OpenLaw}{n:Nat}{q:Pg}{c:Ss}{z:SV->Heap->Prop}{A:World->Heap->Prop}{d:DefRec}
  (E:l.most=some n) (u:d.params.defaults=[])
  (call: ∀(w:World) (e b:Sh) (mg v:SV) (fa:Ad) (o:Obj) (pm p g:Vl) (a:Ad) (i:Vs) (s:Zs),
   Ground q c [] z w e mg v b.heap->A w b.heap->
   b.heap.get? fa=some o->o.data= .func (docDef d.name d.params d.body d.scope pm p g)->b.heap.CodeRec p d.name->mg d.name=some (.ref fa)->
   b.heap.get? a=some {cls:= .type "list",data:= .seq i.toArray}->IntsAre i s->s.length<=n->b.gens= #[]->
   codeAny (model l.prog w) callerA (.call (.ref fa) ⟨[.ref a],[]⟩) (λr t=>r= .ok (.ret (.bool true))/\OldK b.heap t.heap/\t.os=b.os/\AllBare t.gens) b):
  WalkO q c z A l.row.toRowW d [] (λf i=>PySem.call f i):=by
 intro w e b mg v G Y fa o pm p g H kV I J x B hmg L args C as j D M y N;obtain rfl:H= .none:=Dflts.none B u;obtain rfl:kV= .none:=Dflts.noKw B;obtain⟨a,i,s,rfl,rfl,k,h,m⟩:=Kt E j y;refine enter_call (oP (call w e b mg v fa o pm p g a i s G Y I (fd_plain J) x hmg k h m L) λr t O=>?_);obtain⟨rfl,Q,T,U⟩:=O;exact⟨.inl ⟨.bool true,.bool true,[],zZ,λ_=>rfl,.bool true,OC l _,λ_=>⟨List.Pairwise.nil,λ_ hm=>(nomatch hm)⟩⟩,Q,T,U⟩
end Att
namespace L2
open PySem PySem.Spec PyProof.Rows
theorem GF: ∀{a:Vs} {b:Zs},IntsAre a b->Vals (b.map V.int) a
 |_,_,.nil=> .nil
 |_,_,.cons n t h=> .cons ⟨t,zZ⟩ (GF h)
abbrev PM{K:Q5}{h:Heap}(_:K.In h):Q5:=K
end L2
namespace L2
open PySem PySem.Spec PyProof.Rows
def mW(s:Stmt):Arguments:=match s with
 | .FunctionDef _ a _ _ _ _ _ _ _ _=>a
 |_=>{posonlyargs:=[],args:=[],vararg:=none,kwonlyargs:=[],kw_defaults:=[],kwarg:=none,defaults:=[]}
def ka(s:Stmt):List Stmt:=match s with
 | .FunctionDef _ _ b _ _ _ _ _ _ _=>b
 |_=>[]
def cZ(s:Stmt):Scope:=match s with
 | .FunctionDef _ _ _ _ _ _ a _ _ _=>a
 |_=>{kind:= .function,names:=[],isGenerator:=false,isCoroutine:=false}
abbrev de:qz:=λ_ _ _ _ _ _=>False
abbrev E0:XK:=λ_ _ _=>False
def xN{X:Cx}:r9 de X E0:=λ_ _ _ _ _ _ _ h=>h.elim
structure Fun(K:Q5)(x qual:Str)(st:Stmt)(f:Ad)(fd:Fd):Prop where
 ex: ∃(oc:Vl) (od:Option Ad) (kV doc pm:Vl) (an:Option Ad) (cdv ct:Vl) (osl:Array (Option Vl)),
  fd=PySem.W.fnOf x qual (mW st) (ka st) (cZ st) .none kV doc pm an cdv ct/\K.lookup f=some ⟨oc,od,.func fd,osl⟩/\PySem.W.codeIn K cdv qual=true
 kp:PySem.W.keepIn K (.ref f)=true
section
variable{P:Pg}{w:World}{K:Q5}{mg:SV}{a:Heap}
def Fun.ok{x c:Str}{st:Stmt}{f:Ad}{m:Fd}{N g:Ss}{k:Nat}{i:Sp}(F:Fun K x c st f m)(S:FnScope N g (cZ st))
  (e: ∀(d:Vl) (A:Ar) (b:List Env) (s:Sh) (H:Hp) (vs:List V) (Q:VK) (E:XK),Room k (A.deeper (envOfC c (cZ st) s.heap.objs.size f d))->i vs H Q E->
   ∃t,PSs (td de P w K mg a N c (cZ st) f d A b s H E).nox (ka st) t/\t {nx:=λ_ H'=>Q .non H',rt:=Q} (start N vs) H)(len: ∀vs H Q E,i vs H Q E->vs.length=g.length:=by (intro _ _ _ _ h;first|(cases h;subst_vars;rfl)|((repeat obtain⟨_,h⟩:=h);subst_vars;rfl))):FnOk P w K mg a de (k+1) f m g i:=by
 obtain⟨r,u,kV,n,pm,v,d,y,o,rfl,lk,j⟩:=F.ex;refine IZ lk j S len λA b s H vs Q E p l=>?_;obtain⟨t,h,q⟩:=e d A b s H vs Q E p l;exact⟨t,h.nox,q⟩
def Fun.binds{x b:Str}{st:Stmt}{f:Ad}{j:Fd}{ps:Ss}(F:Fun K x b st f j)
  (h: ∀(kV c pm:Vl) (e:Option Ad) (d g:Vl) (i:Vs),i.length=ps.length->bindArgs (PySem.W.fnOf x b (mW st) (ka st) (cZ st) .none kV c pm e d g) ⟨i,[]⟩=pure (ps.zip i)):Binds K j ps []:=by
 obtain⟨m,n,kV,c,pm,e,d,g,k,rfl,lk,l⟩:=F.ex;exact .all (h kV c pm e d g)
def a5e{x b:Str}{st:Stmt}{f:Ad}{j:Vl}{m h:Option Ad}{g:Array (Option Vl)}{kV e pm d i:Vl}(l:K.lookup f=some ⟨j,m,.func (PySem.W.fnOf x b (mW st) (ka st) (cZ st) .none kV e pm h d i),g⟩)
  (c:PySem.W.codeIn K d b=true) (k:PySem.W.keepIn K (.ref f)=true):Fun K x b st f (PySem.W.fnOf x b (mW st) (ka st) (cZ st) .none kV e pm h d i):=⟨⟨j,m,kV,e,pm,h,d,i,g,zZ,l,c⟩,k⟩
end
def jq{A:Ar}{k:Nat}(a:Room k A):A.units+1<cLine:=xG (xX (by decide:1<=64) _) a.units
def Ob{n:Nat}(h:n<=1000):n<sizeLine:=xG h (by decide)
section
variable{X:Cx}
def pv(i:Nat){x:Str}{pos:Pos}(b:X.N[i]? =some x:=by rfl)(c:Bh X.env.scope x:=by first|exact Or.inl rfl|exact Or.inr (Or.inl zZ)|exact Or.inr (Or.inr zZ))(d:(x==("__debug__":Str))=false:=by decide)
  (a:(x==("__classdict__":Str))=false:=by decide):PE X (.Name x pos) (dR i):=J6 b c d a
end
def fq{A B:Prop}(h:B):if false=true then A else B:=by
 rw[wA gy];exact h
def fH{A B:Prop}(h:A):if true=true then A else B:=by
 rw[wB zZ];exact h
def mK{c A B:Prop}[Decidable c](a:c->A)(b: ¬c->B):if c then A else B:=by
 by_cases h:c
 .rw[wB h];exact a h
 .rw[wA h];exact b h
def Same(H a:Hp):Prop:= ∀b o,H b=some o->a b=some o
def Same.refl(H:Hp):Same H H:=λ_ _ h=>h
def Same.trans{H d e:Hp}(a:Same H d)(b:Same d e):Same H e:=λc o h=>b c o (a c o h)
def Same.free{H a:Hp}(e:Same H a){l:Ad}(h:a l=Option.none):H l=Option.none:=by
 cases q:H l with
 |none=>rfl
 |some o=>
  rw[e l o q]at h;cases h
def Same.seq{K:Q5}{H b:Hp}{a:Ad}{c:List V}(e:Same H b)(h:SqL K H a c):SqL K b a c:=by
 rcases h with(h|⟨o,h⟩)|h
 .exact .inl (.inl (e _ _ h))
 .exact .inl (.inr ⟨o,e _ _ h⟩)
 .exact .inr h
section
variable{a:Type}[DecidableEq a]
def iQ(b:List (a×V))(k:a):Option V:=(b.find? λc=>decide (c.1=k)).map (·.2)
def jv(b:List (a×V))(k:a)(v:V):List (a×V):=
 if(b.any λc=>decide (c.1=k))=true then b.map (λc=>if c.1=k then(c.1,v)else c)else b++[(k,v)]
def zJ{p:a×V}{r:List (a×V)}{k:a}(e:p.1=k):iQ (p::r) k=some p.2:=by simp[iQ,List.find?_cons,e]
def xR{p:a×V}{r:List (a×V)}{k:a}(e: ¬p.1=k):iQ (p::r) k=iQ r k:=by simp[iQ,List.find?_cons,e]
theorem D1(k:a): ∀b:List (a×V),(b.any λc=>decide (c.1=k))=(iQ b k).isSome
 | []=>rfl
 |p::r=>by
  rw[vk];by_cases e:p.1=k
  .simp only[zJ e,decide_eq_true e,Bool.true_or,Option.isSome_some]
  .rw[xR e,fy e,Bool.false_or];exact D1 k r
def GZ(b:List (a×V))(k:a)(v:V):(jv b k v).length<=b.length+1:=by
 unfold jv;split
 .rw[cC];lia
 .rw[dF,nt,List.length_nil];lia
def Ex{b:List (a×V)}{k:a}(v:V)(h:iQ b k=none):jv b k v=b++[(k,v)]:=by
 unfold jv;rw[D1,h];exact wA (by decide)
def RelO.isSome_eq{o:Option V}{u:Option Vl}(r:RelO o u):o.isSome=u.isSome:=by
 cases o with
 |none=>cases u with
  |none=>rfl
  |some _=>exact(show False from r).elim
 |some _=>cases u with
  |none=>exact(show False from r).elim
  |some _=>rfl
def KV.val{c:List (a×V)}{g:List (a×Vl)}(r:KV c g)(k:a):RelO (iQ c k) (valueAt g k):=by
 unfold KV at r
 induction r with
 |nil=>exact True.intro
 | @cons p q m d h t j=>
  obtain⟨i,l⟩:=h;by_cases e:p.1=k
  .have f:q.1=k:=i.symm.trans e;have b:valueAt (q::d) k=some q.2:=by simp[valueAt,List.find?_cons,f]
   rw[zJ e,b];exact l
  .have f: ¬q.1=k:=λz=>e (i.trans z);have b:valueAt (q::d) k=valueAt d k:=by simp[valueAt,List.find?_cons,f]
   rw[xR e,b];exact j
def KV.any{b:List (a×V)}{d:List (a×Vl)}(r:KV b d)(k:a):(b.any λc=>decide (c.1=k))=d.any λc=>decide (c.1=k):=by
 unfold KV at r
 induction r with
 |nil=>rfl
 |cons h t e=>rw[vk,vk,e,h.1]
def KV.repl{c:List (a×V)}{f:List (a×Vl)}(r:KV c f)(k:a){y:V}{u:Vl}(g:RelV y u):
  KV (c.map λb=>if b.1=k then(b.1,y)else b) (f.map λb=>if b.1=k then(b.1,u)else b):=by
 unfold KV at r⊢
 induction r with
 |nil=>exact .nil
 | @cons p q l m h t i=>
  rw[iG,iG];refine .cons ?_ i;obtain⟨d,j⟩:=h;by_cases e:p.1=k
  .rw[wB e,wB (d.symm.trans e)];exact⟨d,g⟩
  .rw[wA e,wA (λz=>e (d.trans z))];exact⟨d,j⟩
def KV.put{b:List (a×V)}{c:List (a×Vl)}(r:KV b c)(k:a){y:V}{u:Vl}(d:RelV y u):KV (jv b k y) (stored c k u):=by
 unfold jv stored;rw[r.any k];by_cases e:(c.any λf=>decide (f.1=k))=true
 .rw[wB e,wB e];exact r.repl k d
 .rw[wA e,wA e];exact Paired.snoc r ⟨zZ,d⟩
def KV.length{b:List (a×V)}{vs:List (a×Vl)}(r:KV b vs):b.length=vs.length:=pB r
end
def yJ{P:Pg}{w:World}{k:dB}{u:Vl}(r:RelV (kV k) u):(l8 P w).is k u=true:=by
 cases k with
 |inl i=>obtain⟨t,e⟩:=(show ∃t,u=Value.int i t from r);subst e;exact On P w i t
 |inr x=>obtain⟨t,e⟩:=(show ∃t,u=Value.str x t from r);subst e;exact OV P w x t
theorem Hv{P:Pg}{w:World}: ∀{a:List dB} {b:Vs},Vals (a.map kV) b->ItemsAre (l8 P w) a b
 | [],_,r=>by rw[Bp]at r;cases r;exact .nil
 |k::a,_,r=>by
  rw[iG]at r;cases r with
  |cons h t=>exact .cons (yJ h) (Hv t)
abbrev KT(H:Hp):List (List dB×V)->List (List dB×Ad×Vl)->Prop:=Paired λp q=>p.1=q.1/\H q.2.1=some (.tup (p.1.map kV))/\RelV p.2 q.2.2
def KT.val{H:Hp}{a:List (List dB×V)}{f:List (List dB×Ad×Vl)}(r:KT H a f)(k:List dB):RelO (iQ a k) ((atKey f k).map (·.2)):=by
 induction r with
 |nil=>exact True.intro
 | @cons p q l c h t i=>
  obtain⟨g,_,j⟩:=h;by_cases e:p.1=k
  .have d:q.1=k:=g.symm.trans e;have b:atKey (q::c) k=some q.2:=by simp[atKey,List.find?_cons,d]
   rw[zJ e,b];exact j
  .have d: ¬q.1=k:=λz=>e (g.trans z);have b:atKey (q::c) k=atKey c k:=by simp[atKey,List.find?_cons,d]
   rw[xR e,b];exact i
def KT.repl{H:Hp}{a:List (List dB×V)}{d:List (List dB×Ad×Vl)}(r:KT H a d)(k:List dB){y:V}{u:Vl}(g:RelV y u):
  KT H (a.map λc=>if c.1=k then(c.1,y)else c) (d.map (putAt k u)):=by
 induction r with
 |nil=>exact .nil
 | @cons p q l m h t i=>
  rw[iG,iG];refine .cons ?_ i;obtain⟨b,f,j⟩:=h;unfold putAt;by_cases e:p.1=k
  .rw[wB e,wB (b.symm.trans e)];exact⟨b,f,g⟩
  .rw[wA e,wA (λz=>e (b.trans z))];exact⟨b,f,j⟩
def KT.put{H:Hp}{a:List (List dB×V)}{c:List (List dB×Ad×Vl)}(r:KT H a c)(k:List dB){b:Ad}{y:V}{u:Vl}(f:H b=some (.tup (k.map kV)))(d:RelV y u):
  KT H (jv a k y) (storedH c k b u):=by
 have e:(a.any λg=>decide (g.1=k))=(atKey c k).isSome:=by
  rw[D1,(r.val k).isSome_eq,CG]
 unfold jv storedH;rw[e];by_cases q:(atKey c k).isSome=true
 .rw[wB q,wB q];exact r.repl k d
 .rw[wA q,wA q];exact Paired.snoc r ⟨zZ,f,d⟩
def KT.keeps{H c:Hp}{a:List (List dB×V)}{d:List (List dB×Ad×Vl)}(r:KT H a d)(ht: ∀b ys,H b=some (.tup ys)->c b=some (.tup ys)):KT c a d:=
 Paired.mapP r λ_ _ z=>⟨z.1,ht _ _ z.2.1,z.2.2⟩
section
variable{P:Pg}{w:World}{H:Hp}{h:Heap}{a:Ad}
def Ih{u:HO}(ok:HOk P w H h)(e:Rd H a u):ObjOk P w H h a u:=e.ok ok
def yg{b:List (dB×V)}(ok:HOk P w H h)(e:Rd H a (.dK b)):b.length<=sizeLine/\(a==sysModules)=false/\ ∃c,KV b c/\h.DictOf (l8 P w) a c:=
 show ObjOk P w H h a (.dK b)from Ih ok e
def yA{b:List (dB×V)}(ok:HOk P w H h)(e:H a=some (.dK b)):b.length<=sizeLine/\(a==sysModules)=false/\ ∃c,KV b c/\h.DictOf (l8 P w) a c:=yg ok (.inl e)
def wn{b:List dB}(ok:HOk P w H h)(e:H a=some (.tup (b.map kV))):(tupleKind (l8 P w)).is h b a:=by
 obtain⟨_,c,r,o,d,f,n,g,_⟩:=(show ObjOk P w H h a (.tup (b.map kV))from ok a _ e);exact⟨o,c.toArray,n,d,f,g,by simpa using Hv r⟩
def w6{b:List (List dB×V)}(ok:HOk P w H h)(e:Rd H a (.dT b)):b.length<=sizeLine/\(a==sysModules)=false/\
  ∃c,KT H b c/\h.DictOfH (tupleKind (l8 P w)) a c:=by
 obtain⟨z,y,c,r,o,f,g,i,j,k,n,s⟩:=(show ObjOk P w H h a (.dT b)from Ih ok e);refine⟨z,y,c,r,o,f,g,i,j,k,n,λx hx=>?_,s⟩;have all: ∀{l:List (List dB×V)} {m:List (List dB×Ad×Vl)},KT H l m-> ∀x∈m,(tupleKind (l8 P w)).is h x.1 x.2.1:=by
  intro l m q
  induction q with
  |nil=>intro x hx;exact nomatch hx
  | @cons p q v A d t u=>
   intro x hx
   rcases dZ.mp hx with e|hx
   .subst e;exact wn ok (by rw[<-d.1];exact d.2.1)
   .exact u x hx
 exact all r x hx
def Ei{b:List (List dB×V)}(ok:HOk P w H h)(e:H a=some (.dT b)):b.length<=sizeLine/\(a==sysModules)=false/\
  ∃c,KT H b c/\h.DictOfH (tupleKind (l8 P w)) a c:=w6 ok (.inl e)
end
def DGet(H:Hp)(a:Ad)(y:V)(r:Option V):Prop:=
 (∃c k,Rd H a (.dK c)/\y=kV k/\r=iQ c k)∨ ∃c k b,Rd H a (.dT c)/\y= .ref b/\H b=some (.tup (k.map kV))/\r=iQ c k
def DPut(H:Hp)(a:Ad)(y v:V)(d:Hp):Prop:=
 (∃c k,H a=some (.dK c)/\y=kV k/\c.length<sizeLine/\d=cA H a (.dK (jv c k v)))∨
 ∃c k b,H a=some (.dT c)/\y= .ref b/\H b=some (.tup (k.map kV))/\c.length<sizeLine/\d=cA H a (.dT (jv c k v))
def DGet.t{H:Hp}{a b:Ad}{c:List (List dB×V)}{k:List dB}(e:H a=some (.dT c))(d:H b=some (.tup (k.map kV))):DGet H a (.ref b) (iQ c k):= .inr ⟨c,k,b,.inl e,zZ,d,zZ⟩
def DPut.t{H:Hp}{a b:Ad}{c:List (List dB×V)}{k:List dB}{v:V}(e:H a=some (.dT c))(d:H b=some (.tup (k.map kV)))(f:c.length<sizeLine):
  DPut H a (.ref b) v (cA H a (.dT (jv c k v))):= .inr ⟨c,k,b,e,zZ,d,f,zZ⟩
section
variable{X:Cx}{d:AO}{f:St}{H:Hp}{s:Sh}{a:Ad}{y v:V}{u r:Vl}{o:Option V}{A:Ar}{E:VP}
def Inv.big(I:Inv X d f H s):sysModules<s.heap.objs.size:=by
 have h:mainGlobals<s.heap.objs.size:=(I.mod.glob.keeps I.bk).lt;exact yT (by decide) h
def LR{Q:VP}(B:A.units+1<cLine)(I:Inv X d f H s)(g:DGet H a y (some v))(w:RelV y u)(h: ∀j x,Inv X d f H x->RelV v j->Q j x):
  wpAny (model X.prog X.w) A (getItem (.ref a) u) Q E s:=by
 rcases g with⟨m,k,e,n,l⟩|⟨m,k,b,e,n,C,l⟩
 .subst n;obtain⟨z,D,G,c,q⟩:=yg I.hok e;obtain⟨j,hw,i⟩:=RelO.some_of (v:=v) (o:=valueAt G k) (by rw[l];exact c.val k);exact wpAny_getItem_of (yJ w) q.mapOf hw (h j _ (I.tok _) i)
 .subst n;cases(show u=Value.ref b from w);obtain⟨z,D,J,c,q⟩:=w6 I.hok e;obtain⟨j,hw,i⟩:=RelO.some_of (v:=v) (o:=(atKey J k).map (·.2)) (by rw[l];exact c.val k);obtain⟨p,L,t⟩:=eU.mp hw;refine wpAny_getItem_heap (Bj B) (wn I.hok C) q L ?_;rw[t];exact h j _ (I.tok _) i
def B6{Q:VP}(w:A.units+1<cLine)(I:Inv X d f H s)(g:DGet H a y o)(p:RelV y u)(h: ∀t,Inv X d f H t->Q (.bool o.isSome) t):
  wpAny (model X.prog X.w) A (compareOp .In u (.ref a)) Q E s:=by
 rcases g with⟨i,k,e,j,l⟩|⟨i,k,b,e,j,x,l⟩
 .subst j;obtain⟨z,m,B,c,n⟩:=yg I.hok e;refine wpAny_in_of (yJ p) m n.mapOf ?_;rw[<-(c.val k).isSome_eq,<-l];exact h _ (I.tok _)
 .subst j;cases(show u=Value.ref b from p);obtain⟨z,m,C,c,n⟩:=w6 I.hok e;refine wpAny_in_heap (Bj w) (wn I.hok x) m n ?_;have q:=(c.val k).isSome_eq;rw[CG]at q;rw[<-q,<-l];exact h _ (I.tok _)
def KP{Q:VP}(w:A.units+1<cLine)(I:Inv X d f H s)(g:DGet H a y o)(p:RelV y u)(h: ∀t,Inv X d f H t->Q (.bool (!o.isSome)) t):
  wpAny (model X.prog X.w) A (compareOp .NotIn u (.ref a)) Q E s:=by
 rcases g with⟨i,k,e,j,l⟩|⟨i,k,b,e,j,x,l⟩
 .subst j;obtain⟨z,m,B,c,n⟩:=yg I.hok e;refine wpAny_notIn_of (yJ p) m n.mapOf ?_;rw[<-(c.val k).isSome_eq,<-l];exact h _ (I.tok _)
 .subst j;cases(show u=Value.ref b from p);obtain⟨z,m,C,c,n⟩:=w6 I.hok e;refine wpAny_notIn_heap (Bj w) (wn I.hok x) m n ?_;have q:=(c.val k).isSome_eq;rw[CG]at q;rw[<-q,<-l];exact h _ (I.tok _)
def Ck{c:Heap}{h:Nat}{g:HO}(I:Inv X d f H s)(i:xK (H a))(j:Heap.SameBut a s.heap c)(k: ∃q,c.get? a=some q)(new:ObjOk X.prog X.w (cA H a g) c a g):
  Inv X d f (cA H a g) {s with heap:=c,toks:=h}:=
 I.write (x:=a) (e:=a) i (.inl zZ) (λb q l z=>(j.2 b l).trans z) k new
def Pm{P:Pg}{w:World}{h:Hp}{g:Heap}{b:List (dB×V)}{c:List (dB×Vl)}(z:b.length<=sizeLine)(i:(a==sysModules)=false)(e:KV b c)(j:g.DictOf (l8 P w) a c):
  ObjOk P w h g a (.dK b):=⟨z,i,c,e,j⟩
def J4{G:Hp}{Q:Unit->Sh->Prop}(U:A.units+1<cLine)(I:Inv X d f H s)(g:DPut H a y v G)(J:RelV y u)(L:RelV v r)(h: ∀M,Inv X d f G M->Q ⟨⟩ M):
  wpAny (model X.prog X.w) A (setItem (.ref a) u r) Q E s:=by
 rcases g with⟨i,k,e,p,l,t⟩|⟨i,k,b,e,p,N,l,t⟩
 .subst p t;obtain⟨z,w,Y,j,x⟩:=yA I.hok e;have B:Y.length<=sizeLine:=by rw[<-j.length];exact z
  have C:(jv i k v).length<=sizeLine:=by have:=GZ i k v;lia
  refine wpAny_setItem_pairs (hsz:=B) (yJ J) x λO m D=>h _ ?_;have he: ∃q,O.get? a=some q:=let⟨q,_,_,n,_⟩:=m;⟨q,n⟩
  exact Ck I (by rw[e];exact True.intro) D he (Pm C w (j.put k L) m)
 .subst p t;cases(show u=Value.ref b from J);obtain⟨z,w,xs,j,x⟩:=Ei I.hok e;have B:xs.length<=sizeLine:=by rw[<-pB j];exact z
  have C:(jv i k v).length<=sizeLine:=by have:=GZ i k v;lia
  refine wpAny_setItem_heap (hsz:=B) (Bj U) (wn I.hok N) x λO m D=>h _ ?_;obtain⟨q,es,ep,n,h2,h3,h4,_,h5⟩:=m;refine Ck I (by rw[e];exact True.intro) D ⟨q,n⟩ ⟨C,w,_,(j.put k N L).keeps λc ys T=>?_,q,es,ep,n,h2,h3,h4,h5⟩;rw[cK (nE T e)];exact T
end
def xq(i:Expr):Prop:= ∀a b,subscripted i false a b=operate [a,b] (getItem a b)
def Mq{a:Pg}{w:World}{A:Ar}{E:VP}{s:Sh}{j:Env}{c b:Expr}{pos:Pos}{T id:String}{Q:VP}
  (m:typeLookup (.type T) "__getitem__"=pure (some (.builtin id))) (n:xq b)
  (h:wpAny (model a w) A (eval c j) (λo f=>wpAny (model a w) A (eval b j) (λi d=>d.TypeIs o T/\wpAny (model a w) A (getItem o i) Q E d) E f) E s):
  wpAny (model a w) A (eval (.Subscript c b pos) j) Q E s:=by
 refine Subscript_ (iM h (λo f k=>iM k (λi d e=>?_) λ_ _ x=>x) λ_ _ x=>x);obtain⟨hT,e⟩:=e;unfold subscriptTail;refine cB ?_;rw[getitemInPython_of_ne hT.not_modules];refine cB (E1 hT m ?_);have fin:wpAny (model a w) A (subscripted b false o i) (λr g=>wpAny (model a w) A (letTemporaryGo c o r >>= λ_=>pure r) Q E g) E d:=by
  rw[n o i];exact wpAny_operating (iM e (λr g l=>cB (wpAny_letTemporaryGo (cH l))) λ_ _ x=>x)
 first
  |exact cH (cB fin)
  |exact cB (cH (cB fin))
  |exact cB fin
def O5{X:Cx}{f:AO}{h:St}{H:Hp}{s:Sh}{a:Ad}{y:V}{o:Option V}(I:Inv X f h H s)(g:DGet H a y o):s.TypeIs (.ref a) "dict":=by
 rcases g with⟨c,k,e,_,_⟩|⟨c,k,b,e,_,_,_⟩
 .obtain⟨_,_,i,_,d⟩:=yg I.hok e;exact d.typeIs
 .obtain⟨_,_,j,_,d⟩:=w6 I.hok e;exact d.typeIs
def Hx(d ty:TE):TE:=λb H Q=>d b H λx e=>ty b e λy c=> ∃a v,x= .ref a/\DGet c a y (some v)/\Q v c
def Dw(ty d:TE):TE:=λb H Q=>ty b H λy e=>d b e λx c=> ∃a o,x= .ref a/\DGet c a y o/\Q (.bl o.isSome) c
def HG(ty d:TE):TE:=λb H Q=>ty b H λy e=>d b e λx c=> ∃a o,x= .ref a/\DGet c a y o/\Q (.bl (!o.isSome)) c
def Fz(d ty e:TE):TS:=λD b H=>e b H λv f=>d b f λx g=>ty b g λy h=> ∃a c,x= .ref a/\DPut h a y v c/\D.nx b c
section
variable{X:Cx}{o i e b:Expr}{pos c j:Pos}{d ty f:TE}
def og(p:X.A.units+1<cLine)(q:PE X o d)(r:PE X i ty)(t:xq i):PE X (.Subscript o i pos) (Hx d ty):=by
 intro l s m H Q I h;refine Mq PySem.F.slot_dict_getitem.lookup t (cT (q l s m H _ I h) λu w ⟨x,z,A,B,C⟩=>cT (r l w m z _ A C) λM N ⟨y,D,n,E,a,v,G,g,J⟩=>?_);subst G;obtain rfl:u=Value.ref a:=B;exact⟨O5 n g,LR p n g E λO T L k=>⟨v,D,L,k,J⟩⟩
def uy(m:X.A.units+1<cLine)(n:PE X i ty)(p:PE X o d):PC X .In i o (Dw ty d):=by
 intro k s l H Q I h;refine cT (n k s l H _ I h) λJ q ⟨y,r,t,v,w⟩=>cT (p k q l r _ t w) λu L ⟨x,z,A,B,a,C,D,g,E⟩=>?_;subst D;obtain rfl:u=Value.ref a:=B;exact B6 m A g v λM G=>⟨.bl C.isSome,z,G,zZ,E⟩
def AW(m:X.A.units+1<cLine)(n:PE X i ty)(p:PE X o d):PC X .NotIn i o (HG ty d):=by
 intro k s l H Q I h;refine cT (n k s l H _ I h) λJ q ⟨y,r,t,v,w⟩=>cT (p k q l r _ t w) λu L ⟨x,z,A,B,a,C,D,g,E⟩=>?_;subst D;obtain rfl:u=Value.ref a:=B;exact KP m A g v λM G=>⟨.bl (!C.isSome),z,G,zZ,E⟩
def vf(m:X.A.units+1<cLine)(n:PE X o d)(p:PE X i ty)(q:PE X b f)(t:swapsWith b (some (.Subscript o i c)) pos.line X.env=pure false):
  PS X (.Assign [.Subscript o i c] b pos) (Fz d ty f):=by
 intro l s k H D I h;refine wpAny_Assign_Subscript (cT (q l s k H _ I h) λr w ⟨v,z,A,B,C⟩=>cT (n l w k z _ A C) λu E ⟨x,G,J,L,M⟩=>cT (p l E k G _ J M) λiv s3 ⟨y,H3,N,O,a,Q,T,g,U⟩=>?_) t;subst T;obtain rfl:u=Value.ref a:=L;exact J4 m N g O B λs4 Y=>⟨k,Q,Y,U⟩
end
def Ge{P:Pg}{w:World}{H:Hp}(h:Heap)(a:sysModules<h.objs.size):ObjOk P w H (h.push {cls:= .type "dict",data:= .dict #[]}) h.objs.size (.dT []):=
 ⟨jj _,pA.mpr (fh (d9 a)),[],.nil,_,#[],0,fj _ zZ,⟨zZ,zZ,zZ⟩,zZ,zZ,List.nodup_nil⟩
def Om:TE:=λ_ H Q=> ∀p,H p=none->Q (.ref p) (cA H p (.dT []))
section
variable{X:Cx}{pos:Pos}
def yL:PE X (.Dict [] [] pos) Om:=λb s c H Q I h=>
 wpAny_Dict_empty ⟨.ref s.heap.objs.size,_,I.laid (a:=s.heap.objs.size) (o:= .dT []) (t':=s.toks) (λ_ _ q=>dM _ q) (cO _) (Ge s.heap I.big),zZ,h _ (I.hok.fresh (cO _))⟩
end
def IA:List (TE×TE)->St->Hp->(List (V×V)->Hp->Prop)->Prop
 | [],_,H,Q=>Q [] H
 |(b,c)::r,a,H,Q=>b a H λx d=>c a d λy e=>IA r a e λf g=>Q ((x,y)::f) g
abbrev VV:List (V×V)->List (Vl×Vl)->Prop:=Paired λp q=>RelV p.1 q.1/\RelV p.2 q.2
def EV(X:Cx)(pos:Pos)(keys:List (Option Expr))(a:List Expr)(b:List (TE×TE)):Prop:=
 ∀(d:AO) (s:Sh) (c:St) (H:Hp) (Q:List (V×V)->Hp->Prop),Inv X d c H s->IA b c H Q->
  wpAny (model X.prog X.w) X.A (evalPairs (pairTrees keys a X.env pos)) (λg h=> ∃e f,Inv X d c f h/\VV e g/\Q e f) X.xe s
def NI{X:Cx}{pos:Pos}:EV X pos [] [] []:=λa s b H Q I h=>pairTrees_nil_walk ⟨[],H,I,.nil,h⟩
def LW{X:Cx}{pos:Pos}{k v:Expr}{e:List (Option Expr)}{f:List Expr}{g i:TE}{a:List (TE×TE)}(j:PE X k g)(l:PE X v i)(m:EV X pos e f a):
  EV X pos (some k::e) (v::f) ((g,i)::a):=λb s c H Q I h=>
 pairTrees_cons_walk (cT (j b s c H _ I h) λu n ⟨x,o,p,q,r⟩=>cT (l b n c o _ p r) λJ t ⟨y,w,z,A,B⟩=>
  cT (m b t c w _ z B) λL M ⟨C,D,E,d,G⟩=>⟨(x,y)::C,D,E,.cons ⟨q,A⟩ d,G⟩)
structure M1(X:Cx)(o:Expr)(m:Str)(apos:Pos)(e:Expr)(cpos:Pos):Prop where
 base:attributeBase o m X.env (eval o X.env)=eval o X.env
 few:((backTo cpos (starEach [e] X.env)).all (λx=> !x.1)&&(backToKw cpos (keywordEach [] X.env)).all (λx=>x.1.isSome)
  &&decide (([e]:List Expr).length+([]:List Keyword).length+(if([]:List Keyword).isEmpty then 0 else 1)<30))=true
 line:(apos.endLine==cpos.line)=true
 trees:backTo cpos (starEach [e] X.env)=[(false,eval e X.env)]
theorem Fe{b a:Type}{f:b->a->Sem (ForInStep a)}{g:a->b->a}: ∀{l:List b} (c:a),(∀x∈l,∀c,f x c=pure (.yield (g c x)))->forIn l c f=pure (l.foldl g c)
 | [],_,_=>rfl
 |x::l,c,h=>by
  rw[List.forIn_cons,h x (dY ..),pure_bind];exact Fe (g c x) λy d=>h y (fR _ d)
def oM(b:Env)(a:List (Str×Ad))(y:Str×NameKind):List (Str×Ad):=
 if y.2== .free then(match b.cells.lookup y.1 with|some c=>(y.1,c)::a|none=>a)else a
def hJ(a:Env)(b:Scope):List (Str×Ad):=b.names.foldl (oM a) []
def Gs{a:Env}{b:Scope}(h: ∀y∈b.names,y.2= .free-> ∃c,a.cells.lookup y.1=some c):closureFor b a=pure (hJ a b):=by
 simp only[closureFor];rw[Fe (g:=oM a) [] λx i c=>?_]
 .rfl
 .obtain⟨n,k⟩:=x;by_cases f:k= .free
  .subst f;obtain⟨d,j⟩:=h _ i rfl;have e:a.cells.lookup n=some d:=j;simp only[oM,cellOf,e,beq_self_eq_true,if_true,pure_bind]
  .have l:(k==NameKind.free)=false:=by simpa using f
   simp only[oM,l,Bool.false_eq_true,if_false]
theorem t8{a:Env}: ∀(names:List (Str×NameKind)) (b:List (Str×Ad)),(∀y c,b.lookup y=some c->a.cells.lookup y=some c)->
  ∀y c,(names.foldl (oM a) b).lookup y=some c->a.cells.lookup y=some c
 | [],_,h=>h
 | (n,k)::r,b,h=>by
  refine t8 r _ λy c e=>?_;unfold oM at e;split at e
  .split at e
   .rename_i d i
    rw[ki]at e;cases f:y==n with
    |true=>
     rw[f]at e;have g:y=n:=eq_of_beq f;cases e;rw[g];exact i
    |false=>rw[f]at e;exact h y c e
   .exact h y c e
  .exact h y c e
theorem Go{e:Env}: ∀(a:List (Str×NameKind)) (b:List (Str×Ad)) (y:Str),(∃c,b.lookup y=some c)-> ∃c,(a.foldl (oM e) b).lookup y=some c
 | [],_,_,h=>h
 | (n,k)::r,b,y,h=>by
  refine Go r _ y ?_;unfold oM;split
  .split
   .rename_i d f
    rw[ki];cases g:y==n with
    |true=>exact⟨_,zZ⟩
    |false=>exact h
   .exact h
  .exact h
theorem Ed{d:Env}: ∀(a:List (Str×NameKind)) (b:List (Str×Ad)) (y:Str),a.lookup y=some .free->(∃c,d.cells.lookup y=some c)-> ∃c,(a.foldl (oM d) b).lookup y=some c
 | [],_,_,h,_=>by simp at h
 | (n,k)::r,b,y,h,e=>by
  rw[ki]at h;cases f:y==n with
  |true=>
   rw[f]at h;cases h;have g:y=n:=eq_of_beq f;subst g;obtain⟨c,e⟩:=e;refine Go r _ y ?_;refine⟨c,?_⟩;unfold oM;rw[wB (by rfl)];show List.lookup y (match d.cells.lookup y with|some c=>(y,c)::b|none=>b)=_
   rw[e];simp
  |false=>
   rw[f]at h;exact Ed r _ y h e
theorem u6{a:Env}: ∀{names:List (Str×NameKind)} {y:Str} {k:NameKind},
  (names.map λ(n,k)=>if(k==NameKind.free&&a.scope.kind== .function&&a.kindOf n==some .cell)then(n,NameKind.cell)else(n,k)).lookup y=some k->
   names.lookup y=some k∨(names.lookup y=some .free/\k= .cell)
 | [],_,_,h=>by simp at h
 | (n,c)::r,y,k,h=>by
  have g:=@u6 a r y k;rw[iG]at h;by_cases f:(c==NameKind.free&&a.scope.kind== .function&&a.kindOf n==some .cell)=true
  .have b:List.lookup y ((n,NameKind.cell)::(r.map λ(n,k)=>if(k==NameKind.free&&a.scope.kind== .function&&a.kindOf n==some .cell)then(n,NameKind.cell)else(n,k)))=some k:=by
    have e:(if(c==NameKind.free&&a.scope.kind== .function&&a.kindOf n==some .cell)=true then(n,NameKind.cell)else(n,c))=(n,NameKind.cell):=wB f;rw[<-e];exact h
   rw[ki]at b⊢;cases d:y==n with
   | true=>
    rw[d]at b;cases b;have i:c= .free:=by
     rw[lU,lU]at f;exact eq_of_beq f.1.1
    exact .inr ⟨by rw[i],zZ⟩
   |false=>rw[d]at b;exact g b
  .have b:List.lookup y ((n,c)::(r.map λ(n,k)=>if(k==NameKind.free&&a.scope.kind== .function&&a.kindOf n==some .cell)then(n,NameKind.cell)else(n,k)))=some k:=by
    have e:(if(c==NameKind.free&&a.scope.kind== .function&&a.kindOf n==some .cell)=true then(n,NameKind.cell)else(n,c))=(n,c):=wA f;rw[<-e];exact h
   rw[ki]at b⊢;cases d:y==n with
   |true=>rw[d]at b;exact .inl b
   |false=>rw[d]at b;exact g b
def vq(y:Str):Str:=⟨#[46]++y.cps⟩
def iq(a:Ss)(y:Str):Str:=if a.contains y=true then vq y else y
structure CompScope(X:Cx)(vs:Ss)(sc:Scope):Prop where
 kind:sc.kind= .function
 cell: ∀y∈sc.names,y.2≠ .cell
 locs: ∀y∈sc.names,y.2= .local->sc.names.lookup y.1=some .local
 own: ∀y∈X.N.map (iq vs),sc.names.lookup y≠some .local
 hid: ∀y∈vs,sc.names.lookup (vq y)=none
 nd:(vs++X.N.map (iq vs)).Nodup
 free: ∀y∈sc.names,y.2= .free->X.env.kindOf y.1=some .cell∨X.env.kindOf y.1=some .free
def hO(X:Cx)(a:Ss)(b:Scope)(C:Ad)(s:Sh)(H:Hp)(c:As):Cx where
 prog:=X.prog
 w:=X.w
 K:=X.K
 mg:=X.mg
 base:=X.base
 A:=X.A
 N:=a++X.N.map (iq a)
 s₀:=s
 H₀:=H
 env:=compEnvC b (hJ X.env b) C X.env
 outer:=X.stack
 stack:=X.stack
 ex:=c
 fn:=λ_=>false
 calm:=X.calm
 pn:=X.pn
 xe:=λ_ _=>False
def iJ(a:Ss)(b:St):St:=List.replicate a.length none++b
section
variable{X:Cx}{h:AO}{g:St}{H:Hp}{s:Sh}{f:Ss}{a:Scope}
def JZ{C:Ad}{L:As}{E:Heap}{tk:Nat}{m0:SV}(S:CompScope X f a)(I:Inv X h g H s)(M: ∀b∈L,FpOk X h H b)(ho: ∀b∈L,∃o,s.heap.get? b=some o)
  (k: ∀b o,s.heap.get? b=some o->E.get? b=some o) (N:E.Ns C m0) (G:s.heap.objs.size<=C):Inv (hO X f a C s H L) h (iJ f g) H {s with heap:=E,toks:=tk}:=by
 have j: ∀y c,(hJ X.env a).lookup y=some c->X.env.cells.lookup y=some c:=t8 a.names [] λy c e=>by simp at e
 have fr: ∀y,a.names.lookup y=some .free->X.env.kindOf y=some .cell∨X.env.kindOf y=some .free:=λy e=>S.free (y,.free) (nK e) rfl;have O: ∀y,(X.env.kindOf y=some .cell∨X.env.kindOf y=some .free)-> ∃c,X.env.cells.lookup y=some c:=λy e=>I.ok.has y e;have l: ∀{y:Str} {J:NameKind},(relabel a X.env).names.lookup y=some J->J= .cell∨J= .free->a.names.lookup y=some .free:=λ{y J} e hk=>by
  rcases u6 (names:=a.names) e with z|⟨z,_⟩
  .rcases hk with q|q
   .subst q;exact wC zZ (S.cell _ (nK z))
   .subst q;exact z
  .exact z
 have has: ∀y,a.names.lookup y=some .free-> ∃c,(hJ X.env a).lookup y=some c:=λy e=>Ed a.names [] y e (O y (fr y e));have aa: ∀y c,X.env.cells.lookup y=some c->c<s.heap.objs.size:=λy c e=>let⟨_,z⟩:=I.cell y c e;z.lt
 have kc: ∀{c v},s.heap.IsCell c v->E.IsCell c v:=λ{c v} ⟨o,e,d⟩=>⟨o,k _ _ e,d⟩;refine⟨⟨I.ok.mod,S.kind,I.ok.glob,I.ok.blt,G,λy z c Q T=>I.ok.inj y z c (j y c Q) (j z c T),λy hy=>?_,λy c z _=>(nomatch z),I.ok.hd,I.ok.frames,.inl zZ,λb A=>⟨?_,λy c e=>?_⟩,I.bs,dL I.ok.bsz I.sz,λb o e A=>?_,λb A hs=>?_,I.stack,I.stkFree⟩,
  rfl,I.bare,Un.kept k,⟨m0,N,λi y v e1 B e3=>?_⟩,λy c e=>?_,I.hok.fresh G,λy c e=>I.freeC y c (j y c e),λp hp=>?_,I.hok.kept k,?_⟩
 .have U:(relabel a X.env).names.lookup y=some .cell∨(relabel a X.env).names.lookup y=some .free:=hy
  rcases U with z|z
  .exact has y (l z (.inl zZ))
  .exact has y (l z (.inr zZ))
 .obtain⟨o,e⟩:=ho b A;exact d9 (gh (dq e) G)
 .exact(M b A).2.2.2.2.1 y c (j y c e)
 .obtain⟨_,_,_,z,_⟩:=M b A
  rcases z with z|z
  .exact I.ok.noex b o e z
  .exact wC (gh (dq (I.ok.bs b o e).1) z) (me _)
 .obtain⟨_,Q,T,_⟩:=M b A
  rcases dZ.mp (I.stkSub b hs)with z|z
  .exact Q z
  .exact T z
 .have t:(f++X.N.map (iq f))[i]? =some y:=e1;have w:(List.replicate f.length none++g)[i]? =some (some v):=B;have hi:f.length<=i:=by
   by_cases z:i<f.length
   .rw[fe (by simpa using z),List.getElem?_replicate]at w;split at w<;>cases w
   .lia
  rw[e9 hi]at t;rw[e9 (by simpa using hi),List.length_replicate]at w;have yN:y∈X.N.map (iq f):=cY t;have D:(relabel a X.env).names.lookup y=some .local∨(relabel a X.env).names.lookup y=some .cell∨(relabel a X.env).names.lookup y=some .free:=e3;have x:a.names.lookup y=some .free:=by
   rcases D with z|z|z
   .rcases u6 (names:=a.names) z with q|⟨_,q⟩
    .exact wC q (S.own y yN)
    .cases q
   .exact l z (.inl zZ)
   .exact l z (.inr zZ)
  have t:X.N[i-f.length]? =some y:=by
   rw[cV]at t;cases e:X.N[i-f.length]? with
   |none=>rw[e]at t;cases t
   | some y0=>
    rw[e]at t;have B:iq f y0=y:=gD t;unfold iq at B
    split at B
    .rename_i Y
     rw[<-B,S.hid y0 (by simpa using Y)]at x;cases x
    .rw[B]
  have ok:=fr y x;obtain⟨m,_,hl⟩:=I.loc;obtain⟨u,r,lk⟩:=hl (i-f.length) y v t w (.inr ok);refine⟨u,r,?_⟩
  rcases lk with⟨q,_⟩|⟨_,c,ec,Y⟩
  .rcases ok with z|z<;>rw[z]at q<;>cases q
  .obtain⟨c',e'⟩:=has y x;have:c'=c:=gD ((j y c' e').symm.trans ec);subst this;refine .inr ⟨?_,c',e',kc Y⟩
   rcases D with z|z|z
   .rcases u6 (names:=a.names) z with q|⟨_,q⟩
    .exact wC q (S.own y yN)
    .cases q
   .exact .inl z
   .exact .inr z
 .obtain⟨v,z⟩:=I.cell y c (j y c e);exact⟨v,kc z⟩
 .obtain⟨e,n,ne,nf,d⟩:=I.pin p hp;refine⟨k _ _ e,n,d9 (gh (dq e) G),λz=>?_,d⟩
  rcases dZ.mp (I.stkSub p.1 z)with q|q
  .exact ne q
  .exact nf q
 .show(List.replicate f.length none++g).length=(f++X.N.map (iq f)).length;rw[dF,dF,xv,cC,I.len]
def Inv.adopt{D:Ad}{j:List V}{d:Vs}{n:Nat}(I:Inv X h g H s)(k:j.length<=sizeLine)(l:Vals j d)(r:H D=none)(e:s.heap.get? D=some {cls:= .type "list",data:= .seq d.toArray n})
  (t:X.s₀.heap.objs.size<=D) (v:D≠X.env.locals) (w: ∀x c,X.env.cells.lookup x=some c->c≠D) (y: ∀p∈X.pn++h,p.1≠D):Inv X h g (cA H D (.lst j)) s:=by
 have nd: ∀b u,H b=some u->b≠D:=λb u q z=>by rw[z,r]at q;cases q
 have q:=I.step (h':=s.heap) (H':=cA H D (.lst j)) (g':=s.gens) (t':=s.toks) (d':=s.drawn) (ch:=[D]) (λb i=>by
   have z:b=D:=by simpa using i
   subst z;exact⟨.inr t,v,w,y⟩)
  (λb o _ _ _ e _=>e) (λb o _ _ _ e _=>⟨o.slots,e⟩) (λb o i _ n=>by rw[cK (λz=>i (by simp[z]))];exact n) (λb o _ e=>⟨o,e⟩)
  (λb A q=>by rw[cK (nd b _ q)];exact q) (λb o u q=>by rw[cK (nd b _ q)];exact q) (λb C q=>⟨#[],by rw[cK (nd b _ q),q];simp⟩) (λm B=>B) (λb u q=>?_) I.bare
 .exact q
 .by_cases i:b=D
  .subst i;rw[cF]at q;cases q;exact⟨k,d,n,l,e⟩
  .rw[cK i]at q;exact(I.hok b u q).stay (λ_ _ _ z=>z) (λc z=>by rw[cK (nd c _ z)];exact z) λc A z=>by rw[cK (nd c _ z)];exact z
end
def pT(X:Cx)(a:List Expr)(t:TT):Prop:=
 ∀(d:AO) (s:Sh) (b:St) (H:Hp) (Q:Bool->Hp->Prop),Inv X d b H s->t b H Q->
  wpAny (model X.prog X.w) X.A (forIn a true λc r=>if r=true then do let ok <-isTrue c X.env (eval c X.env);pure (ForInStep.yield ok)else pure (ForInStep.yield r)) (TP X d b Q) X.xe s
def oS:TT:=λ_ H Q=>Q true H
def lB{c:St}{H:Hp}{F G:Hp->Prop}(h:F H):oS c H (λb a=>if b=true then F a else G a):=by
 show(if true=true then F H else G H);exact fH h
def i3{X:Cx}:pT X [] oS:=λ_ _ _ H _ I h=>cH ⟨H,I,h⟩
def qx{X:Cx}{c:Expr}{t:TT}(h:PT X c t):pT X [c] t:=λa s b H Q I q=>wpAny_tests_one (h a s b H Q I q)
theorem Ho{a:Pg}{w:World}{A:Ar}{R:Result->Sh->Prop}{s:Sh}{e k d:Expr}{f:List Expr}{p:Scope}{pos:Pos}{l g:Vl}{b:Env}(i:Nat->Sh->Prop)
  (turn: ∀n s,i n s->wpAny (model a w) A (pyNext l) (λr j=>match r with
   |none=>R (.ok .next) j
   | some v=>wpAny (model a w) A (letOwnedTupleGo k l v) (λ_ j=>wpAny (model a w) A (assign k b v) (λ_ t=>
     wpAny (model a w) A (forIn f true λc r=>if r=true then do let ok <-isTrue c b (eval c b);pure (ForInStep.yield ok)else pure (ForInStep.yield r)) (λok o=>
      if ok=true then wpAny (model a w) A (eval e b) (λy u=>wpAny (model a w) A (call (.builtin "list.append") [g,y]) (λ_ B=> ∃m,m<n/\i m B) (λ_ _=>False) u) (λ_ _=>False) o
      else ∃m,m<n/\i m o) (λ_ _=>False) t) (λ_ _=>False) j) (λ_ _=>False) j) (λ_ _=>False) s)
  (n:Nat) (h:i n s):codeAny (model a w) A (.compLoop (.ListComp e [⟨k,d,f,0⟩] p pos) 0 l g b) R s:=by
 refine codeAny_loop zZ i (λn s G=>?_) n h;show wpAny _ A ((compTurn (.ListComp e [⟨k,d,f,0⟩] p pos) 0 l g b).onRaise (λx=>do noteFrame x b;theTreesLotGoes x)) _ _ s;refine wpAny_noted (iM (E:=λ_ _=>False) ?_ (λ_ _ q=>q) λ_ _ z=>z.elim);rw[compTurn_list];refine cB (vY (cB (cT (turn n s G) λr j C=>?_)));cases r with
 |none=>exact cH C
 |some v=>
  refine cB (cT C λ_ t H=>cB (cT H λ_ o I=>cB (cT I λok u D=>?_)));cases ok with
  |false=>exact cH ⟨zZ,D⟩
  |true=>exact cB (cB (cT D λy B J=>cB (cT J λ_ M L=>cH (cH ⟨zZ,L⟩))))
def rm(b a:St):Prop:= ∀(i:Nat) v,b[i]? =some (some v)->a[i]? =some (some v)
theorem iO{a:St}{x:Option V}:rm (none::a) (x::a):=λi v e=>by
 cases i with
 |zero=>cases e
 |succ i=>exact e
theorem Jb{a:St}{x y:Option V}:rm (none::none::a) (x::y::a):=λi v e=>by
 match i,e with
 |0,e=>cases e
 |1,e=>cases e
 |_+2,e=>exact e
section
variable{X:Cx}{w:AO}{A:St}{H:Hp}{s:Sh}{l:Ss}{k:Scope}{L t f:Expr}{q:List Expr}{pos:Pos}{g:TG}{B:TT}{G:TE}
def nQ(l:Ss)(g:TG)(B:TT)(G:TE)(A:St)(J:It)(H:Hp)(Fin:List V->Hp->Prop):Prop:=
 ∃W:Nat->Nat->List V->Hp->Prop,(∃m,W 0 m [] H)/\ ∀i m c H,W i m c H->
  (J.stop i H/\c.length<=sizeLine/\Fin c H)∨(J.go i H/\c.length<sizeLine/\ ∃N:List V->Hp->Prop,(∀e d,N e d-> ∃h,h<m/\W (i+1) h e d)/\
   ∀v d,J.yld i H v d->g v (iJ l A) d λa n=>rm (iJ l A) a/\B a n λb j=>if b=true then G a j λy o=>N (c++[y]) o else N c j)
def Hd{J:It}{h:As}{it:Ad}{tn:Nat->Heap->Prop}{E:VP}{RR:Vl->Ad->Result->Sh->Prop}{Fin:List V->Hp->Prop}
  (S:CompScope X l k) (hc:X.calm=true) (hg: ∀C s H h,PG (hO X l k C s H h) L g) (ht: ∀C s H h,pT (hO X l k C s H h) q B) (he: ∀C s H h,PE (hO X l k C s H h) t G)
  (I:Inv X w A H s) (T:Turn X.prog X.w X.K L J h it tn) (st:tn 0 s.heap) (hf: ∀b∈h,FpOk X w H b) (hW:nQ l g B G A J H Fin)
  (au: ∀D C O a Q m',Inv X w A (cA a D (.lst Q)) O->a D=none->FpOk X w (cA a D (.lst Q)) C->O.heap.Ns C m'->Fin Q a->RR (.ref D) C (.ok .next) O):
  wpAny (model X.prog X.w) X.A (newList []) (λaq s3=>wpAny (model X.prog X.w) X.A (newFunctionEnv k X.env.globals (hJ X.env k) [] X.env.qual none .none (some X.env)) (λcenv s4=>
   codeAny (model X.prog X.w) X.A (.compStart (.ListComp t [⟨L,f,q,0⟩] k pos) 0 (.ref it) aq {cenv with scope:=relabel k X.env}) (RR aq cenv.locals) s4) E s3) E s:=by
 obtain⟨W,⟨m0,w0⟩,turn⟩:=hW;refine md (wpAny_newFunctionEnv S.cell (by intro y hy;simp at hy) (λh1 aa U=>?_) S.kind);dsimp only at aa U⊢;generalize al:s.heap.push {cls:= .type "list",dict:=none,data:= .seq ([]:Vs).toArray}=H2 at aa U⊢;have hC:H2.objs.size=s.heap.objs.size+1:=by rw[<-al,rf]
 generalize aH:H2.objs.size=C at aa U hC⊢;generalize ab:s.heap.objs.size=D at hC⊢;have ae:D≠C:=by lia
 have below: ∀b o,s.heap.get? b=some o->b≠D/\b≠C:=λb o e=>by
  have z:b<s.heap.objs.size:=dq e;rw[ab]at z;exact⟨d9 z,d9 (by rw[hC];exact qc z)⟩
 have old: ∀b o,s.heap.get? b=some o->h1.get? b=some o:=λb o e=>U.extBut b o (below b o e).2 (dM _ (al▸dM _ e));have av:h1.get? D=some {cls:= .type "list",data:= .seq ([]:Vs).toArray}:=
  U.extBut _ _ ae (dM _ (by rw[<-al,<-ab];exact fj _ zZ))
 have ah: ∀b∈h,∃o,s.heap.get? b=some o:=λb m=>let⟨o,e,_⟩:=T.obj 0 _ st b m;⟨o,e⟩
 have am: ∀b∈h,b≠D/\b≠C:=λb m=>let⟨o,e⟩:=ah b m;below b o e
 have fD: ∀a,a D=none->FpOk X w a D:=λa n=>I.fpOk () n;have fC: ∀a,a C=none->FpOk X w a C:=λa n=>I.fpOk () n;have aw: ∀p∈X.pn++w,p.1≠D:=λp hp=>(below _ _ (I.pin p hp).1).1;have an: ∀y c,(hJ X.env k).lookup y=some c->c≠D:=λy c e=>by
  have e':=t8 k.names [] (λy c e=>by simp at e) y c e;obtain⟨v,z⟩:=I.cell y c e';have z':c<s.heap.objs.size:=z.lt;rw[ab]at z';exact d9 z'
 have ax: ∀b,b∈kq X.stack-> ∃o,s.heap.get? b=some o:=λb m=>let⟨_,o,ho,_⟩:=I.stack.mem m;⟨o,ho⟩
 have ay:D∉kq X.stack:=λz=>let⟨o,e⟩:=ax D z;(below _ _ e).1 rfl
 have ao: ∀{pl:AO} {a:Hp},(∀p∈pl,p.1=D)->(∀b∈h,a b=none)-> ∀b∈h,FpOk (hO X l k C s H h) (w++pl) a b:=λ{pl a} az hn b m=>by
  obtain⟨_,q1,q2,q3,q4,q5⟩:=hf b m;refine⟨hn b m,(am b m).2,λz=>?_,.inl m,λy c e=>q4 y c (t8 k.names [] (λy c e=>by simp at e) y c e),λp hp=>?_⟩
  .rcases dZ.mp (I.stkSub b z)with y|y
   .exact q1 y
   .exact q2 y
  .rcases dD.mp hp with z|z
   .exact q5 p (ni _ z)
   .rcases dD.mp z with y|y
    .exact q5 p (fg _ y)
    .rw[az p y];exact fh (am b m).1
 have ai: ∀s3:Sh,s3={s with heap:=h1,toks:=s.toks+([]:List (Str×Vl)).length}->
   codeAny (model X.prog X.w) X.A (.compLoop (.ListComp t [⟨L,f,q,0⟩] k pos) 0 (.ref it) (.ref D) (compEnvC k (hJ X.env k) C X.env)) (RR (.ref D) C) s3:=by
  rintro s3 rfl;have I0:Inv (hO X l k C s H h) w (iJ l A) H {s with heap:=h1,toks:=s.toks+([]:List (Str×Vl)).length}:=JZ S I hf ah old aa ();refine Ho (λn O=> ∃i Q j no a,Inv (hO X l k C s H h) w (iJ l A) a O/\tn i O.heap/\(∀b∈h,a b=none)/\a D=none/\
   O.heap.get? D=some {cls:= .type "list",data:= .seq j.toArray no}/\Vals Q j/\W i n Q a) ?_ m0
   ⟨0,[],[],0,H,I0,T.keep 0 _ _ st λb m o e=>old b o e,λb m=>(hf b m).1,I.hok.fresh (),av,.nil,w0⟩
  rintro n O ⟨i,Q,j,no,a,I1,ar,as,af,aA,ag,w1⟩;have aj:Inv (hO X l k C s H h) (w++[(D,{cls:= .type "list",data:= .seq j.toArray no})]) (iJ l A) a O:=I1.pins_of λp hp=>by
   rcases dD.mp hp with z|z
   .exact I1.pin p (fg _ z)
   .have e:p=(D,{cls:= .type "list",data:= .seq j.toArray no}):=by simpa using z
    subst e;exact⟨aA,af,ae,ay,λv z=>by have z':Data.seq _ _=Data.cell v:=z;cases z'⟩
  have M: ∀p∈[((D,{cls:= .type "list",data:= .seq j.toArray no}):Ad×Obj)],p.1=D:=λp hp=>by
   have e:p=(D,{cls:= .type "list",data:= .seq j.toArray no}):=by simpa using hp
   rw[e]
  rcases turn i n Q a w1 with⟨stop,hz,fin⟩|⟨go,hz,N,hN,step⟩
  .refine cT (T.done (hO X l k C s H h) zZ zZ zZ hc i _ O _ a (λ_ _=>False) aj (ao M as) ar stop) λr s4 ⟨hr,I4⟩=>?_;subst hr;have d4:s4.heap.get? D=some {cls:= .type "list",data:= .seq j.toArray no}:=(I4.pin (D,_) (fg _ (fg _ (dY ..)))).1;have Io:Inv X w A a s4:=I.call' (H':=a) (ch:=h) I4.os I4.base I4.hok I4.bare λb m=>by
    obtain⟨_,q1,_,q3,q4,q5⟩:=hf b m;exact⟨q3,q1,q4,q5⟩
   obtain⟨_,a1,_,a3,a4,a5⟩:=fD a af;have Ia:=Io.adopt hz ag af d4 (dL I.sz ()) a1 a4 a5;obtain⟨m4,aB,_⟩:=I4.loc;refine au D C s4 a Q m4 Ia af (fC _ ?_) aB fin;rw[cK (fh ae)];exact I4.free
  .refine cT (T.item (hO X l k C s H h) zZ zZ zZ hc i _ O _ a (λ_ _=>False) aj (ao M as) ar go) λr s4 ⟨u,hr,h4⟩=>?_;subst hr;refine cT h4 λ_ s5 ⟨x,H5,I5,r5,y5,ap,aC⟩=>?_;have aD:=I5.pinned (ao M aC) (T.obj _ _ ap);refine cT (hg C s H h _ s5 _ H5 x u _ aD r5 (step x H5 y5)) λ_ s6 ⟨Y,H6,I6,k6,q6⟩=>?_;refine cT (ht C s H h _ s6 Y H6 _ I6 q6) λok s7 ⟨H7,I7,q7⟩=>?_;have ak:(iJ l A).length=Y.length:=by rw[I1.len,I6.len]
   have pinned: ∀{H8:Hp} {s8:Sh},Inv (hO X l k C s H h) (w++[(D,{cls:= .type "list",data:= .seq j.toArray no})]++v6 h s5.heap) Y H8 s8->
     tn (i+1) s8.heap/\(∀b∈h,H8 b=none)/\H8 D=none/\s8.heap.get? D=some {cls:= .type "list",data:= .seq j.toArray no}:=λ{H8 s8} I8=>by
    refine⟨T.keep _ _ _ ap λb m o e=>(I8.pin (b,o) (fg _ (fg _ (vm m e)))).1,λb m=>?_,?_,?_⟩
    .obtain⟨o,e,d⟩:=T.obj _ _ ap b m;exact(I8.pin (b,o) (fg _ (fg _ (vm m e)))).2.1
    .exact(I8.pin (D,_) (fg _ (ni _ (fg _ (dY ..))))).2.1
    .exact(I8.pin (D,_) (fg _ (ni _ (fg _ (dY ..))))).1
   cases ok with
   |false=>
    rw[wA (by decide)]at q7⊢;obtain⟨m',hm,w7⟩:=hN _ _ q7;obtain⟨a1,a2,a3,a4⟩:=pinned I7;exact⟨m',hm,i+1,Q,j,no,H7,(I7.unpinned.unpinned).weak ak k6,a1,a2,a3,a4,ag,w7⟩
   | true=>
    rw[wB zZ]at q7⊢;refine cT (he C s H h _ s7 Y H7 _ I7 q7) λyv s8 ⟨y,H8,I8,r8,n8⟩=>?_;obtain⟨m',hm,w8⟩:=hN _ _ n8;obtain⟨a1,a2,a3,a4⟩:=pinned I8;have aE:j.toArray.size<=sizeLine:=by
     have:=ag.length;rw[eM];lia
    refine wpAny_list_append_plain ⟨no,a4⟩ (λh' pl sb=>?_) aE;obtain⟨aF,aG⟩:=pl;have I9:Inv (hO X l k C s H h) w Y H8 {s8 with heap:=h'}:=(I8.unpinned.unpinned).turned (t':=s8.toks) (it:=D) (λb o m e=>(sb.2 b m).trans e) a3 ae (.inr (pq ab)) an aw;refine⟨m',hm,i+1,Q++[y],j++[yv],aF,H8,I9.weak ak k6,T.keep _ _ _ a1 λb m o e=>(sb.2 b (am b m).1).trans e,a2,a3,?_,ag.append (.cons r8 .nil),w8⟩;rw[aG]
    simp
 exact codeAny_compStart_list (ai _ zZ) (T.self _ 0 _ _ _ (T.keep 0 _ _ st λb m o e=>old b o e) (ai _ zZ))
def xg(l:Ss)(b:TI)(g:TG)(B:TT)(G:TE):TE:=λA H Q=>b A H λJ c=>nQ l g B G A J c λd a=> ∀p,a p=none->Q (.ref p) (cA a p (.lst d))
def CompScope.clos{w:AO}{A:St}{H:Hp}{s:Sh}(S:CompScope X l k)(I:Inv X w A H s):closureFor k X.env=pure (hJ X.env k):=
 Gs λy a b=>I.ok.has y.1 (S.free y a b)
def HK{i:TI}(S:CompScope X l k)(j:X.calm=true)(m:PI X L f i)(n: ∀C s H a,PG (hO X l k C s H a) L g)(ht: ∀C s H a,pT (hO X l k C s H a) q B)
  (p: ∀C s H a,PE (hO X l k C s H a) t G) (r: ∀x,foldedSetIterable f X.env x=pure x:=by intro _;rfl):PE X (.ListComp t [⟨L,f,q,0⟩] k pos) (xg l i g B G):=by
 intro w s A H Q I h;rw[eval_ListComp];refine EY (use:=none) zZ r (S.clos I) S.kind S.locs ?_;refine cT (m w s A H _ I h) λv s1 u=>cT u λy s2 z=>?_;obtain⟨it,a,tn,J,H2,e,E,T,c,M,N⟩:=z;subst e;refine Hd (RR:=λd C=>compPost (model X.prog X.w) X.A X.xe none (EP X w A Q) d C) S j n ht p E T c M N λD C O H' ys U Y hD fC ns fin=>?_;obtain⟨c0,c1,c2,c3,c4,c5⟩:=fC;refine⟨U,ns,λh' sb=>⟨.ref D,_,?_,zZ,fin D hD⟩⟩;exact Y.turned (t':=O.toks) (it:=C) (λb o hb e=>(sb.2 b hb).trans e) c0 c1 c3 c4 c5
def IG{x:Str}{p:Pos}(S:CompScope X [x] k)(a:k.names.lookup x=some .local): ∀C s H b,PG (hO X [x] k C s H b) (.Name x p) (iE 0):=λC s H b=>
 fb S.nd zZ (.inl (qk a)) (.inr (qk a))
def gW{b:TI}{x:Str}{p:Pos}(S:CompScope X [x] k)(c:X.calm=true)(d:k.names.lookup x=some .local)(e:PI X (.Name x p) f b)(ht: ∀C s H a,pT (hO X [x] k C s H a) q B)
  (h: ∀C s H a,PE (hO X [x] k C s H a) t G) (i: ∀x,foldedSetIterable f X.env x=pure x:=by intro _;rfl):PE X (.ListComp t [⟨.Name x p,f,q,0⟩] k pos) (xg [x] b (iE 0) B G):=
 HK S c e (IG S d) ht h i
def Mp{N:TI}{j:Nat}{y:Str}{d c:Pos}(S:CompScope X l k)(Y:X.calm=true)(hN:X.N.Nodup)(hj:X.N[j]? =some y)(O:X.env.scope.names.lookup y=some .local)(hi:PI X L f N)(hg: ∀C s H i,PG (hO X l k C s H i) L g)(ht: ∀C s H i,pT (hO X l k C s H i) q B)
  (he: ∀C s H i,PE (hO X l k C s H i) t G) (p:swapsWith (.ListComp t [⟨L,f,q,0⟩] k pos) (some (.Name y d)) c.line X.env=pure true:=by rfl) (hs: ∀x,foldedSetIterable f X.env x=pure x:=by intro _;rfl):
  PS X (.Assign [.Name y d] (.ListComp t [⟨L,f,q,0⟩] k pos) c) (oE (xg l N g B G) (iE j)):=by
 intro w s A H D I h;rw[exec_Assign_Name_used _ _ _ _ p];refine cB (vY (cB ?_));show wpAny _ X.A (do let _ <-comprehension (.ListComp t [⟨L,f,q,0⟩] k pos) k X.env _ (newList []) false (eval f X.env) (some (assign (.Name y d) X.env))) _ _ s;refine cB (iM (EY (use:=some (assign (.Name y d) X.env)) (Q:=λ_ m=>SP X w D .next m) zZ hs (S.clos I) S.kind S.locs ?_) (λ_ m hq=>cH (cH hq)) λ_ _ e=>e);refine cT (hi w s A H _ I h) λv s1 h1=>cT h1 λaa s2 h2=>?_;obtain⟨it,i,tn,J,H2,e,I2,T,r,f2,hW⟩:=h2;subst e;refine Hd (RR:=λu C=>compPost (model X.prog X.w) X.A X.xe (some (assign (.Name y d) X.env)) (λ_ m=>SP X w D .next m) u C) S Y hg ht he I2 T r f2 hW λn C m H' ys m' I' hD fC ns fin=>?_;obtain⟨c0,U,c2,c3,c4,c5⟩:=fC;show wpAny _ X.A (assign (.Name y d) X.env (.ref n)) _ _ _;refine CS (CI (v:= .ref n) I' hN hj (.inl O) (show RelV (.ref n) (.ref n)from rfl) (λs3 I3 ⟨a,sb,ha⟩=>?_) (.inr O));have E:a≠C:=by
  rcases ha with z|z
  .rw[z];exact fh U
  .exact c4 y a z
 refine⟨m',ns.sameBut sb (fh E),λh' M=>⟨_,_,I3.turned (t':=s3.toks) (it:=C) (λb o hb e=>(M.2 b hb).trans e) c0 U c3 c4 c5,fin n hD⟩⟩
def IL{d:TI}{j:Nat}{x y:Str}{p e a:Pos}(S:CompScope X [x] k)(h:X.calm=true)(i:k.names.lookup x=some .local)(m:X.N.Nodup)(n:X.N[j]? =some y)(o:X.env.scope.names.lookup y=some .local)(r:PI X (.Name x p) f d)
  (ht: ∀C s H b,pT (hO X [x] k C s H b) q B) (u: ∀C s H b,PE (hO X [x] k C s H b) t G)
  (c:swapsWith (.ListComp t [⟨.Name x p,f,q,0⟩] k pos) (some (.Name y e)) a.line X.env=pure true:=by rfl) (v: ∀x,foldedSetIterable f X.env x=pure x:=by intro _;rfl):
  PS X (.Assign [.Name y e] (.ListComp t [⟨.Name x p,f,q,0⟩] k pos) a) (oE (xg [x] d (iE 0) B G) (iE j)):=Mp S h m n o r (IG S i) ht u c v
end
section
variable{K:Q5}{a:Ad}{xs:List V}{h:Ss}{g:TG}{j:TT}{d:TE}{c:St}{H:Hp}{Fin:List V->Hp->Prop}
def Ic(Pv:Nat->List V->Hp->Prop)(B:xs.length<=sizeLine)(o:Pv 0 [] H)(r: ∀i f H,i<=xs.length->Pv i f H->SqT K H a xs/\f.length<=i)
  (s: ∀i v f H,xs[i]? =some v->Pv i f H->g v (iJ h c) H λk t=>rm (iJ h c) k/\j k t λb n=>if b=true then d k n λy u=>Pv (i+1) (f++[y]) u else Pv (i+1) f n)
  (w: ∀f H,Pv xs.length f H->Fin f H):nQ h g j d c (xL K a) H Fin:=by
 refine⟨λi m f H=>m=xs.length-i/\i<=xs.length/\Pv i f H,⟨xs.length,by simp,Nat.zero_le _,o⟩,?_⟩;rintro i m f H ⟨rfl,x,p⟩;obtain⟨q,C⟩:=r i f H x p;by_cases l:i<xs.length
 .refine .inr ⟨⟨xs,xs[i],q,by simp[l]⟩,(),Pv (i+1),λD z A=>⟨xs.length-(i+1),Nat.sub_succ_lt_self _ _ l,zZ,l,A⟩,λv z y=>?_⟩;obtain⟨e,y⟩:=y;subst e;exact s i v f _ (y xs q) p
 .have e:i=xs.length:=by lia
  subst e;exact .inl ⟨⟨xs,q,cO _⟩,(),w f H p⟩
def m7(Pv:Nat->List V->Hp->Prop)(B:xs.length<=sizeLine)(o:Pv 0 [] H)(r: ∀i f H,i<=xs.length->Pv i f H->SqL K H a xs/\f.length<=i)
  (s: ∀i v f H,xs[i]? =some v->Pv i f H->g v (iJ h c) H λk t=>rm (iJ h c) k/\j k t λb n=>if b=true then d k n λy u=>Pv (i+1) (f++[y]) u else Pv (i+1) f n)
  (w: ∀f H,Pv xs.length f H->Fin f H):nQ h g j d c (s9 K a) H Fin:=by
 refine⟨λi m f H=>m=xs.length-i/\i<=xs.length/\Pv i f H,⟨xs.length,by simp,Nat.zero_le _,o⟩,?_⟩;rintro i m f H ⟨rfl,x,p⟩;obtain⟨q,C⟩:=r i f H x p;by_cases l:i<xs.length
 .refine .inr ⟨⟨xs,xs[i],q,by simp[l]⟩,(),Pv (i+1),λD z A=>⟨xs.length-(i+1),Nat.sub_succ_lt_self _ _ l,zZ,l,A⟩,λv z y=>?_⟩;obtain⟨e,y⟩:=y;subst e;exact s i v f _ (y xs q) p
 .have e:i=xs.length:=by lia
  subst e;exact .inl ⟨⟨xs,q,cO _⟩,(),w f H p⟩
def si{lo:Int}{n:Nat}(Pv:Nat->List V->Hp->Prop)(B:n<=sizeLine)(q:Pv 0 [] H)(r: ∀i f H,i<=n->Pv i f H->f.length<=i)
  (s: ∀i f H,i<n->Pv i f H->g (.int (lo+i)) (iJ h c) H λl t=>rm (iJ h c) l/\j l t λb o=>if b=true then d l o λy u=>Pv (i+1) (f++[y]) u else Pv (i+1) f o)
  (w: ∀f H,Pv n f H->Fin f H):nQ h g j d c (uh lo n) H Fin:=by
 refine⟨λi m f H=>m=n-i/\i<=n/\Pv i f H,⟨n,by simp,Nat.zero_le _,q⟩,?_⟩;rintro i m f H ⟨rfl,x,p⟩;have C:=r i f H x p;by_cases k:i<n
 .refine .inr ⟨k,(),Pv (i+1),λD z A=>⟨n-(i+1),Nat.sub_succ_lt_self _ _ k,zZ,k,A⟩,λv z y=>?_⟩;obtain⟨e,y⟩:=y;subst e y;exact s i f _ k p
 .have e:i=n:=by lia
  subst e;exact .inl ⟨cO _,(),w f H p⟩
def zh{x:Str}{xs:List V}{f:V->V}(n:xs.length<=sizeLine)(o:SqT K H a xs)(p: ∀v (Q:VK),v∈xs->Q (f v) H->d (some v::c) H Q)(q:Fin (xs.map f) H):
  nQ [x] (iE 0) oS d c (xL K a) H Fin:=by
 refine Ic (λi k l=>l=H/\k=(xs.take i).map f) n ⟨zZ,zZ⟩ (λi k l r ⟨e,b⟩=>?_) (λi v k l m ⟨e,b⟩=>⟨iO,?_⟩) (λk l ⟨e,b⟩=>?_)
 .subst e b;exact⟨o,by simp;lia⟩
 .subst e b;refine lB (p v _ (cY m) ⟨zZ,?_⟩);rw[iY,m,eI];rfl
 .subst e b;rw[hA];exact q
def OI{x:Str}{xs:List V}{f:V->V}(n:xs.length<=sizeLine)(o:SqL K H a xs)(p: ∀v (Q:VK),v∈xs->Q (f v) H->d (some v::c) H Q)(q:Fin (xs.map f) H):
  nQ [x] (iE 0) oS d c (s9 K a) H Fin:=by
 refine m7 (λi k l=>l=H/\k=(xs.take i).map f) n ⟨zZ,zZ⟩ (λi k l r ⟨e,b⟩=>?_) (λi v k l m ⟨e,b⟩=>⟨iO,?_⟩) (λk l ⟨e,b⟩=>?_)
 .subst e b;exact⟨o,by simp;lia⟩
 .subst e b;refine lB (p v _ (cY m) ⟨zZ,?_⟩);rw[iY,m,eI];rfl
 .subst e b;rw[hA];exact q
def Hl{x:Str}{xs:List V}{f:V->Bool}(p:xs.length<=sizeLine)(q:SqT K H a xs)(r: ∀v (Q:Bool->Hp->Prop),v∈xs->Q (f v) H->j (some v::c) H Q)(s: ∀v (Q:VK),v∈xs->Q v H->d (some v::c) H Q)
  (t:Fin (xs.filter f) H):nQ [x] (iE 0) j d c (xL K a) H Fin:=by
 refine Ic (λi l m=>m=H/\l=(xs.take i).filter f) p ⟨zZ,zZ⟩ (λi l m u ⟨e,k⟩=>?_) (λi v l m o ⟨e,k⟩=>⟨iO,?_⟩) (λl m ⟨e,k⟩=>?_)
 .subst e k;exact⟨q,dL (iZ _ _) (by simp;lia)⟩
 .subst e k;refine r v _ (cY o) ?_;have b:(xs.take (i+1)).filter f=(xs.take i).filter f++(if f v then[v]else[]):=by
   rw[iY,o,tv];cases n:f v<;>simp[n]
  cases n:f v with
  |true=>
   refine fH (s v _ (cY o) ⟨zZ,?_⟩);rw[b,n];rfl
  |false=>
   refine fq ⟨zZ,?_⟩;rw[b,n];simp
 .subst e k;rw[hA];exact t
end
inductive Dt where
 |non|int (i:Int)|str (x:Str)|lst (ds:List Dt)|tup (ds:List Dt)
inductive Rep (K:Q5) (H:Hp):Nat->Dt->V->Prop where
 |non (n:Nat):Rep K H n .non .non
 |int (n:Nat) (i:Int):Rep K H n (.int i) (.int i)
 |str (n:Nat) (x:Str):Rep K H n (.str x) (.str x)
 |lst {n:Nat} {ds:List Dt} {a:Ad} {xs:List V} (h:SqL K H a xs) (hl:xs.length=ds.length) (hi: ∀(i:Nat) d v,ds[i]? =some d->xs[i]? =some v->Rep K H n d v):Rep K H (n+1) (.lst ds) (.ref a)
 |tup {n:Nat} {ds:List Dt} {a:Ad} {xs:List V} (h:SqT K H a xs) (hl:xs.length=ds.length) (hi: ∀(i:Nat) d v,ds[i]? =some d->xs[i]? =some v->Rep K H n d v):Rep K H (n+1) (.tup ds) (.ref a)
def y4{e:Type}{c d:List e}(f:c.length=d.length)(h: ∀(i:Nat) a b,c[i]? =some a->d[i]? =some b->a=b):c=d:=by
 refine AS f λi g j=>?_;exact h i _ _ (by simp[g]) (by simp[j])
section
variable{X:Cx}{k:AO}{c:St}{H:Hp}{s:Sh}
def GA{a:Ad}{b d:List V}(I:Inv X k c H s)(h:SqL X.K H a b)(e:SqT X.K H a d):False:=by
 obtain⟨_,_,p,_⟩:=I.list h;obtain⟨_,_,q,_⟩:=I.tuple e;exact SeqAt.ne_of_list_tuple p.isList (show s.heap.IsTuple a _ from q) rfl
def CQ(I:Inv X k c H s): ∀(n:Nat) {d f:Dt} {v:V},Rep X.K H n d v->Rep X.K H n f v->d=f:=by
 intro n
 induction n with
 |zero=>
  intro d f v r g;cases r<;>cases g<;>rfl
 | succ n y=>
  intro d f v r g;cases r with
  |non=>cases g;rfl
  |int=>cases g;rfl
  |str=>cases g;rfl
  | @lst _ z a j h p t=>
   cases g with
   | @lst _ u _ w l m o=>
    have e:=I.list_inj h l;subst e;refine dN Dt.lst (y4 (p.symm.trans m) λi d f q x=>?_);have b:i<j.length:=by rw[p];exact(cP.mp q).1
    exact y (t i d j[i] q (cE b)) (o i f j[i] x (cE b))
   |tup l _ _=>exact(GA I h l).elim
  | @tup _ z a j h p t=>
   cases g with
   |lst l _ _=>exact(GA I l h).elim
   | @tup _ u _ w l m o=>
    have e:=I.tuple_inj h l;subst e;refine dN Dt.tup (y4 (p.symm.trans m) λi d f q x=>?_);have b:i<j.length:=by rw[p];exact(cP.mp q).1
    exact y (t i d j[i] q (cE b)) (o i f j[i] x (cE b))
def GC{g f:List Dt}(p:g.length=f.length){e:Nat->Bool}{N:Nat}(q:N=g.length)(m: ∀(j:Nat) d n,g[j]? =some d->f[j]? =some n->(e j=true↔d=n)):((List.range N).all e=true↔g=f):=by
 subst q;rw[sf];constructor
 .intro h;refine y4 p λi a b o r=>?_;exact(m i a b o r).mp (h i (f'.mpr (cP.mp o).1))
 .intro h i t;have l:=f'.mp t;subst h;exact(m i g[i] g[i] (by simp[l]) (by simp[l])).mpr rfl
def Mi{P:Nat->Bool->Prop}(h: ∀j,∃b,P j b): ∃e:Nat->Bool,∀j,P j (e j):=⟨λj=>Classical.choose (h j),λj=>sm (h j)⟩
def IT{A:Ar}{its its':Vs}{ds ds':List Dt}(r:its.length=ds.length)(t:its'.length=ds'.length)
  (h: ∀(j:Nat) u i d a,its[j]? =some u->its'[j]? =some i->ds[j]? =some d->ds'[j]? =some a-> ∃b,SeqAt.EqAt A s u i b/\(b=true↔d=a)):
  ∃e:Nat->Bool,(∀j (l:j<its.toArray.size) (m:j<its'.toArray.size),SeqAt.EqAt A s its.toArray[j] its'.toArray[j] (e j))/\ ∀(j:Nat) d a,ds[j]? =some d->ds'[j]? =some a->(e j=true↔d=a):=by
 obtain⟨e,n⟩:=Mi (P:=λj b=>(∀u i,its[j]? =some u->its'[j]? =some i->SeqAt.EqAt A s u i b)/\ ∀d a,ds[j]? =some d->ds'[j]? =some a->(b=true↔d=a)) λj=>by
  by_cases g:j<its.length/\j<its'.length
  .obtain⟨b,o,p⟩:=h j its[j] its'[j] (ds[j]'()) (ds'[j]'()) (by simp[g.1]) (by simp[g.2]) (List.getElem?_eq_getElem _) (List.getElem?_eq_getElem _);refine⟨b,λu i q f=>?_,λd a q f=>?_⟩
   .rw[cE g.1]at q;rw[cE g.2]at f;cases q;cases f;exact o
   .rw[cE ()]at q;rw[cE ()]at f;cases q;cases f;exact p
  .refine⟨true,λu i q f=>wC ⟨(cP.mp q).1,(cP.mp f).1⟩ g,λd a q f=>?_⟩;have v:=(cP.mp q).1;have w:=(cP.mp f).1;exact wC ⟨(),()⟩ g
 refine⟨e,λj l m=>?_,λj=>(n j).2⟩;simp only[List.size_toArray]at l m;exact(n j).1 _ _ (by simp[l]) (by simp[m])
def D9(I:Inv X k c H s){n:Nat}{A:Ar}(m:A.units<cLine){d o:Dt}{a t:Ad}(r:Rep X.K H (n+1) d (.ref a))(r':Rep X.K H (n+1) o (.ref t))
  (ih: ∀{d o:Dt} {v v':V} {u O:Vl},Rep X.K H n d v->Rep X.K H n o v'->RelV v u->RelV v' O-> ∃b,SeqAt.EqAt A.in1 s u O b/\(b=true↔d=o)):
  ∃b,SeqAt.RcAt A s (.ref a) (.ref t) b/\SeqAt.RcNeAt A s (.ref a) (.ref t) (!b)/\(b=true↔d=o):=by
 cases r with
 | @lst _ ds _ y h hl Q=>
  obtain⟨its,B,p,_⟩:=I.list h;have l1:=B.length;cases r' with
  | @lst _ ds' _ f w x l=>
   obtain⟨its',g,i,_⟩:=I.list w;have l2:=g.length;by_cases C:ds.length=ds'.length
   .obtain⟨e,D,T⟩:=IT (A:=A.in1) (s:=s) (its:=its) (its':=its') (ds:=ds) (ds':=ds') () () λj u O d o U Y E G=>by
     have g1:=(cP.mp E).1;have g2:=(cP.mp G).1;have J:y[j]? =some (y[j]'()):=cE _;have L:f[j]? =some (f[j]'()):=cE _;obtain⟨w1,M,y1⟩:=B.get J;obtain⟨w2,N,y2⟩:=g.get L;rw[U]at M;rw[Y]at N;cases M;cases N;exact ih (Q j d _ E J) (l j o _ G L) y1 y2
    have q:its.toArray.size=its'.toArray.size:=by simp only[List.size_toArray];lia
    refine⟨_,SeqAt.RcAt.lists p.isList i.isList q m D,SeqAt.RcNeAt.lists p.isList i.isList q m D,?_⟩;rw[GC C (by simp only[List.size_toArray];lia) T];exact⟨λz=>by rw[z],λz=>by cases z;rfl⟩
   .have q:(its.toArray.size != its'.toArray.size)=true:=by
     rw[bne_iff_ne];simp only[List.size_toArray];lia
    refine⟨false,SeqAt.RcAt.lists_lengths p.isList i.isList q m,SeqAt.RcNeAt.lists_lengths p.isList i.isList q m,⟨λz=>(by cases z),λz=>?_⟩⟩;cases z;exact wC zZ C
  | @tup _ ds' _ f w x l=>
   obtain⟨its',g,i,_⟩:=I.tuple w;exact⟨false,SeqAt.RcAt.list_tuple p.isList (show s.heap.IsTuple t _ from i) m,SeqAt.RcNeAt.list_tuple p.isList (show s.heap.IsTuple t _ from i) m,⟨λz=>(by cases z),λz=>(by cases z)⟩⟩
 | @tup _ ds _ y h hl Q=>
  obtain⟨its,B,p,_⟩:=I.tuple h;have l1:=B.length;cases r' with
  | @lst _ ds' _ f w x l=>
   obtain⟨its',g,i,_⟩:=I.list w;exact⟨false,SeqAt.RcAt.tuple_list (show s.heap.IsTuple a _ from p) i.isList m,SeqAt.RcNeAt.tuple_list (show s.heap.IsTuple a _ from p) i.isList m,⟨λz=>(by cases z),λz=>(by cases z)⟩⟩
  | @tup _ ds' _ f w x l=>
   obtain⟨its',g,i,_⟩:=I.tuple w;have l2:=g.length;obtain⟨e,D,T⟩:=IT (A:=A.in1) (s:=s) (its:=its) (its':=its') (ds:=ds) (ds':=ds') () () λj u O d o U Y E G=>by
     have g1:=(cP.mp E).1;have g2:=(cP.mp G).1;have J:y[j]? =some (y[j]'()):=cE _;have L:f[j]? =some (f[j]'()):=cE _;obtain⟨w1,M,y1⟩:=B.get J;obtain⟨w2,N,y2⟩:=g.get L;rw[U]at M;rw[Y]at N;cases M;cases N;exact ih (Q j d _ E J) (l j o _ G L) y1 y2
   refine⟨_,SeqAt.RcAt.tuples (show s.heap.IsTuple a _ from p) (show s.heap.IsTuple t _ from i) m D,SeqAt.RcNeAt.tuples (show s.heap.IsTuple a _ from p) (show s.heap.IsTuple t _ from i) m D,?_⟩;by_cases C:ds.length=ds'.length
   .have q:(its.toArray.size==its'.toArray.size)=true:=by
     rw[oO];simp only[List.size_toArray];lia
    rw[q,Bool.and_true,GC C (by simp only[List.size_toArray];lia) T];exact⟨λz=>by rw[z],λz=>by cases z;rfl⟩
   .have q:(its.toArray.size==its'.toArray.size)=false:=by
     rw[pA];simp only[List.size_toArray];lia
    rw[q,Bool.and_false];refine⟨λz=>(by cases z),λz=>?_⟩;cases z;exact wC zZ C
def GK{n m:Nat}{d b:Dt}{v a:V}(r:Rep X.K H n d v)(e:Rep X.K H m b a)(f:j6 v=true)(g:j6 a=true):(n' v a=true↔d=b):=by
 cases r<;>first|(cases f;done)|skip
 all_goals (cases e<;>first|(cases g;done)|skip)
 all_goals first|exact⟨λ_=>rfl,λ_=>rfl⟩|exact⟨λz=>Bool.noConfusion z,λz=>by cases z⟩|exact⟨λz=>dN Dt.int (eq_of_beq z),λz=>by injection z with z;exact oO.mpr z⟩|exact⟨λz=>dN Dt.str (eq_of_beq z),λz=>by injection z with z;exact oO.mpr z⟩
def yd(I:Inv X k c H s): ∀(n:Nat) {A:Ar},A.units+n<cLine-> ∀{d y:Dt} {v o:V} {u B:Vl},Rep X.K H n d v->Rep X.K H n y o->RelV v u->RelV o B-> ∃b,SeqAt.EqAt A s u B b/\(b=true↔d=y):=by
 intro n
 induction n with
 |zero=>
  intro A M d y v o u B r g q j;have f:j6 v=true:=by cases r<;>rfl
  have e:j6 o=true:=by cases g<;>rfl
  exact⟨_,z9 q j f e,GK r g f e⟩
 | succ n N=>
  intro A M d y v o u B r g q j;by_cases f:j6 v=true
  .by_cases e:j6 o=true
   .exact⟨_,z9 q j f e,GK r g f e⟩
   .refine⟨false,?_,⟨λz=>(by cases z),λz=>?_⟩⟩
    .cases g with
     |non=>exact wC zZ e
     |int=>exact wC zZ e
     |str=>exact wC zZ e
     | @lst _ C a D h E G=>
      cases j;obtain⟨l,_,p,_⟩:=I.list h;cases r with
      |non=>cases q;exact SeqAt.EqAt.none_list p.isList ()
      |int _ i=>obtain⟨t,rfl⟩:=q;exact SeqAt.EqAt.int_list i t p.isList ()
      |str _ x=>obtain⟨t,rfl⟩:=q;exact SeqAt.EqAt.str_list x t p.isList ()
      |lst _ _ _=>cases f
      |tup _ _ _=>cases f
     | @tup _ C a D h E G=>
      cases j;obtain⟨l,_,p,_⟩:=I.tuple h;have w:s.heap.IsTuple a l.toArray:=p;cases r with
      |non=>cases q;exact SeqAt.EqAt.none_tuple w ()
      |int _ i=>obtain⟨t,rfl⟩:=q;exact SeqAt.EqAt.int_tuple i t w ()
      |str _ x=>obtain⟨t,rfl⟩:=q;exact SeqAt.EqAt.str_tuple x t w ()
      |lst _ _ _=>cases f
      |tup _ _ _=>cases f
    .subst z;cases r<;>first|(cases f;done)|skip
     all_goals (cases g;exact wC zZ e)
  .by_cases e:j6 o=true
   .refine⟨false,?_,⟨λz=>(by cases z),λz=>?_⟩⟩
    .cases r with
     |non=>exact wC zZ f
     |int=>exact wC zZ f
     |str=>exact wC zZ f
     | @lst _ C a D h E G=>
      cases q;obtain⟨l,_,p,_⟩:=I.list h;cases g with
      |non=>cases j;exact SeqAt.EqAt.list_none p.isList ()
      |int _ i=>obtain⟨t,rfl⟩:=j;exact SeqAt.EqAt.list_int i t p.isList ()
      |str _ x=>obtain⟨t,rfl⟩:=j;exact SeqAt.EqAt.list_str x t p.isList ()
      |lst _ _ _=>cases e
      |tup _ _ _=>cases e
     | @tup _ C a D h E G=>
      cases q;obtain⟨l,_,p,_⟩:=I.tuple h;have w:s.heap.IsTuple a l.toArray:=p;cases g with
      |non=>cases j;exact SeqAt.EqAt.tuple_none w ()
      |int _ i=>obtain⟨t,rfl⟩:=j;exact SeqAt.EqAt.tuple_int i t w ()
      |str _ x=>obtain⟨t,rfl⟩:=j;exact SeqAt.EqAt.tuple_str x t w ()
      |lst _ _ _=>cases e
      |tup _ _ _=>cases e
    .subst z;cases g<;>first|(cases e;done)|skip
     all_goals (cases r;exact wC zZ f)
   .have J: ∀{m:Nat} {d:Dt} {v:V},Rep X.K H m d v-> ¬j6 v=true-> ∃a,v= .ref a:=λ{m d v} r f=>by
     cases r<;>first|exact⟨_,zZ⟩|exact wC zZ f
    obtain⟨a,rfl⟩:=J r f;obtain⟨O,rfl⟩:=J g e;cases q;cases j;by_cases L:a=O
    .subst L;exact⟨true,SeqAt.EqAt.same _,⟨λ_=>CQ I (n+1) r g,λ_=>rfl⟩⟩
    .obtain⟨b,Q,_,T⟩:=D9 I (A:=A) () r g λr g q j=>N (A:=A.in1) (by show A.units+1+n<cLine;lia) r g q j;exact⟨b,.of_refs L Q,T⟩
inductive j7(K:Q5)(e:Bool)(x y:V)(H:Hp)(Q:VK):Prop|mk:∀a f n d g,x= .ref a->y= .ref f->Rep K H (n+1) d (.ref a)->Rep K H (n+1) g (.ref f)->n<=30->(∀b,(b=true↔d=g)->Q (.bl (if e then !b else b)) H)->j7 K e x y H Q
def tD(m:X.A.units+64<cLine):OpR X (compareOp .Eq) (j7 X.K false):=by
 intro k s c H x y v u Q I f g h;obtain⟨a,o,n,d,p,rfl,rfl,r,e,t,q⟩:=h;cases f;cases g;obtain⟨b,i,_,j⟩:=D9 I (A:=X.A) () r e λr e q l=>yd I n (A:=X.A.in1) (by show X.A.units+1+n<cLine;lia) r e q l;exact i _ _ _ _ ⟨.bl b,H,I,zZ,q b j⟩
def AI(m:X.A.units+64<cLine):OpR X (compareOp .NotEq) (j7 X.K true):=by
 intro k s c H x y v u Q I f g h;obtain⟨a,o,n,d,p,rfl,rfl,r,e,t,q⟩:=h;cases f;cases g;obtain⟨b,_,i,j⟩:=D9 I (A:=X.A) () r e λr e q l=>yd I n (A:=X.A.in1) (by show X.A.units+1+n<cLine;lia) r e q l;exact i _ _ _ _ ⟨.bl (!b),H,I,zZ,q b j⟩
end
def Gb{K:Q5}{H:Hp}{n:Nat}{is:Zs}(i:Nat)(d:Dt)(v:V)(a:(is.map Dt.int)[i]? =some d)(b:(is.map V.int)[i]? =some v):Rep K H n d v:=by
 rw[cV]at a b;cases e:is[i]? with
 |none=>rw[e]at a;cases a
 |some k=>
  rw[e]at a b;cases a;cases b;exact .int n k
def EJ{K:Q5}{H:Hp}{n:Nat}{is:Zs}{a:Ad}(h:SqL K H a (is.map V.int)):Rep K H (n+1) (.lst (is.map Dt.int)) (.ref a):= .lst h (by simp) Gb
def Ep{K:Q5}{H:Hp}{n:Nat}{is:Zs}{a:Ad}(h:SqT K H a (is.map V.int)):Rep K H (n+1) (.tup (is.map Dt.int)) (.ref a):= .tup h (by simp) Gb
theorem tA{e i:Type}{f:e->i}(g: ∀a b,f a=f b->a=b): ∀{c d:List e},c.map f=d.map f->c=d
 | [],[],_=>rfl
 | [],_::_,h=>by simp at h
 |_::_,[],h=>by simp at h
 |a::c,b::d,h=>by
  simp only[List.map_cons,List.cons.injEq]at h;rw[g a b h.1,tA g h.2]
def oR{c d:Zs}:Dt.lst (c.map Dt.int)=Dt.lst (d.map Dt.int)↔c=d:=
 ⟨λh=>by injection h with h;exact tA (λa b e=>by injection e) h,λh=>by rw[h]⟩
def nH{c d:Zs}:Dt.tup (c.map Dt.int)=Dt.tup (d.map Dt.int)↔c=d:=
 ⟨λh=>by injection h with h;exact tA (λa b e=>by injection e) h,λh=>by rw[h]⟩
def ky(n:Nat):List V:=(List.range n).map λ(i:Nat)=>V.int (i:Int)
section
variable{X:Cx}
inductive nW(a:List V)(H:Hp)(Q:VK):Prop|mk:∀j:Int,a=[.int j]->(∀p,H p=none->Q (.ref p) (cA H p (.rng 0 j)))->nW a H Q
def DP:kg X (.type "range") nW:=by
 intro a s c H d f Q I r h;obtain⟨j,rfl,q⟩:=h;obtain⟨u,rfl,t,rfl⟩:=j3 r;refine call_range_1 ⟨.ref s.heap.objs.size,_,I.laid (t':=s.toks+1+1) (λb o e=>dM _ e) (cO _) (show ObjOk X.prog X.w _ _ _ (.rng 0 j)from⟨_,_,_,fj _ zZ⟩),zZ,q _ (I.hok.fresh (cO _))⟩
def Fc{n:Nat}{f:AV}(h:ItemsOf (λi v=> ∃t,v=Value.int ((0:Int)+(i:Nat) * 1) t) f n):Vals (ky n) f.toList:=by
 obtain⟨l,m⟩:=h;have go: ∀(d:List V) (c:Vs),d.length=c.length->(∀(j:Nat) x u,d[j]? =some x->c[j]? =some u->RelV x u)->Vals d c:=by
  intro d
  induction d with
  |nil=>intro c g _;cases c with
   |nil=>exact .nil
   |cons=>simp at g
  |cons x d o=>
   intro c g h;cases c with
   |nil=>simp at g
   |cons u c=>exact .cons (h 0 x u zZ zZ) (o c (by simpa using g) λj a b e k=>h (j+1) a b (by simpa using e) (by simpa using k))
 refine go _ _ (by simp[ky,l]) λj x u e k=>?_;obtain⟨t,rfl⟩:=m j u (by simpa using k);unfold ky at e;rw[cV]at e;have p:j<n:=by
  have:=(cP.mp k).1;simpa[l]using this
 rw[oV p]at e;cases e;refine⟨t,?_⟩
 congr 1
 lia
def FA{j:Int}(a:0<=j)(b:j<=1000000):Builtin.Range.small 0 j 1=true:=small_one (by decide) (by decide) () ()
def FD{j:Int}(a:0<=j):Builtin.Range.rangeSize 0 j 1=(j.toNat:Nat):=by
 rw[rangeSize_one];split<;>lia
inductive jw(a:List V)(H:Hp)(Q:VK):Prop|mk:∀p j,a=[.ref p]->H p=some (.rng 0 j)->0<=j->j<=1000000->(∀l,H l=none->Q (.ref l) (cA H l (.lst (ky j.toNat))))->jw a H Q
def Pu(g:X.calm=true):kg X (.type "list") jw:=by
 intro w s x H y z Q I r h;obtain⟨p,j,rfl,i,c,k,q⟩:=h;obtain⟨u,rfl,l⟩:=j3 r;cases l;obtain⟨A,B,C,e⟩:=I.hok p _ i;refine call_list_range (I.ok.hd g) e (FA c k) (FD c) () λd m a f n o b=>?_;have t:=Fc b;have v:d.get? s.heap.objs.size=some {cls:= .type "list",data:= .seq a.toList.toArray f}:=by simpa using o
 exact⟨.ref s.heap.objs.size,_,I.laid (t':=m) n (cO _) (show ObjOk X.prog X.w _ d _ (.lst (ky j.toNat))from⟨by rw[dz];simp[ky];lia,a.toList,f,t,v⟩),zZ,q _ (I.hok.fresh (Nat.le_refl _))⟩
end
section
open AutoSeq1 (wpAny_loadPart')
abbrev AH(j:Int)(a:AV):Prop:=ItemsOf (λi v=> ∃t,v=Value.int ((0:Int)+(i:Nat) * 1) t) a j.toNat
def Mv{k:Pg}{w:World}{A:Ar}{E:VP}{s:Sh}{Q:Vs->Sh->Prop}{r:Ad}{j:Int}{t u v:Tok}(C:A.handled=none)(y:IsRange s.heap r 0 j 1 t u v)(B:0<=j)(D:j<=1000000)
  (G: ∀d i c,(∀b o,s.heap.get? b=some o->d.get? b=some o)->AH j c->Q c.toList {s with heap:=d,toks:=i}):wpAny (model k w) A (collect (.ref r)) Q E s:=by
 have H:(s.heap.push {cls:= .type "list",data:= .seq ([]:Vs).toArray}).get? s.heap.objs.size=some {cls:= .type "list",data:= .seq #[] 0}:=by exact fj _ rfl
 unfold collect;refine wpAny_bind (wpAny_runValue (codeAny_builtin F.entry_proto_collect ?_));rw[Around.under_plainId F.plain_proto_collect _];show wpAny _ A.in1 (newList [] >>= λl=>again (.builtin "list.__iadd__" ⟨[l,.ref r],[]⟩)) _ _ s;refine cB (md (cH ⟨vb F.plain_list_iadd _,tm F.entry_list_iadd ?_⟩));rw[vt F.plain_list_iadd _];show wpAny _ A.in1 (Builtin.List.listExtendWith (.ref s.heap.objs.size) (.ref r) (.ref s.heap.objs.size)) _ _ _;have m: ∀n,(∃d i c p,n={s with heap:=d,toks:=i}/\(∀b o,s.heap.get? b=some o->d.get? b=some o)/\d.get? s.heap.objs.size=some {cls:= .type "list",dict:=none,data:= .seq c p,slots:= #[]}/\AH j c)->
   wpAny (model k w) A (match Value.ref s.heap.objs.size with
    | Value.ref a=>do
     let o <-load a
     match o.data with
      |Data.seq I _=>pure I.toList
      |_=>unsupported "internal:collect"
    |_=>unsupported "internal:collect") Q E n:=by
  rintro n ⟨d,i,c,p,rfl,z,q,x⟩;show wpAny _ A (load s.heap.objs.size >>= _) _ _ _;exact cB (wpAny_load q (cH (G d i c z x)))
 refine iM (wpAny_extend_range (A:=A) (R:=λr n=>r= .ok (.ret (.ref s.heap.objs.size))/\ ∃d i c p,n={s with heap:=d,toks:=i}/\(∀b o,s.heap.get? b=some o->d.get? b=some o)/\d.get? s.heap.objs.size=some {cls:= .type "list",dict:=none,data:= .seq c p,slots:= #[]}/\AH j c)
  (s:={s with heap:=s.heap.push {cls:= .type "list",data:= .seq ([]:Vs).toArray}}) C (dM _ y) (FA B D) (FD B) () _ (.ref s.heap.objs.size) 0 H λd i c p z q x=>
   ⟨zZ,d,i,c,p,zZ,λb o e=>z b o (d9 (dq e)) (dM _ e),q,x⟩) (λfin n h=>?_) (λe n h=>wC h.1 (by simp))
 cases fin with
 |done f=>obtain⟨e,g⟩:=h;cases e;exact m _ g
 |again p=>exact⟨h.1,oP h.2 λr J y=>by obtain⟨rfl,g⟩:=y;exact m _ g⟩
def MX(r:Ad)(j:Int)(t u v:Tok)(q:0<=j)(x:j<=1000000):Meets (Builtin.«tuple.__new__» ⟨[.type "tuple",.ref r],[]⟩)
  (λA R s=>A.handled=none/\IsRange s.heap r 0 j 1 t u v/\ ∀(c:Heap) i a,(∀b o,s.heap.get? b=some o->c.get? b=some o)->AH j a->
   R (.ok (.ret (.ref c.objs.size))) {s with heap:=c.push {cls:= .type "tuple",data:= .seq a},toks:=i}):=
 .of_wp λn w A R s h=>by
  obtain⟨y,g,d,i,os⟩:=s;obtain⟨z,k,h⟩:=h;have p:=sub_tuple_self;have l:=init_tuple_lookup;have B:=madeHere_tuple
  have hT:Shared.TypeIs ⟨y,g,d,i,os⟩ (.ref r) "range":=⟨_,k,zZ⟩
  wp_walk using ow k,vU hT,Mv (A:=A.in1) z k q x
  intro c m a C f;show wpAny _ _ (Builtin.Tuple.tupleExact a.toList.toArray >>= λv=>ret v) _ _ _;have D:a.toList.toArray.size<=sizeLine:=by
   have:=f.1;rw[dz];simp only[List.size_toArray,Array.length_toList];lia
  unfold Builtin.Tuple.tupleExact;refine wpAny_bind (wpAny_newObj_type (wpAny_pure ⟨_,zZ,?_⟩) D);have e:a.toList.toArray=a:=by simp
  rw[e];exact h c m a C f
end
section
variable{X:Cx}
inductive mq(a:List V)(H:Hp)(Q:VK):Prop|mk:∀p j,a=[.ref p]->H p=some (.rng 0 j)->0<=j->j<=1000000->(∀l,H l=none->Q (.ref l) (cA H l (.tup (ky j.toNat))))->mq a H Q
def Fo(m:X.calm=true):kg X (.type "tuple") mq:=by
 intro i s k H E G Q I r h;obtain⟨p,j,rfl,n,t,v,q⟩:=h;obtain⟨u,rfl,w⟩:=j3 r;cases w;obtain⟨x,y,z,e⟩:=I.hok p _ n;refine callType_new F.called_tuple (by decide) (F.typeCall_tuple_1 _) (F.newCall_tuple_1 _) (λd=>F.args_object_init_2 d _) F.entry_tuple_new (MX p j x y z t v) ⟨I.ok.hd m,e,λc f a A g=>⟨⟨_,fj _ zZ,zZ⟩,?_⟩⟩;have B:=Fc g;have l:Inv X i k H {s with heap:=c,toks:=f}:=I.kept A;have C:(ky j.toNat).length<=sizeLine:=by rw[dz];simp[ky];lia
 have D:Inv X i k (cA H c.objs.size (.tup (ky j.toNat))) {s with heap:=c.push {cls:= .type "tuple",data:= .seq a},toks:=f}:=
  l.laid (t':=f) (λb o e=>dM _ e) (cO _) (show ObjOk X.prog X.w _ _ _ (.tup (ky j.toNat))from⟨C,a.toList,B,by simpa using TupD.new c a⟩)
 exact⟨.ref c.objs.size,_,D,zZ,q _ (l.hok.fresh (cO _))⟩
inductive yi(K:Q5)(a:List V)(H:Hp)(Q:VK):Prop|mk:∀x n t b,a=[x,.ty n]->TyOf K H x t->PySem.W.kitOne K t (.type n)=some b->Q (.bl b) H->yi K a H Q
def EK:kg X (.builtin "isinstance") (yi X.K):=by
 intro f s g H i j Q I r h;obtain⟨x,n,t,b,rfl,ty,e,q⟩:=h;obtain⟨u,k,rfl,a,c⟩:=xA r;cases c;exact Oe I a ty e λd=>⟨.bl b,H,I.tok d,zZ,q⟩
end
structure CompSc(N:Ss)(osc:Scope)(vs:Ss)(sc:Scope):Prop where
 kind:sc.kind= .function:=by rfl
 cell: ∀y∈sc.names,y.2≠ .cell:=by decide+kernel
 locs: ∀y∈sc.names,y.2= .local->sc.names.lookup y.1=some .local:=by decide+kernel
 own: ∀y∈N.map (iq vs),sc.names.lookup y≠some .local:=by decide+kernel
 hid: ∀y∈vs,sc.names.lookup (vq y)=none:=by decide+kernel
 nd:(vs++N.map (iq vs)).Nodup:=by decide+kernel
 free: ∀y∈sc.names,y.2= .free->osc.names.lookup y.1=some .cell∨osc.names.lookup y.1=some .free:=by decide+kernel
def CompSc.to{X:Cx}{N:Ss}{osc:Scope}{vs:Ss}{a:Scope}(h:CompSc N osc vs a)(b:X.N=N:=by rfl)(c:X.env.scope=osc:=by rfl):CompScope X vs a:=by
 subst b c;exact⟨h.kind,h.cell,h.locs,h.own,h.hid,h.nd,h.free⟩
def dE(P:Pg)(w:World)(K:Q5)(mg:SV)(a:Heap)(x:Str)(k:Nat)(b:Ss)(d:Sp):Prop:=
 ∃f c,FnOk P w K mg a de k f c b d/\mg x=some (.ref f)/\PySem.W.keepIn K (.ref f)=true/\Binds K c b []
def dH{X:Cx}{x:Str}{k:Nat}{g:Ss}{d:Sp}{e:Expr}{a:List Expr}{t:TA}{p pos:Pos}(c:dE X.prog X.w X.K X.mg X.base x k g d)(h:Room k X.A)(i:Gl X x)(j:PA X (e::a) t)
  (l:(x==("__debug__":Str))=false:=by decide) (n:starEach (e::a) X.env=(false,eval e X.env)::starEach a X.env:=by rfl) (o:(backTo pos (starEach a X.env)).any (·.1)=false:=by rfl):
  PE X (.Call (.Name x p) (e::a) [] pos) (Bi d [] E0 t):=by
 obtain⟨f,r,F,m,q,b⟩:=c;exact Lr F h i m q b .nil xN j l n o
def Dr{X:Cx}{x:Str}{n:String}{pos:Pos}(a:Gl X x)(b:X.mg x=none)(c:bootBuiltins x=some (.type n))(d:x≠"__name__":=by decide)(e:(x==("__debug__":Str))=false:=by decide):PE X (.Name x pos) (tC (.ty n)):=
 NP (v:= .ty n) a b c (show RelV (.ty n) (.type n)from rfl) d e
def IxR.k{X:Cx}{K:Q5}(r:Q5->R2)(h:IxR X (r X.K))(a:X.K=K):IxR X (r K):=a▸h
def OpR.k{X:Cx}{K:Q5}{f:Vl->Vl->Sem Vl}(r:Q5->R2)(h:OpR X f (r X.K))(a:X.K=K):OpR X f (r K):=a▸h
def cM{H:Hp}{p:Ad}(h:H p=none)(o:HO):Same H (cA H p o):=λb u q=>by rw[cK (dU q h)];exact q
def small{n:Nat}(h:n<=1000):n<=sizeLine:=fQ (Ob h)
abbrev nv(n:Nat):V:= .int (n:Int)
def FF(a:cz):a.map nv=(a.map λ(n:Nat)=>(n:Int)).map V.int:=by rw[i4];rfl
def G6{c d:cz}:(c.map λ(n:Nat)=>(n:Int))=(d.map λ(n:Nat)=>(n:Int))↔c=d:=
 ⟨λh=>tA (λa b e=>zb e) h,λh=>by rw[h]⟩
def wV{K:Q5}{H:Hp}{n:Nat}{is:cz}{a:Ad}(h:SqL K H a (is.map nv)):Rep K H (n+1) (.lst ((is.map λ(n:Nat)=>(n:Int)).map Dt.int)) (.ref a):=EJ (by rw[<-FF];exact h)
def iX{K:Q5}{H:Hp}{n:Nat}{is:cz}{a:Ad}(h:SqT K H a (is.map nv)):Rep K H (n+1) (.tup ((is.map λ(n:Nat)=>(n:Int)).map Dt.int)) (.ref a):=Ep (by rw[<-FF];exact h)
def l7{a b:cz}:Dt.lst ((a.map λ(n:Nat)=>(n:Int)).map Dt.int)=Dt.lst ((b.map λ(n:Nat)=>(n:Int)).map Dt.int)↔a=b:=oR.trans G6
def dC{a b:cz}:Dt.tup ((a.map λ(n:Nat)=>(n:Int)).map Dt.int)=Dt.tup ((b.map λ(n:Nat)=>(n:Int)).map Dt.int)↔a=b:=nH.trans G6
def mY{a:cz}{k:Nat}(h:k<a.length):lF (a.map nv) (k:Int)=some (nv (a.getD k 0)):=gF (by rw[cV,cE h,eC,cE h];rfl)
def ww(H:Hp)(b:List V)(Q:VK):Prop:= ∀r a,Same H a->a r=some (.tup b)->Q (.ref r) a
def B4(t:TS):TS:=λD c H=> ∃S:St->Hp->Prop,t {D with nx:=S} c H/\ ∀a b,S a b->D.nx a b
def t6{X:Cx}{st:Stmt}{t:TS}(h:PS X st t):PS X st (B4 t):=by
 intro c s d H D I q;obtain⟨S,e,g⟩:=q;refine cT (h c s d H _ I e) λf j z=>?_;cases f with
 |next=>obtain⟨a,b,i,z⟩:=z;exact⟨a,b,i,g a b z⟩
 |brk=>exact z
 |cont=>exact z
 |ret u=>exact z
def gR{H a:Hp}{l:Ad}{o:HO}(g:Same H a)(c:H l=none):Same H (cA a l o):=λb u e=>by rw[cK (dU e c)];exact g b u e
def KS{a:Zs}{k:Nat}(h:k<a.length):lF (a.map V.int) (k:Int)=some (.int (a.getD k 0)):=gF (by rw[cV,cE h,eC,cE h];rfl)
def AG{n k:Nat}(h:k<n):pW n (k:Int)=some k:=by
 unfold pW;rw[wB (),wB (),ip]
def gb(c:Int){n:Nat}(h:1<=n):V.int (c%(n:Int))=nv (c%(n:Int)).toNat/\(c%(n:Int)).toNat<n:=by
 have a:=Int.emod_nonneg c (by lia:(n:Int)≠0);have b:=Int.emod_lt_of_pos c (by lia:(0:Int)<(n:Int));refine⟨?_,()⟩;show V.int _=V.int (((c%(n:Int)).toNat:Nat):Int);rw[Int.toNat_of_nonneg a]
def BJ(a:cz)(j v:Nat):(a.map nv).set j (nv v)=(a.set j v).map nv:=(List.map_set).symm
def z5{a:cz}{j v n:Nat}(h: ∀y∈a,y<n)(b:v<n): ∀y∈a.set j v,y<n:=by
 intro y c
 rcases List.mem_or_eq_of_mem_set c with z|z
 .exact h y z
 .rw[z];exact b
def xh{a:cz}{j n:Nat}(h: ∀y∈a,y<n)(b:j<a.length):a.getD j 0<n:=by
 rw[eC,cE b];exact h _ (l6 b)
def Oi{K:Q5}:PySem.W.kitOne K (.type "int") (.type "int")=some true:=by rfl
def Nc{K:Q5}:PySem.W.kitOne K (.type "int") (.type "bool")=some false:=by rfl
def gM{K:Q5}:PySem.W.kitOne K (.type "tuple") (.type "tuple")=some true:=by rfl
def Nd{P:Pg}{w:World}{a:Ad}{c:Type}[DecidableEq c]{kd:HeapKind P w c}(d:(a==sysModules)=false):
  MeetsIn P w (Builtin.«dict.__len__» ⟨[.ref a],[]⟩) λ_ R s=> ∃b,s.heap.DictOfH kd a b/\R (.ok (.ret (.int b.length s.toks))) {s with toks:=s.toks+1}:=
 .of_wp λA R s ⟨b,e,q⟩=>by
  obtain⟨k,f,l,g,m,h,i,_⟩:=e;have j:f.size=b.length:=A0 i;show wpAny _ _ (dictSize a >>= _) _ _ s;unfold dictSize;refine cB (cB (tu g h (cH (cB (wpAny_pendingCount_other d (wpAny_ret_mkInt ?_))))));rw[wr,j];exact q
def K4{P:Pg}{w:World}{A:Ar}{E:VP}{s:Sh}{a:Ad}{c:Type}[DecidableEq c]{e:HeapKind P w c}{b:List (c×Ad×Vl)}{Q:VP}(f:(a==sysModules)=false)
  (d:s.heap.DictOfH e a b) (few:(b.length:Int)<2 ^ 63) (q:Q (.int b.length (s.toks+1)) {s with toks:=s.toks+1+1}):wpAny (model P w) A (Builtin.«len» ⟨[.ref a],[]⟩) (λfin g=> ∃r,fin= .done (.ret r)/\Q r g) E s:=by
 have h: ¬((b.length:Nat):Int)<0:=by lia
 have i: ¬((b.length:Nat):Int)≥2 ^ 63:=by lia
 unfold Builtin.«len»;refine cB (m:=oneArg "len" _) (cH (cB (m:=callSpecial? (.ref a) (Str.ofString "__len__")) ?_));refine oT (name:=Str.ofString "__len__") d.typeIs F.slot_dict_len (call_meetsIn F.slot_dict_len d.typeIs F.entry_dict_len (F.args_dict_len_1 _) (Nd (kd:=e) f) ⟨b,d,?_⟩);show wpAny _ _ _ _ _ {s with toks:=s.toks+1};refine cB (hG (cH (cB (wpAny_letGo ?_))));show wpAny _ _ (if((b.length:Nat):Int)<0 then _ else(if((b.length:Nat):Int)≥2 ^ 63 then _ else _)) _ _ _;rw[wA h,wA i];exact cB (wpAny_mkInt (cH ⟨_,zZ,q⟩))
section
variable{X:Cx}
def LI:kg X (.builtin "len") (λd H Q=> ∃a b,d=[V.ref a]/\H a=some (.dT b)/\Q (.int b.length) H):=by
 intro l s m H d n Q I r h;obtain⟨a,b,rfl,f,q⟩:=h;obtain⟨u,rfl,g⟩:=j3 r;cases g;obtain⟨z,i,j,c,k⟩:=Ei I.hok f;have e:b.length=j.length:=pB c;refine D3 kind_len plain_len entry_len (args_len1 _) (K4 i k (by rw[<-e];rw[dz]at z;lia) ?_);exact⟨.int b.length,H,I.tok _,⟨_,by rw[e]⟩,q⟩
end
def nk(a:cz):List dB:=a.map λ(n:Nat)=>(Sum.inl (n:Int):dB)
def j9(a:cz):(nk a).map kV=a.map nv:=by
 unfold nk;rw[i4];rfl
def Bo{c d:cz}(h:nk c=nk d):c=d:=by
 unfold nk at h;exact tA (λa b e=>by injection e with e;exact zb e) h
section
variable{X:Cx}
inductive nL(K:Q5)(x y:V)(H:Hp)(Q:VK):Prop|mk:∀l b a c,x= .ref l->y= .ref b->SqL K H l a->SqL K H b c->a.length+c.length<=sizeLine->(∀p,H p=none->Q (.ref p) (cA H p (.lst (a++c))))->nL K x y H Q
def C8:OpR X (binaryOp .Add) (nL X.K):=by
 intro E s G H x y v u Q I p t h;obtain⟨l,b,J,L,rfl,rfl,w,z,M,q⟩:=h;cases p;cases t;obtain⟨c,r,⟨⟨N,O,T,A⟩,n,e,i,j,k⟩,_⟩:=I.list w;obtain⟨a,m,⟨⟨U,Y,k2,B⟩,C,o,d,f,g⟩,_⟩:=I.list z;simp only at i j k d f g;subst i j k d f g;have l1:=r.length;have l2:=m.length;have D:c.toArray++a.toArray=(c++a).toArray:=by simp
 refine A4 ⟨_,e,zZ⟩ ⟨_,o,zZ⟩ noFill_list_add seq_list_add F.slot_list_add F.entry_list_add (F.args_list_add_2 _ _) (list_addW l b c.toArray a.toArray n C none none A B (by simp only[List.size_toArray];lia)) ⟨e,o,?_⟩;rw[D];exact⟨.ref _,_,I.lnew (t':=s.toks) (r.append m) (by rw[dF];lia),zZ,q _ I.fresh⟩
end
section
variable{X:Cx}
def Ky{a:List V}{lo b:Option Int}(h:HT.sIx a.length 0 lo=0/\HT.sIx a.length a.length b=a.length):jB a lo b=a:=by
 unfold jB;rw[h.1,h.2,wg,A9,hA]
def Ox{P:Pg}{w:World}{A:Ar}{E:VP}{s:Sh}{t sl:Ad}{a:AV}{f g:Vl}{lo b:Option Int}{Q:VP}(ht:IsTup s.heap t a)(i:s.heap.IsSliceOf sl f g .none)
  (j:IsPart f lo) (k:IsPart g b) (hw:HT.sIx a.size 0 lo=0/\HT.sIx a.size a.size b=a.size) (h:Q (.ref t) s):wpAny (model P w) A (getItem (.ref t) (.ref sl)) Q E s:=by
 obtain⟨os,c,d,l⟩:=id i;have hT:s.TypeIs (.ref sl) "slice":=⟨os,c,d⟩;unfold getItem
 try with_reducible refine hG ?_
 first|refine cB (cH ?_)|skip
 refine cB (wpAny_sequenceKey ht.typeIs (by decide) ?_);refine cB (oT (name:=Str.ofString "__getitem__") ht.typeIs vg (kv vg ht.typeIs entry_tuple_getitem ?_ (args_tuple_getitem _ _)));show wpAny _ _ (Builtin.Tuple.tupleItemsOf (.ref t) >>= _) _ _ s;refine cB (tupleItemsOf_ ht (cB (vU hT ?_)));rw[wB (by decide)];refine cB (HT.sliceApplied_gen i j k ?_);have e:(((HT.sIx a.size 0 lo:Nat):Int)==0&&(1:Int)==1&&(HT.sIx a.size a.size b-HT.sIx a.size 0 lo)==a.size)=true:=by
  rw[hw.1,hw.2];simp
 show wpAny _ _ (if(((HT.sIx a.size 0 lo:Nat):Int)==0&&(1:Int)==1&&(HT.sIx a.size a.size b-HT.sIx a.size 0 lo)==a.size)=true then _ else _) _ _ s;rw[wB e];unfold Builtin.Tuple.tupleIsExact;refine cB (cB (vU ht.typeIs (cH ?_)));rw[wB (by decide)]
 first
  |exact cB (nV (cB (cH (cH ⟨_,zZ,cH h⟩))))
  |exact cB (nV (cH ⟨_,zZ,cH h⟩))
inductive yK(x:V)(lo c:Option Int)(H:Hp)(Q:VK):Prop|mk:∀a d,x= .ref a->H a=some (.tup d)->(∀p b,Same H b->b p=some (.tup (jB d lo c))->Q (.ref p) b)->yK x lo c H Q
def ET:BL X yK:=by
 intro k s l H x v m n lo e sl Q I f g i j h;obtain⟨a,b,rfl,c,q⟩:=h;by_cases hw:HT.sIx b.length 0 lo=0/\HT.sIx b.length b.length e=b.length
 .cases f;obtain⟨d,r,ht,u⟩:=I.tuple (Q4 c);have o:d.toArray.size=b.length:=by rw[eM];exact r.length.symm
  refine⟨"tuple",_,vg.lookup,ht.typeIs,Ox ht g i j (by rw[o];exact hw) ⟨.ref a,H,I,zZ,q a H (Same.refl H) ?_⟩⟩;rw[Ky hw];exact c
 .exact L5 k s l H (.ref a) v m n lo e sl Q I f g i j ⟨a,b,zZ,Q4 c,hw,λp t=>q p _ (cM t _) cF⟩
end
section
variable{X:Cx}
inductive qa(x y:V)(H:Hp)(Q:VK):Prop|mk:∀a b c d,x= .ref a->y= .ref b->H a=some (.tup c)->H b=some (.tup d)->c.length+d.length<=sizeLine->(∀p e,Same H e->e p=some (.tup (c++d))->Q (.ref p) e)->qa x y H Q
def DR:OpR X (binaryOp .Add) qa:=by
 intro A s B H x y v u Q I k l h;obtain⟨a,b,m,C,rfl,rfl,g,i,D,q⟩:=h;by_cases j:m=[]
 .cases k;cases l;obtain⟨c,E,G,_⟩:=I.tuple (Q4 g);obtain⟨d,r2,J,_⟩:=I.tuple (Q4 i);obtain⟨⟨c1,L,k1,M⟩,o,r,n,t⟩:=id G;obtain⟨⟨c2,N,k2,O⟩,w,e,T,f⟩:=id J;simp only at r t e f;subst r t e f;have U:c=[]:=E.nil_iff.mpr j;refine A4 ⟨_,o,zZ⟩ ⟨_,w,zZ⟩ DK seq_tuple_add F.slot_tuple_add F.entry_tuple_add (F.args_tuple_add_2 _ _) (tuple_addW0 a b c.toArray d.toArray n T L N M O (by rw[U];rfl)) ⟨o,w,?_⟩;exact⟨.ref b,H,I,zZ,q b H (Same.refl H) (by rw[j];exact i)⟩
 .refine MF A s B H (.ref a) (.ref b) v u Q I k l ⟨a,b,m,C,zZ,zZ,Q4 g,Q4 i,j,D,λz=>?_,λz p Y=>q p _ (cM Y _) cF⟩;refine q a H (Same.refl H) ?_;rw[z,iV];exact g
def Og:fillsNumberSlot (.type "tuple") "mul"=pure false:=by
 unfold fillsNumberSlot
 kernel_rfl
def MM:seqRepeat? (.type "tuple")=pure (some (.builtin "tuple.__mul__")):=by
 unfold seqRepeat?
 kernel_rfl
end
open AutoSeq1 (wpAny_loadPart')
def M3(a:Int)(t:Tok)(l:Ad)(b:AV)(n:Nat)(c:Option Ad)(sl:Array (Option Vl)):
  Meets (Builtin.«int.__rmul__» ⟨[.int a t,.ref l],[]⟩) (λ_ R s=>s.heap.get? l=some {cls:= .type "tuple",dict:=c,data:= .seq b n,slots:=sl}/\R (.ok (.ret Value.notImplemented)) s):=
 .of_wp λP w A R s h=>by
  obtain⟨f,g,d,i,os⟩:=s;obtain⟨e,h⟩:=h
  wp_walk using ow e
  exact⟨_,zZ,h⟩
def LK(l:Ad)(a:AV)(n:Nat)(c:Option Ad)(sl:Array (Option Vl))(k:Int)(u:Tok)(e: ¬(decide (k< -(2 ^ 63)) || decide (k≥2 ^ 63))=true)(f:(a.isEmpty || k==1)=true):
  Meets (Builtin.«tuple.__mul__» ⟨[.ref l,.int k u],[]⟩) (λ_ R s=>s.heap.get? l=some {cls:= .type "tuple",dict:=c,data:= .seq a n,slots:=sl}/\R (.ok (.ret (.ref l))) s):=
 .of_wp λP w A R s h=>by
  obtain⟨i,g,d,j,os⟩:=s;obtain⟨b,h⟩:=h;have m:=AutoSeq1.idx_int
  wp_walk using ow b
  refine EG (fy e) ?_
  wp_walk using ow b
  exact⟨_,zZ,h⟩
def OL(l:Ad)(its:AV)(n:Nat)(b:Option Ad)(sl:Array (Option Vl))(k:Int)(u:Tok)(c: ¬(decide (k< -(2 ^ 63)) || decide (k≥2 ^ 63))=true)(f: ¬(its.isEmpty || k==1)=true)
  (i: ¬(decide (k<=0) || its.isEmpty)=true) (e: ¬(its.size:Int) * k>(2 ^ 63-1) /8) (c4: ¬Builtin.Tuple.tupleTooMany ((its.size:Int) * k)=true) (j:((List.replicate k.toNat its).foldl (· ++ ·) #[]).size<=sizeLine):
  Meets (Builtin.«tuple.__mul__» ⟨[.ref l,.int k u],[]⟩) (λ_ R s=>s.heap.get? l=some {cls:= .type "tuple",dict:=b,data:= .seq its n,slots:=sl}/\
   R (.ok (.ret (.ref s.heap.objs.size))) {s with heap:=s.heap.push {cls:= .type "tuple",data:= .seq ((List.replicate k.toNat its).foldl (· ++ ·) #[])}}):=
 .of_wp λP w A R s h=>by
  obtain⟨m,g,d,o,os⟩:=s;obtain⟨a,h⟩:=h;have p:=AutoSeq1.idx_int
  wp_walk using ow a
  refine EG (fy c) ?_
  wp_walk using ow a
  refine EG (fy e) ?_
  wp_walk using ow a
  exact⟨_,zZ,h⟩
section
variable{X:Cx}
inductive rn(x y:V)(H:Hp)(Q:VK):Prop|mk:∀a b k,x= .ref a->y= .int ((k+1:Nat):Int)->H a=some (.tup b)->k<=1000->b.length<=1000->(∀p c,Same H c->c p=some (.tup (List.replicate (k+1) b).flatten)->Q (.ref p) c)->rn x y H Q
def K6:OpR X (binaryOp .Mult) rn:=by
 intro za s σ H x y v u Q I E G h;obtain⟨a,f,k,rfl,rfl,w,hk,hx,q⟩:=h;cases E;obtain⟨t,rfl⟩:=G;obtain⟨c,i,J,_⟩:=I.tuple (Q4 w);have L:=i.length;obtain⟨⟨c1,j,k1,l⟩,d,A,n,B⟩:=id J;simp only at A B;subst A B;have C: ¬(decide (((k+1:Nat):Int)< -(2 ^ 63)) || decide (((k+1:Nat):Int)≥2 ^ 63))=true:=by
  simp only[Bool.or_eq_true,decide_eq_true_eq];lia
 have hz:(k+1) * c.length<=1001 * 1000:=Nat.mul_le_mul () ();refine wpAny_binaryOp_repeat_ref (T:="tuple") (U:="int") (by decide) ⟨_,d,zZ⟩ (λM=>wP M _ t) Og F.fills_int_mul AL MM F.slot_int_index.lookup
  (oo AL (wP s _ t) F.entry_int_rmul (F.args_int_rmul_2 _ _) (M3 _ t a c.toArray n j l) ⟨d,zZ,⟨_,d,zZ⟩,?_⟩)
 by_cases g:(c.toArray.isEmpty || ((k+1:Nat):Int)==1)=true
 .refine oo F.slot_tuple_mul ⟨_,d,zZ⟩ F.entry_tuple_mul (F.args_tuple_mul_2 _ _) (LK a c.toArray n j l _ t C g) ⟨d,⟨.ref a,H,I,zZ,q a H (Same.refl H) ?_⟩⟩;have e:(List.replicate (k+1) f).flatten=f:=by
   rcases Bool.or_eq_true_iff.mp g with z|z
   .have p:c=[]:=by simpa using z
    have N:f=[]:=i.nil_iff.mp p;rw[N];simp
   .have p:k=0:=by
     have:=eq_of_beq z;lia
    subst p;simp
  rw[e];exact w
 .have r:c≠[]:=λz=>g (by rw[z];rfl);have D: ∀m:Nat,List.foldl (λO Y=>O++Y) #[] (List.replicate m c.toArray)=(List.replicate m c).flatten.toArray:=λm=>by
   have:=Cu c m [];rw[zu]at this;exact this
  have hl:((List.replicate (k+1) c).flatten).length=(k+1) * c.length:=CJ c (k+1);refine oo F.slot_tuple_mul ⟨_,d,zZ⟩ F.entry_tuple_mul (F.args_tuple_mul_2 _ _) (OL a c.toArray n j l _ t C g (by simp only[Bool.or_eq_true,decide_eq_true_eq];intro z;rcases z with z|z;lia;exact r (by simpa using z)) ?_ ?_ ?_) ⟨d,?_⟩
  .rw[eM];have:((c.length:Int) * ((k+1:Nat):Int))=(((k+1) * c.length:Nat):Int):=by rw[Int.natCast_mul,Int.mul_comm]
   lia
  .unfold Builtin.Tuple.tupleTooMany;rw[decide_eq_true_eq,eM,dz];have:((c.length:Int) * ((k+1:Nat):Int))=(((k+1) * c.length:Nat):Int):=by rw[Int.natCast_mul,Int.mul_comm]
   lia
  .rw[ip,D,eM,hl,dz];lia
  .rw[ip,D];refine⟨.ref s.heap.objs.size,_,I.laid (t':=s.toks) (o:= .tup (List.replicate (k+1) f).flatten) (λb ob z=>dM _ z) (cO _) ?_,zZ,q _ _ (cM (I.hok.fresh (cO _)) _) cF⟩;exact⟨by rw[CJ,dz,L];lia,_,i.rep (k+1),TupD.new _ _⟩
end
end L2
namespace L2
open PySem PySem.Spec PyProof.Rows
section
variable{X:Cx}
inductive y9(K:Q5)(a:List V)(H:Hp)(Q:VK):Prop|mk:∀(p:Ad) (bs:List Bool),a=[.ref p]->SqL K H p (bs.map V.bl)->Q (.bl (bs.all id)) H->y9 K a H Q
def NU(n:X.calm=true):kg X (.builtin "all") (y9 X.K):=by
 intro G s J H L M Q I r h;obtain⟨p,bs,rfl,t,q⟩:=h;obtain⟨u,rfl,w⟩:=j3 r;cases w;obtain⟨a,g,j,_⟩:=I.list t;have k:=j.isList;have f:p<s.heap.objs.size:=j.lt;have c:a.length=bs.length:=by rw[<-g.length,cC]
 refine call_all_walk (wW k ⟨_,_,_,_,_,_,λi=>bs.getD i false,zZ,Walks.list (A:=X.A.in1) (I.ok.hd n) _ p (d9 f) a.toArray,⟨⟨_,fj _ zZ,zZ,zZ⟩,k.push _⟩,?_,λN O y=>?_⟩)
 .intro i v T U Y B C;have d:a[i]? =some v:=by simpa using B
  have l:i<bs.length:=by rw[<-c];exact(cP.mp d).1
  obtain⟨u2,m,D⟩:=g.get (i:=i) (x:= .bl (bs.getD i false)) (by rw[cV,cE l,eC,cE l];rfl);rw[d]at m;cases m;cases(show v=Value.bool _ from D);exact qh C
 .have e:(List.range a.toArray.size).all (λi=>bs.getD i false)=bs.all id:=by
   rw[eM,c];have:bs=(List.range bs.length).map λi=>bs.getD i false:=by
    refine AS (by simp) λi E h2=>?_;simp[List.getD_eq_getElem?_getD,E]
   conv=>rhs;rw[this,List.all_map]
   rfl
  rw[e];exact⟨.bl (bs.all id),H,I.kept λb o z=>y b o (by simp only[List.mem_singleton];exact Nat.ne_of_lt (Heap.lt_size z)) (Heap.get?_push_of_some _ z),zZ,q⟩
end
structure PL(X:Cx)(es:List Expr)(t:TA):Prop where
 pa:PA X es t
section
variable{X:Cx}{e a b:Expr}{c:List Expr}{d f g:TE}{t:TA}{pos:Pos}
def db:PL X [] lZ:=⟨cJ⟩
def cD(h:PE X e d)(i:PL X c t)(j:starEach (e::c) X.env=(false,eval e X.env)::starEach c X.env):PL X (e::c) (mN d t):=⟨cN h i.pa j⟩
def c8(h:PL X c t):PA X c t:=h.pa
end
def yC(op:CmpOp)(A:Ar)(s:Sh)(x y:Vl)(r:Bool):Prop:=
 ∀(P:Pg) (w:World) (E:VP) (Q:VP),Q (.bool r) s->wpAny (model P w) A (richCompare op x y) Q E s
inductive Cmp (op:CmpOp) (A:Ar) (s:Sh):List (Vl×Vl)->Option Bool->Prop where
 |nil:Cmp op A s [] none
 |eq {x y zs o}:SeqAt.EqAt A s x y true->Cmp op A s zs o->Cmp op A s ((x,y)::zs) o
 |ne {x y zs r}:SeqAt.EqAt A s x y false->yC op A s x y r->Cmp op A s ((x,y)::zs) (some r)
def SeqObj(c:String)(h:Heap)(a:Ad)(b:Vs):Prop:= ∃n d sl,h.get? a=some ⟨.type c,d,.seq b.toArray n,sl⟩
section
variable{P:Pg}{w:World}{A:Ar}{E:VP}{s:Sh}{a:CmpOp}
def Nr{i:Type}{f:Vl×Vl->i->Sem (ForInStep i)}{d:i}{Q:i->Sh->Prop}{j:List (Vl×Vl)}{o:Option Bool}(h:Cmp a A s j o)
  (k: ∀x y Q,SeqAt.EqAt A s x y true->Q (.yield d) s->wpAny (model P w) A (f (x,y) d) Q E s)
  (no: ∀x y r,SeqAt.EqAt A s x y false->yC a A s x y r->o=some r->wpAny (model P w) A (f (x,y) d) (λt g=>match t with| .yield _=>False| .done b=>Q b g) E s)
  (fin:o=none->Q d s):wpAny (model P w) A (forIn j d f) Q E s:=by
 refine C1 f (λrest b g=>b=d/\g=s/\Cmp a A s rest o) Q (λz rest b g q=>?_) (λb g q=>?_) j d ⟨zZ,zZ,h⟩
 .obtain⟨rfl,rfl,c⟩:=q;cases c with
  |eq e c=>exact k _ _ _ e ⟨zZ,zZ,c⟩
  |ne e c=>
   refine iM (no _ _ _ e c zZ) (λt l z=>?_) λ_ _ z=>z;cases t with
   |yield _=>exact z.elim
   |done _=>exact z
 .obtain⟨rfl,rfl,c⟩:=q;cases c;exact fin rfl
end
section
open AutoSeq1
open MeetsSeq MeetsSeq2 MeetsSeq3 SeqRoads2 SeqAt
variable{l b:Ad}{a d:Vs}
def OF:Meets (Builtin.«tuple.__lt__» ⟨[.ref l,.ref b],[]⟩) (λA R s=>SeqObj "tuple" s.heap l a/\SeqObj "tuple" s.heap b d/\ ∃o,Cmp .Lt A.in1 s (a.zip d) o/\R (.ok (.ret (.bool (o.getD (decide (a.length<d.length)))))) s):=by
 refine .of_wp λP w A R ⟨h,p,t,k,os⟩ ⟨⟨n,u,sl,f⟩,⟨m,v,tl,i⟩,o,c,q⟩=>?_;have sub:=AutoSeq1.sub_tuple_tuple
 wp_walk using ow f,ow i
 refine Nr c (λx y Q e z=>?_) (λx y r e j z=>?_) (λz=>?_)
 .refine cB (e P w _ _ ?_)
  wp_walk
  exact z
 .refine cB (e P w _ _ ?_);generalize g:richCompare .Lt x y=ask
  wp_walk
  subst g;refine j P w _ _ ?_
  wp_walk
  subst z;exact⟨_,zZ,q⟩
 .subst z
  wp_walk
  exact⟨_,zZ,by simpa[Builtin.Tuple.tupleCompareSizes]using q⟩
end
def gP:cz->List Nat->Option Bool
 |a::c,b::d=>if a=b then gP c d else some (decide (a<b))
 |_,_=>none
def eR(a b:cz):Bool:=(gP a b).getD (decide (a.length<b.length))
def pD(b:cz):eR b b=false:=by
 have no:gP b b=none:=by
  induction b with
  |nil=>rfl
  |cons a b c=>rw[gP,wB zZ,c]
 unfold eR;rw[no];simp
section
variable{A:Ar}{s:Sh}{l b:Ad}{a d:Vs}{o:Option Bool}
def KR{i j:Int}{t u:Tok}:yC .Lt A s (.int i t) (.int j u) (decide (i<j)):=λP w E Q q=>show wpAny _ _ (compareOp .Lt _ _) _ _ _ from PyProof.Rows.lt_int q
def gu{i j:Int}{t u:Tok}:SeqAt.EqAt A s (.int i t) (.int j u) (decide (i=j)):=by
 have z:=z9 (A:=A) (s:=s) (y:= .int i) (x:= .int j) (u:= .int i t) (v:= .int j u) ⟨t,zZ⟩ ⟨u,zZ⟩ zZ rfl;have e:n' (.int i) (.int j)=decide (i=j):=by
  show(i==j)=_;by_cases h:i=j<;>simp[h]
 rwa[e]at z
theorem Hq{op:CmpOp}{F:Bool->Bool}(g: ∀(i j:Nat) (t u:Tok),i≠j->yC op A s (.int (i:Int) t) (.int (j:Int) u) (F (decide (i<j)))):
  ∀{f c:cz} {a d:Vs},Vals (f.map nv) a->Vals (c.map nv) d->Cmp op A s (a.zip d) ((gP f c).map F)
 | [],c,_,_,.nil,_=>by rw[List.zip_nil_left,show gP [] c=none by cases c<;>rfl];exact .nil
 |n::f,[],_,_,.cons _ _,.nil=>by rw[List.zip_nil_right];exact .nil
 | n::f,m::c,_,_,.cons ⟨t,h⟩ k,.cons ⟨u,p⟩ q=>by
  subst h p;have z:=gu (A:=A) (s:=s) (i:=(n:Int)) (j:=(m:Int)) (t:=t) (u:=u);by_cases e:n=m
  .rw[eJ ()]at z;rw[gP,wB e];exact .eq z (Hq g k q)
  .rw[fy ()]at z;rw[gP,wA e];exact .ne z (g n m t u e)
def KZ{c f:cz}(g:Vals (c.map nv) a)(h:Vals (f.map nv) d):Cmp .Lt A s (a.zip d) (gP c f):=by
 have z:=Hq (A:=A) (s:=s) (op:= .Lt) (F:=λb=>b) (λi j t u _=>by
  have e:decide ((i:Int)<(j:Int))=decide (i<j):=by simp
  exact e▸KR) g h
 rwa[Option.map_id']at z
def N7(h:s.heap.IsTuple l a.toArray):SeqObj "tuple" s.heap l a:=by
 obtain⟨⟨c,f,j,sl⟩,e,g,n,i⟩:=h;cases g;cases i;exact⟨n,f,sl,e⟩
def SeqObj.ty{c:String}(h:SeqObj c s.heap l a):s.TypeIs (.ref l) c:=let⟨_,_,_,e⟩:=h;⟨_,e,zZ⟩
def KY(e:SeqObj "tuple" s.heap l a)(f:SeqObj "tuple" s.heap b d)(g:A.units<cLine)(c:Cmp .Lt A.in1 s (a.zip d) o):yC .Lt A s (.ref l) (.ref b) (o.getD (decide (a.length<d.length))):=λP w E Q q=>
 richCompare_meets_room (op:= .Lt) e.ty f.ty F.slot_tuple_lt F.entry_tuple_lt (F.args_tuple_lt_2 _ _) OF ⟨e,f,o,c,(λz=>nomatch z),q⟩ g
end
section
variable{X:Cx}
def uu(i:Int)(a:cz)(j:Int)(b:cz):Bool:=if i=j then eR a b else decide (i<j)
end
def cS(m:Nat):cz:=(List.range 5).filter λi=>m.testBit i
def gT(led:Bool)(a:cz):SetTable:={mask:=if a.length=5 then 31 else 7,place:=a.toArray,dummies:= #[],finger:=0,led,moves:=if a.length=5 then 1 else 0,plain:=true}
def nM(a:cz)(k:Nat):Nat:=(a.filter (· <k)).length
def mT(a:Bool)(m k:Nat):SetTable:={gT a (cS m)with place:=(cS (m |||2 ^ k)).toArray}
def yr: ∀(a:Bool) (m:Fin 32),(gT a (cS m)).fits (cS m).length=true:=by decide+kernel
def Nt: ∀(a:Bool) (m:Fin 32) (k:Fin 5),(m:Nat).testBit k=false->(gT a (cS m)).freeSlot ((k:Nat):Int)=some ((k:Nat),false):=by decide+kernel
def Oc: ∀(a:Bool) (m:Fin 32) (k:Fin 5),(m:Nat).testBit k=false->(gT a (cS m)).put k=(mT a m k,nM (cS m) k)/\(mT a m k).fits ((cS m).length+1)=true:=by decide+kernel
def J9: ∀(m:Fin 32) (k:Fin 5),(m:Nat).testBit k=false->cS (m |||2 ^ (k:Nat))=(cS m).take (nM (cS m) k)++(k:Nat)::(cS m).drop (nM (cS m) k):=by decide+kernel
def Ki: ∀(m:Fin 32) (k:Fin 5),(k:Nat)∈cS m->(m |||2 ^ (k:Nat):Nat)=m:=by decide+kernel
def Je: ∀(m:Fin 32) (k:Fin 5),(k:Nat)∉cS m->(m:Nat).testBit k=false:=by decide+kernel
def GL: ∀(m:Fin 32) (k:Fin 5),(m |||2 ^ (k:Nat):Nat)<32:=by decide+kernel
def xZ: ∀m:Fin 32,(cS m).length<=5:=by decide+kernel
def Jx: ∀(a:Bool) (m:Fin 32) (k:Fin 5),(m:Nat).testBit k=false->(cS m).length≠4->mT a m k=gT a (cS (m |||2 ^ (k:Nat)))/\(mT a m k).tooFull=false:=by decide+kernel
def Jm: ∀(a:Bool) (m:Fin 32) (k:Fin 5),(m:Nat).testBit k=false->(cS m).length=4->(mT a m k).tooFull=true/\
  (mT a m k).relaid #[0,1,2,3,4] (SetTable.grown 5)=some (gT a (cS (m |||2 ^ (k:Nat))),#[0,1,2,3,4])/\cS (m |||2 ^ (k:Nat))=[0,1,2,3,4]/\(gT a (cS (m |||2 ^ (k:Nat)))).fits 5=true:=by decide+kernel
def Ds: ∀k:Fin 5,hashInt ((k:Nat):Int)=((k:Nat):Int):=by decide+kernel
def Ents:cz->List (Int×Vl)->Prop:=Paired λn e=>e.1=(n:Int)/\ ∃t,e.2= .int (n:Int) t
def nS(a:List (Int×Vl))(b:Nat)(t:SetTable):Obj:={cls:= .type "set",data:= .set a.toArray b t}
def IsSet5(h:Heap)(a:Ad)(b:Bool)(m:Nat):Prop:=m<32/\ ∃c d,h.get? a=some (nS c d (gT b (cS m)))/\Ents (cS m) c
theorem Ents.take: ∀{a:cz} {b:List (Int×Vl)} (p:Nat),Ents a b->Ents (a.take p) (b.take p)
 |_,_,0,_=> .nil
 |_,_,_+1,.nil=> .nil
 |_,_,p+1,.cons r t=> .cons r (Ents.take p t)
theorem Ents.drop: ∀{a:cz} {b:List (Int×Vl)} (p:Nat),Ents a b->Ents (a.drop p) (b.drop p)
 |_,_,0,r=>r
 |_,_,_+1,.nil=> .nil
 |_,_,p+1,.cons _ t=>Ents.drop p t
theorem Ents.app: ∀{a b:cz} {c fs:List (Int×Vl)},Ents a c->Ents b fs->Ents (a++b) (c++fs)
 |_,_,_,_,.nil,r=>r
 |_,_,_,_,.cons q t,r=> .cons q (Ents.app t r)
def Ents.len{a:cz}{b:List (Int×Vl)}(h:Ents a b):b.length=a.length:=(pB h).symm
theorem Ents.keys: ∀{a:cz} {b:List (Int×Vl)},Ents a b->b.map (·.1)=a.map λ(n:Nat)=>(n:Int)
 |_,_,.nil=>rfl
 |_,_,.cons q t=>by rw[iG,iG,q.1,Ents.keys t]
theorem Ents.mem: ∀{a:cz} {b:List (Int×Vl)} {e:Int×Vl},Ents a b->e∈b-> ∃n∈a,e.1=(n:Int)/\ ∃t,e.2= .int (n:Int) t
 | _,_,_,.cons q t,h=>by
  rcases dZ.mp h with z|z
  .subst z;exact⟨_,dY,q⟩
  .obtain⟨n,c,d⟩:=Ents.mem t z;exact⟨n,fR _ c,d⟩
theorem Ents.has: ∀{a:cz} {b:List (Int×Vl)} {n:Nat},Ents a b->n∈a-> ∃e∈b,∃t,e.2= .int (n:Int) t
 | _,_,_,.cons q t,h=>by
  rcases dZ.mp h with z|z
  .subst z;exact⟨_,dY,q.2⟩
  .obtain⟨e,c,d⟩:=Ents.has t z;exact⟨e,fR _ c,d⟩
def Ents.elems{P:Pg}{w:World}{m:Fin 32}{b:List (Int×Vl)}(h:Ents (cS m) b):ElemsOf (intKind P w) b:=λe d=>by
 obtain⟨n,f,g,t,c⟩:=h.mem d;have a:n<5:=f'.mp (dP.mp f).1;exact⟨⟨(n:Int),by rw[c];exact yq _ _ _ _,by rw[g];exact(Ds ⟨n,a⟩).symm⟩,by rw[c];rfl⟩
def Od{b:Type}(a:List b)(p:Nat)(x:b):(SetTable.insertAt a.toArray p x)=(a.take p++x::a.drop p).toArray:=by
 unfold SetTable.insertAt;apply Array.ext';simp;exact xM (by simp)
section
variable{P:Pg}{w:World}{A:Ar}{E:VP}{s:Sh}{a:Ad}{b:Bool}{m k:Nat}{t:Tok}
def Jd{h:Heap}{d fs:List (Int×Vl)}{c:Nat}{t u:SetTable}(e:h.get? a=some (nS d c t)):(h.update a (Obj.putSet fs.toArray u)).get? a=some (nS fs (c+1) u):=v4 _ e rfl
def y8{c:Type}{fs:List c}{n:Nat}(h:fs.length=n+1): ∃a r,fs=a::r/\r.length=n:=by
 cases fs with
 |nil=>cases h
 |cons a r=>exact⟨a,r,zZ,Nat.succ.inj h⟩
def xt{c:Type}{fs:List c}(h:fs.length=5):(#[0,1,2,3,4]:Array Nat).filterMap (fs.toArray[·]?)=fs.toArray:=by
 obtain⟨_,_,rfl,d⟩:=y8 h;obtain⟨_,_,rfl,e⟩:=y8 d;obtain⟨_,_,rfl,f⟩:=y8 e;obtain⟨_,_,rfl,g⟩:=y8 f;obtain⟨_,_,rfl,i⟩:=y8 g;cases pZ.mp i;rfl
def M6{Q:Sh->Prop}(l:k<5)(hS:IsSet5 s.heap a b m)(q: ∀G,IsSet5 G a b (m |||2 ^ k)->Heap.SameBut a s.heap G->Q {s with heap:=G}):
  wpAny (model P w) A (setAddHashed a (.int (k:Int) t) (k:Int)) (λ_ s'=>Q s') E s:=by
 obtain⟨f,c,H,e,r⟩:=hS;have I:=r.len;have J:=yr b ⟨m,f⟩;have el:ElemsOf (intKind P w) c.toArray.toList:=Ents.elems (m:=⟨m,f⟩) r;have m5:(cS m).length<=5:=xZ ⟨m,f⟩;have p:(gT b (cS m)).fits c.toArray.size=true:=by rw[eM,I];exact J
 have sc:byScan (.int (k:Int) t) c.toArray=true:=by
  unfold byScan;have e3:c.toArray.all (·.2.scannable)=true:=by
   rw[Array.all_eq_true_iff_forall_mem];exact λx L=>(el x (by simpa using L)).2
  rw[e3];have e4:decide (c.toArray.size<scanBound)=true:=eJ (by rw[eM,I];unfold scanBound;lia);rw[e4];rfl
 have hh:(intKind P w).hash (k:Int)=(k:Int):=Ds ⟨k,l⟩;unfold setAddHashed setAddHashedIn;refine hG (cB (tz e zZ p ?_));dsimp only;rw[sc,wB zZ];unfold setAddByScan;refine cB (cB (nV (cB ?_)));have scan: ∀{R:ScanMet->Sh->Prop},R (match c.toArray.toList.findIdx? (λe=>(intKind P w).is (k:Int) e.2)with|some j=> .found (0+j)|none=> .absent) s->wpAny (model P w) A (setScan a (.int (k:Int) t) (k:Int) true c.toArray) R E s:=λz=>by
  have y:=wpAny_setScan_of (prog:=P) (w:=w) (A:=A) (E:=E) (knd:=intKind P w) (k:=(k:Int)) (x:= .int (k:Int) t) (adding:=true) (yq _ _ _ _) e zZ p el z;rw[hh]at y;exact y
 refine scan ?_;rw[zw];by_cases o:k∈cS m
 .obtain⟨x,L,tx,ex⟩:=r.has o;cases M:c.findIdx? λe=>(intKind P w).is (k:Int) e.2 with
  |none=>
   have z:=List.findIdx?_eq_none_iff.mp M x L;rw[ex,yq]at z;cases z
  |some j=>
   refine cH (cH ?_);have z:=q s.heap (by rw[Ki ⟨m,f⟩ ⟨k,l⟩ o];exact⟨f,c,H,e,r⟩) (Heap.SameBut.refl a s.heap);cases s;exact z
 .have B:=Je ⟨m,f⟩ ⟨k,l⟩ o;cases M:c.findIdx? λe=>(intKind P w).is (k:Int) e.2 with
  |some j=>
   obtain⟨hj,C,_⟩:=List.findIdx?_eq_some_iff_getElem.mp M;obtain⟨n,hn,_,tn,N⟩:=r.mem (l6 hj);rw[N]at C;have z:(k:Int)=(n:Int):=(intKind P w).inj _ _ _ C (yq _ _ _ tn);have z':k=n:=by lia
   exact wC (z'▸hn) o
  | none=>
   obtain⟨pu,pf⟩:=Oc b ⟨m,f⟩ ⟨k,l⟩ B;have sa:=J9 ⟨m,f⟩ ⟨k,l⟩ B;have d:=GL ⟨m,f⟩ ⟨k,l⟩;dsimp only at pu pf sa d;have g:Ents (cS (m |||2 ^ k)) (c.take (nM (cS m) k)++((k:Int),Value.int (k:Int) t)::c.drop (nM (cS m) k)):=by
    rw[sa];exact(r.take _).app (.cons ⟨zZ,t,zZ⟩ (r.drop _))
   have pS:layNew (gT b (cS m)) c.toArray (k:Int) (.int (k:Int) t)=((c.take (nM (cS m) k)++((k:Int),Value.int (k:Int) t)::c.drop (nM (cS m) k)).toArray,mT b m k,false,false):=by
    unfold layNew;rw[Nt b ⟨m,f⟩ ⟨k,l⟩ B];dsimp only;rw[pu];dsimp only;rw[Od];have sz:(c.take (nM (cS m) k)++((k:Int),Value.int (k:Int) t)::c.drop (nM (cS m) k)).toArray.size=(cS m).length+1:=by
     rw[eM,dF,nt,fi,oD,I];lia
    rw[sz];unfold SetTable.orStandIn;rw[pf];rfl
   generalize c.take (nM (cS m) k)++((k:Int),Value.int (k:Int) t)::c.drop (nM (cS m) k)=fs at g pS;have lf:=g.len;have f5:fs.length<=5:=by rw[lf];exact xZ ⟨_,d⟩
   dsimp only;rw[pS];dsimp only;refine cB (show wpAny _ _ (pure Unit.unit) _ _ _ from cH ?_);refine cB (show wpAny _ _ (pure true) _ _ _ from cH ?_);refine cB (wpAny_storeSet_of e zZ ?_ (by rw[eM,dz];lia));have O:=Jd (h:=s.heap) (fs:=fs) (u:=mT b m k) e;have i:Heap.SameBut a s.heap (s.heap.update a (Obj.putSet fs.toArray (mT b m k))):=Heap.SameBut.update ..;by_cases h4:(cS m).length=4
   .obtain⟨D,rl,T,ff⟩:=Jm b ⟨m,f⟩ ⟨k,l⟩ B h4;dsimp only at D rl T ff;have U:fs.length=5:=by rw[lf,T];rfl
    have ks:fs.toArray.map (·.1)= #[0,1,2,3,4]:=by
     rw[List.map_toArray,g.keys,T];rfl
    have pick:(#[0,1,2,3,4]:Array Nat).filterMap (fs.toArray[·]?)=fs.toArray:=xt U;have Y:relayAll (mT b m k) fs.toArray (SetTable.grown fs.toArray.size)=(fs.toArray,gT b (cS (m |||2 ^ k)),false):=by
     unfold relayAll;rw[ks,eM,U,rl];dsimp only;rw[pick,eM,U,ff,Bool.and_true,wB (by decide+kernel)]
    show wpAny _ _ (if(!false&&(mT b m k).tooFull)=true then _ else _) _ _ _;rw[D,wB (by decide)];simp only[if_true];rw[Y];dsimp only;refine cB (show wpAny _ _ (pure Unit.unit) _ _ _ from cH ?_);refine cB (wpAny_storeSet_of O zZ ?_ (by rw[eM,dz];lia));have N:=Jd (fs:=fs) (u:=gT b (cS (m |||2 ^ k))) O;have v:=Heap.SameBut.trans i (Heap.SameBut.update (s.heap.update a (Obj.putSet fs.toArray (mT b m k))) a (Obj.putSet fs.toArray (gT b (cS (m |||2 ^ k)))));exact cH (cH (q _ ⟨d,fs,H+1+1,N,g⟩ v))
   .obtain⟨te,D⟩:=Jx b ⟨m,f⟩ ⟨k,l⟩ B h4;dsimp only at te D;show wpAny _ _ (if(!false&&(mT b m k).tooFull)=true then _ else _) _ _ _
    rw[D,wA (by decide)];refine cH (cH (q _ ⟨d,fs,H+1,?_,g⟩ i));rw[<-te];exact O
end
def nZ(m:Nat)(a:cz):Nat:=a.foldl (λm n=>m |||2 ^ n) m
section
variable{P:Pg}{w:World}{A:Ar}{E:VP}{S d l:Ad}{led:Bool}{a:cz}{vs:Vs}
theorem HN{R:Result->Sh->Prop}(N:A.handled=none)(j:S≠d)(O:S≠l)(Q:d≠l)(v:Vals (a.map nv) vs)(T: ∀n∈a,n<5):
  ∀(rest:cz) (i m:Nat) (s:Sh),a.drop i=rest->s.heap.IsListIter d l i->s.heap.IsList l vs.toArray->IsSet5 s.heap S led m->
   (∀c y,IsSet5 c S led (nZ m rest)->(∀b o,b≠S->b≠d->s.heap.get? b=some o->c.get? b=some o)->R (.ok (.ret .none)) {s with heap:=c,toks:=y})->
   codeAny (model P w) A (.builtin "set.update.loop" ⟨[.ref S,.ref d],[]⟩) R s
 | [],i,m,s,p,z,r,B,q=>by
  have U:vs.length<=i:=by
   have Y:vs.length=a.length:=by simpa using v.length.symm
   have C:=List.drop_eq_nil_iff.mp p;lia
  refine tm F.entry_set_update_loop ?_;rw[vt CY _];show wpAny _ A.in1 (pyNext (.ref d) >>= _) _ _ s;refine cB (EO (by simpa using N) z r (by simp;lia) λc keep=>?_);refine cH (q c s.toks ?_ λb o _ C e=>keep b o C e);obtain⟨D,G,H,e,I⟩:=B;exact⟨D,G,H,keep _ _ j e,I⟩
 | n::rest,i,m,s,p,z,r,B,q=>by
  have h:a[i]? =some n:=by rw[<-List.head?_drop,p];rfl
  have next:a.drop (i+1)=rest:=by rw[<-List.tail_drop,p];rfl
  have n5:=T n (cY h);obtain⟨u,hu,t,rfl⟩:=v.get (i:=i) (x:=nv n) (by rw[cV,h];rfl);refine tm F.entry_set_update_loop ?_;rw[vt CY _];show wpAny _ A.in1 (pyNext (.ref d) >>= _) _ _ s;refine cB (Ba z r (x:= .int (n:Int) t) (by simpa using hu) λY rh f=>?_);show wpAny _ A.in1 (holding [Value.int (n:Int) t] (setAdd S (.int (n:Int) t)) >>= _) _ _ _;refine cB (hG ?_);unfold setAdd;refine hG (cB ((intKind P w).pyHash (k:=(n:Int)) (yq _ _ _ _) ?_));rw[show(intKind P w).hash (n:Int)=(n:Int)from Ds ⟨n,n5⟩];have J:IsSet5 Y S led m:=by
   obtain⟨D,G,H,e,I⟩:=B;exact⟨D,G,H,f.extBut _ _ j e,I⟩
  refine M6 n5 J λC L g=>?_;refine cH ⟨vb CY _,HN N j O Q v T rest (i+1) (m |||2 ^ n) _ next (rh.extBut g.extBut j.symm) ((r.extBut f.extBut Q.symm).extBut g.extBut O.symm) L λc y M keep=>?_⟩;exact q c y M λb o b1 b2 e=>keep b o b1 b2 (g.extBut _ _ b1 (f.extBut _ _ b2 e))
def J7{s:Sh}{x:Vl}{Q:VP}(q:Q (.ref s.heap.objs.size) {s with heap:=s.heap.push (nS [] 0 (gT (!w.params.followText "set-order") []))}):
  codeAny (model P w) A (.call (.builtin "set.__new__") ⟨[.type "set",x],[]⟩) (wants Q E) s:=by
 refine codeAny_of_tree ?_;show wpAny _ A.in1 (checkBuiltinCall "set.__new__" ⟨[.type "set",x],[]⟩ >>= λ_=>again (.builtin "set.__new__" ⟨[.type "set",x],[]⟩)) _ _ s;refine cB (Ai (F.newCall_set_1 x) (cH ⟨vb F.plain_set_new _,tm F.entry_set_new ?_⟩));rw[vt F.plain_set_new _];have sub:=sub_set_self;unfold Builtin.«set.__new__» Builtin.Frozenset.newClass
 wp_walk
 refine xE (cH ?_);dsimp only;simp only[newObj];refine cB (Bt (cH (cH ?_)));exact q
abbrev yR(led:Bool):Obj:={cls:= .type "set",dict:=none,data:= .set #[] 0 (.fresh 0 0 led)}
set_option maxHeartbeats 4000000 in
def Pf{h:Heap}{j:Array GenState}{m:Drawn}{k:Nat}{os:OsState}{R:PySem.Fin->Sh->Prop}(x:A.handled=none)(p:h.IsList l vs.toArray)(y:Vals (a.map nv) vs)(z: ∀n∈a,n<5)
  (q: ∀c i,IsSet5 c h.objs.size led (nZ 0 a)->(∀b o,h.get? b=some o->c.get? b=some o)->R (.done (.ret .none)) ⟨c,j,m,i,os⟩):
  wpAny (model P w) A (Builtin.«set.__init__» ⟨[.ref h.objs.size,.ref l],[]⟩) R E ⟨h.push (yR led),j,m,k,os⟩:=by
 obtain⟨⟨I,dl,B,sl⟩,r,s,C,t⟩:=id p;simp only at s t;subst s t;have J:(h.push (yR led)).get? l=some ⟨.type "list",dl,.seq vs.toArray C,sl⟩:=dM _ r;have D:(h.push (yR led)).get? h.objs.size=some {cls:= .type "set",dict:=none,data:= .set #[] 0 (.fresh 0 0 led)}:=fj _ rfl;have L:=F.sub_list_set;have M:=F.sub_list_frozenset;have N:(Value.type "list"==Value.type "dict")=false:=by decide
 unfold Builtin.«set.__init__» noKeywords Builtin.Frozenset.updateFrom;generalize g:pyIter=u
 wp_walk
 subst g;have f:(h.push (yR led)).IsList l vs.toArray:=p.push _;refine wW f (cB (wpAny_runValue ?_));have lt:l<h.objs.size:=dq r;have sz:(h.push (yR led)).objs.size=h.objs.size+1:=rf ..;refine HN (vs:=vs) (led:=led) (by simpa using x) (by rw[sz];exact Nat.ne_of_lt (Nat.lt_succ_self _)) (Nat.ne_of_gt lt) (by rw[sz];exact Nat.ne_of_gt (Nat.lt_succ_of_lt lt)) y z a 0 0 _ zZ ⟨_,Heap.get?_push_size _ zZ,zZ,zZ⟩ (f.push _) ⟨by decide,[],0,Heap.get?_push_of_some _ D,.nil⟩ λc i G H=>?_;refine cH (cH (q c i G λb o e=>?_));have v:=dq e;exact H b o (d9 v) (by rw[sz];exact d9 (qc v)) (dM _ (dM _ e))
def N0{s:Sh}{Q:VP}(C:A.handled=none)(x:s.heap.IsList l vs.toArray)(D:Vals (a.map nv) vs)(G: ∀n∈a,n<5)
  (q: ∀g h,IsSet5 g s.heap.objs.size (!w.params.followText "set-order") (nZ 0 a)->(∀b o,s.heap.get? b=some o->g.get? b=some o)->Q (.ref s.heap.objs.size) {s with heap:=g,toks:=h}):
  wpAny (model P w) A (call (.type "set") [.ref l]) Q E s:=by
 have lt:l<s.heap.objs.size:=let⟨_,e,_⟩:=x;dq e
 obtain⟨c,tl,H⟩:=rq.mro;have made:=rq.made;have sub:=rq.sub;have i:=rq.notType;have I:=rq.canCreate;have args:=F.typeCall_set_1 (.ref l);have look:=rq.init.lookup;have J:=rq.init.bind (.ref s.heap.objs.size);generalize j:nS [] 0 (gT (!w.params.followText "set-order") [])=k;have L:(s.heap.push k).get? s.heap.objs.size=some k:=fj _ (by rw[<-j];rfl);have ty:Shared.TypeIs {s with heap:=s.heap.push k} (.ref s.heap.objs.size) "set":=⟨_,L,by rw[<-j];rfl⟩;refine wQ (codeAny_of_tree (show wpAny _ _ (callAny (.type "set") _) _ _ _ from cH ⟨Code.quiet_builtin _ (by decide+kernel),tm F.entry_type_call ?_⟩));rw[Around.under_plain (weight_type_call_type "set" [.ref l] []) zZ]
 repeat (any_goals (first|assumption|wp_step))
 refine oP (J7 (w:=w) (E:=E) (Q:=λv y=>v= .ref s.heap.objs.size/\y={s with heap:=s.heap.push k}) (by rw[j];exact⟨zZ,zZ⟩)) λr y z=>?_;cases r with
 |error _=>exact z
 | ok f=>
  cases f<;>first|exact z.elim|skip
  obtain⟨m,p⟩:=z;subst m p
  repeat (any_goals (first|assumption|wp_step))
  refine oP (codeAny_call_builtin (R:=wants (λv B=>v= .none/\ ∃g h,B={s with heap:=g,toks:=h}/\IsSet5 g s.heap.objs.size (!w.params.followText "set-order") (nZ 0 a)/\ ∀b o,s.heap.get? b=some o->g.get? b=some o) E)
   rq.init.plain F.entry_set_init (check_set_init_1 ty ?_)) λr B z=>?_
  .subst j;exact Pf (A:=A.in1.in1) (by simpa using C) x D G λg h t u=>⟨zZ,g,h,zZ,t,u⟩
  .cases r with
   |error _=>exact z
   |ok f=>
    cases f<;>first|exact z.elim|skip
    obtain⟨m,g,h,p,t,u⟩:=z;subst m p
    repeat (any_goals (first|assumption|wp_step))
    exact q g h t u
end
def fJ:Slot "set_iterator" "__next__" "set_iterator.__next__":=Slot.of (owner:="set_iterator") (n:="__next__") (by rw[typeLookup_type,builtinLookup_eq_fast];kernel_rfl) (by decide+kernel) (by decide+kernel) (by decide+kernel) (by first|exact .inl (by decide+kernel)|exact .inr (by decide+kernel)) (by rw[isSubtype_type];kernel_rfl)
def HI:Slot "set_iterator" "__iter__" "set_iterator.__iter__":=Slot.of (owner:="set_iterator") (n:="__iter__") (by rw[typeLookup_type,builtinLookup_eq_fast];kernel_rfl) (by decide+kernel) (by decide+kernel) (by decide+kernel) (by first|exact .inl (by decide+kernel)|exact .inr (by decide+kernel)) (by rw[isSubtype_type];kernel_rfl)
def Fi:entryFor table "set_iterator.__next__"=some Builtin.«set_iterator.__next__»:=entryFor_of_tree (by kernel_rfl)
def Oa:entryFor table "set_iterator.__iter__"=some Builtin.«dict_keyiterator.__iter__»:=entryFor_alias (id':="dict_keyiterator.__iter__") (by kernel_rfl) (by first|rfl|decide+kernel|(unfold String.splitOn;simp+decide [String.splitOnAux])) (by decide+kernel) (by kernel_rfl)
def JC:entryFor table "set.__iter__"=some Builtin.«frozenset.__iter__»:=entryFor_alias (id':="frozenset.__iter__") (by kernel_rfl) (by first|rfl|decide+kernel|(unfold String.splitOn;simp+decide [String.splitOnAux])) (by decide+kernel) (by kernel_rfl)
def Fa(a:Vl):argsOk "set_iterator.__next__" ⟨[a],[]⟩:=by unfold argsOk;kernel_rfl
def Ml(a:Vl):argsOk "set_iterator.__iter__" ⟨[a],[]⟩:=by unfold argsOk;kernel_rfl
theorem Gv{c:Type}(f:Nat->Nat): ∀(fuel k:Nat) (left:List c) (b:Array c),left.length=fuel->(pickOrder.go f fuel k left b).toList.Perm (b.toList++left)
 |0,k,left,b,h=>by
  rw[List.eq_nil_of_length_eq_zero h];simp[pickOrder.go]
 | fuel+1,k,left,b,h=>by
  have lt:f k%left.length<left.length:=Nat.mod_lt _ ();unfold pickOrder.go;rw[cE lt];dsimp only;refine(Gv f fuel (k+1) (left.eraseIdx (f k%left.length)) (b.push left[f k%left.length]) (by rw[List.length_eraseIdx_of_lt lt];lia)).trans ?_;rw[wu,fO];refine xj _ ?_;rw[List.eraseIdx_eq_take_drop_succ];have e:left=left.take (f k%left.length)++left[f k%left.length]::left.drop (f k%left.length+1):=by
   rw[<-yx lt,on]
  have z:=(List.perm_middle (a:=left[f k%left.length]) (l₁:=left.take (f k%left.length)) (l₂:=left.drop (f k%left.length+1))).symm;rw[<-e]at z;exact z
def nA(w:World)(a:Ad)(c:Nat)(b:List (Int×Vl)):List (Int×Vl):=if w.params.followText "set-order" then(pickOrder (w.params.setOrder a c) b.toArray).toList else b
def Cb(w:World)(a:Ad)(c:Nat)(b:List (Int×Vl)):(nA w a c b).Perm b:=by
 unfold nA;cases w.params.followText "set-order" with
 |true=>
  have z:=Gv (w.params.setOrder a c) b.toArray.size 0 b.toArray.toList #[] (by simp);simpa[pickOrder]using z
 |false=>exact List.Perm.refl _
def nr(a:Bool)(b:cz):Nat->Nat
 |0=>0
 |i+1=>if a then 0 else b.getD i 0+1
def NB: ∀(m:Fin 32) (i:Fin 6),(i:Nat)<=(cS m).length->SetTable.below (cS m).toArray (nr false (cS m) i)=i:=by decide+kernel
def u7(b i n c:Nat)(a:Ad):Obj:={cls:= .type "set_iterator",data:= .fields #[rawInt b,rawInt i,.ref a,rawInt n,rawInt c]}
section
variable{P:Pg}{w:World}{A:Ar}{E:VP}{s:Sh}{a d:Ad}{m c i:Nat}{b:List (Int×Vl)}
def Ja{Q:Option (Vl×Nat)->Sh->Prop}(h:m<32)(k:s.heap.get? a=some (nS b c (gT (!w.params.followText "set-order") (cS m))))(l:Ents (cS m) b)(n:i<=(cS m).length)
  (q:Q (((nA w a c b)[i]?).map λe=>(e.2,nr (w.params.followText "set-order") (cS m) (i+1))) s):wpAny (model P w) A (setNext a (nr (w.params.followText "set-order") (cS m) i) i c) Q E s:=by
 have o:=l.len;have f:(gT (!w.params.followText "set-order") (cS m)).fits b.toArray.size=true:=by rw[eM,o];exact yr _ ⟨m,h⟩
 have t:(cS m).length<=5:=xZ ⟨m,h⟩;unfold setNext setsByText;refine cB (tz k zZ f ?_);refine cB (cB (xE (cH ?_)));show wpAny _ _ (if w.params.followText "set-order"=true then _ else _) _ _ _;unfold nA at q;generalize p:w.params.followText "set-order"=r at q k f⊢;cases r with
 |true=>
  rw[wB zZ];rw[wB zZ]at q;rw[wA (by simp)];unfold setWalk setsByText;refine cB (cB (tz k zZ f (cB (cB (xE (cH ?_))))));show wpAny _ _ (if w.params.followText "set-order"=true then _ else _) _ _ _;rw[p,wB zZ];refine cB (xE (cH (cH ?_)));rw[lK]at q;cases i<;>exact q
 | false=>
  rw[wA (by decide)];rw[wA (by decide)]at q;rw[wA (by show ¬((!true&&_)=true);simp)];refine cB ?_;show wpAny _ _ (if(!true&& !b.toArray.isEmpty)=true then _ else _) _ _ _;rw[wA (by simp)];refine cH (cH ?_);show Q (match b.toArray[SetTable.below (cS m).toArray (nr false (cS m) i)]?,(cS m).toArray[SetTable.below (cS m).toArray (nr false (cS m) i)]? with|some (_,x),some j=>some (x,j+1)|_,_=>none) s;rw[NB ⟨m,h⟩ ⟨i,()⟩ n]
  rcases Nat.lt_or_ge i (cS m).length with z|z
  .have g:i<b.length:=by lia
   rw[cE g]at q;simp only[List.getElem?_toArray,List.getElem?_eq_getElem g,List.getElem?_eq_getElem z];have e:nr false (cS m) (i+1)=(cS m)[i]+1:=by
    show(if false=true then 0 else(cS m).getD i 0+1)=_;rw[wA (by decide),eC,cE z];rfl
   rw[e]at q;exact q
  .have g:b.length<=i:=by lia
   rw[j4 g]at q;simp only[List.getElem?_toArray,List.getElem?_eq_none g];exact q
end
section
variable{P:Pg}{w:World}{A:Ar}{E:VP}{a d:Ad}{m f:Nat}{c:List (Int×Vl)}
def Kl{s:Sh}{i:Nat}{e:Int×Vl}{Q:Option Vl->Sh->Prop}(r:a≠d)(l:m<32)(n:Ents (cS m) c)(b:s.heap.get? d=some (u7 (nr (w.params.followText "set-order") (cS m) i) i (cS m).length f a))(o:s.heap.get? a=some (nS c f (gT (!w.params.followText "set-order") (cS m))))
  (t:i<(cS m).length) (u:(nA w a f c)[i]? =some e)
  (q: ∀g,g.get? d=some (u7 (nr (w.params.followText "set-order") (cS m) (i+1)) (i+1) (cS m).length f a)->Heap.SameBut d s.heap g->Q (some e.2) {s with heap:=g}):wpAny (model P w) A (pyNext (.ref d)) Q E s:=by
 have ty:s.TypeIs (.ref d) "set_iterator":=⟨_,b,zZ⟩;have p:=n.len;have h:(gT (!w.params.followText "set-order") (cS m)).fits c.toArray.size=true:=by rw[eM,p];exact yr _ ⟨m,l⟩
 unfold pyNext;refine cB (qw (oT (name:=Str.ofString "__next__") ty fJ (kv fJ ty Fi ?_ (Fa _))));unfold u7 at b;unfold Builtin.«set_iterator.__next__»;refine cB (m:=slotArgs _ _ _) (cH ?_);refine cB (v0 b zZ ?_);show wpAny _ _ (setEntries a >>= _) _ _ _;unfold setEntries;refine cB (cB (tz o zZ h (cH ?_)));have v:((((c.toArray.size:Nat):Int) != (((cS m).length:Nat):Int)))=false:=by rw[eM,p];simp
 show wpAny _ _ (if((((c.toArray.size:Nat):Int) != (((cS m).length:Nat):Int)))=true then _ else _) _ _ _;rw[v,wA (by decide)];show wpAny _ _ (setNext a ((nr (w.params.followText "set-order") (cS m) i:Nat):Int).toNat ((i:Nat):Int).toNat ((f:Nat):Int).toNat >>= _) _ _ _;simp only[Int.toNat_natCast];refine cB (Ja l o n (fQ t) ?_);rw[u];show wpAny _ _ (setField (.ref d) 0 (rawInt _) >>= _) _ _ _;refine cB (oH b (by simp) λB x j=>?_);refine cB (oH x (by simp) λy z k=>?_);exact cH ⟨_,zZ,cH (q y z (j.trans k))⟩
def LU{s:Sh}{Q:Option Vl->Sh->Prop}(r:A.handled=none)(t:a≠d)(j:m<32)(k:Ents (cS m) c)(g:s.heap.get? d=some (u7 (nr (w.params.followText "set-order") (cS m) (cS m).length) (cS m).length (cS m).length f a))(l:s.heap.get? a=some (nS c f (gT (!w.params.followText "set-order") (cS m))))
  (q: ∀n,Heap.ExtBut d s.heap n->Q none {s with heap:=n}):wpAny (model P w) A (pyNext (.ref d)) Q E s:=by
 have ty:s.TypeIs (.ref d) "set_iterator":=⟨_,g,zZ⟩;have p:=k.len;have h:(gT (!w.params.followText "set-order") (cS m)).fits c.toArray.size=true:=by rw[eM,p];exact yr _ ⟨m,j⟩
 have u:(nA w a f c)[(cS m).length]? =none:=j4 (by rw[(Cb w a f c).length_eq];lia);unfold pyNext;refine cB (qw (oT (name:=Str.ofString "__next__") ty fJ (kv fJ ty Fi ?_ (Fa _))));unfold u7 at g;unfold Builtin.«set_iterator.__next__»;refine cB (m:=slotArgs _ _ _) (cH ?_);refine cB (v0 g zZ ?_);show wpAny _ _ (setEntries a >>= _) _ _ _;unfold setEntries;refine cB (cB (tz l zZ h (cH ?_)));have v:((((c.toArray.size:Nat):Int) != (((cS m).length:Nat):Int)))=false:=by rw[eM,p];simp
 show wpAny _ _ (if((((c.toArray.size:Nat):Int) != (((cS m).length:Nat):Int)))=true then _ else _) _ _ _;rw[v,wA (by decide)];show wpAny _ _ (setNext a ((nr (w.params.followText "set-order") (cS m) (cS m).length:Nat):Int).toNat (((cS m).length:Nat):Int).toNat ((f:Nat):Int).toNat >>= _) _ _ _;simp only[Int.toNat_natCast];refine cB (Ja j l k (cO _) ?_);rw[u];show wpAny _ _ (setField (.ref d) 2 .none >>= _) _ _ _;refine cB (oH g (by simp) λy z i=>?_);refine cB (m:=newExc _ _) ?_;simp only[newExc,newTuple];refine cB (md ?_ (by size_fits));refine cB (m:=firstArgMember _ _) (Ai (a:=Value.none) (by first|rfl|(unfold firstArgMember;rfl)) (wpAny_newObj_type ?_ (by size_fits)));refine Ev (by simpa using r) (wpAny_bind (wpAny_isInstance (T:="StopIteration") (b:=true) ⟨_,Heap.get?_push_size _ zZ,zZ⟩ isSubtype_stop (wpAny_pure ?_)));exact q _ λb o x e=>dM _ (dM _ (i.extBut b o x e))
def Jq(u:A.handled=none)(g:a≠d)(p:m<32)(l:Ents (cS m) c):Walks P w A d [d,a] [d] (cS m).length (λi v=> ∃e,(nA w a f c)[i]? =some e/\v=e.2)
  (λi h=>h.get? d=some (u7 (nr (w.params.followText "set-order") (cS m) i) i (cS m).length f a)/\h.get? a=some (nS c f (gT (!w.params.followText "set-order") (cS m)))) where
 sub:=λb y=>dZ.mpr (.inl (dw.mp y))
 frame:=λi h j st k=>⟨k d (dY ..) _ st.1,k a (fR _ (dw.mpr zZ)) _ st.2⟩
 item:=λi s Q E B st q=>by
  have D:(nA w a f c).length=(cS m).length:=by rw[(Cb w a f c).length_eq,l.len]
  obtain⟨e,r⟩: ∃e,(nA w a f c)[i]? =some e:=⟨_,cE ()⟩;refine Kl g p l st.1 st.2 B r λj C t=>q e.2 j s.toks ⟨e,r,zZ⟩ ⟨C,t.extBut _ _ g st.2⟩ λb o n e=>t.extBut _ _ (λz=>n (dw.mpr z)) e
 done:=λs Q E st q=>LU u g p l st.1 st.2 λj x=>q j s.toks λb o n e=>x b o (λz=>n (dw.mpr z)) e
 self:=λi s Q E st q=>by
  have ty:s.TypeIs (.ref d) "set_iterator":=⟨_,st.1,zZ⟩;refine wx ty HI (kv HI ty Oa ?_ (Ml _));exact show wpAny _ _ (ret (.ref d)) _ _ s from cH ⟨_,zZ,"set_iterator",_,ty,fJ.lookup,q⟩
def xJ{s:Sh}{Q:VP}(h:m<32)(i:Ents (cS m) c)(e:s.heap.get? a=some (nS c f (gT (!w.params.followText "set-order") (cS m))))
  (q:Q (.ref s.heap.objs.size) {s with heap:=s.heap.push (u7 0 0 (cS m).length f a)}):wpAny (model P w) A (pyIter (.ref a)) Q E s:=by
 have ty:s.TypeIs (.ref a) "set":=⟨_,e,zZ⟩;have g:=i.len;have b:(gT (!w.params.followText "set-order") (cS m)).fits c.toArray.size=true:=by rw[eM,g];exact yr _ ⟨m,h⟩
 refine wx ty F.slot_set_iter (kv F.slot_set_iter ty JC ?_ (F.args_set_iter_1 _));unfold Builtin.«frozenset.__iter__»;refine cB (m:=Builtin.Frozenset.slot0 _ _) (cH ?_);unfold Builtin.Frozenset.sizeOf setEntries;refine cB (cB (cB (tz e zZ b (cH (cH ?_)))));unfold setDrawn setsByText;refine cB (cB (tz e zZ b (cB (cB (xE (cH (cH ?_)))))));have nd:(!w.params.followText "set-order"&&(!true&&decide (c.toArray.size>1)))=false:=by simp
 show wpAny _ _ (if(!w.params.followText "set-order"&&(!true&&decide (c.toArray.size>1)))=true then _ else _) _ _ _;rw[nd,wA (by decide)];refine cB (cH (cB (wpAny_setEpoch_of e zZ b ?_)));refine cB (m:=newFields _ _) ?_;unfold newFields;refine md ?_ (by size_fits);rw[<-g]at q;exact cH ⟨_,zZ,"set_iterator",_,⟨_,fj _ zZ,zZ⟩,fJ.lookup,q⟩
def xi{s:Sh}{Q:Bool->Sh->Prop}(ty:s.TypeIs (.ref a) "set")(q:Q false s):wpAny (model P w) A (Builtin.List.listLengthHint (.ref a)) Q E s:=by
 unfold Builtin.List.listLengthHint;refine cB (E1 ty F.slot_set_len.lookup ?_);generalize g:("set.__len__":String)=name
 wp_delta
 rw[show splitId name=some ("set","__len__") by subst g;decide+kernel];subst g;refine cB (wpAny_isInstance (T:="set") (b:=true) ty (by rw[isSubtype_type];kernel_rfl) (Dl (λz=>wC z (by decide)) λ_=>?_));exact Dl (λ_=>cB (vU ty (cH q))) λz=>wC (by decide+kernel) z
def Db(b:m<32)(g:Ents (cS m) c):PySem.W.KdlSrc P w "set" a a (cS m).length (λi v=> ∃e,(nA w a f c)[i]? =some e/\v=e.2) (λh=>h.get? a=some (nS c f (gT (!w.params.followText "set-order") (cS m)))) where
 type:=λ_ e=>⟨_,e,zZ⟩
 there:=λ_ e=>⟨dq e,dq e⟩
 keep:=λ_ _ e k=>k a (.inl zZ) _ e
 notList:=by decide
 notTuple:=by decide
 hint:=λ_ _ _ _ e q=>xi ⟨_,e,zZ⟩ q
 iter:=λ_ _ j e=>⟨_,_,λ_ _ q=>xJ b g e q,Jq j (d9 (dq e)) b g,fj _ zZ,dM _ e⟩
end
def fV(a:cz):cz:=(List.range 5).filter λi=>a.contains i
theorem Gh(i:Nat): ∀(ns:cz) (m:Nat),(nZ m ns).testBit i=(m.testBit i || ns.contains i)
 | [],m=>by simp[nZ]
 |n::ns,m=>by
  show(nZ (m |||2 ^ n) ns).testBit i=_;rw[Gh i ns,Nat.testBit_or,Nat.testBit_two_pow,List.contains_cons,Bool.or_assoc]
  congr 2
  by_cases h:n=i
  .simp[h]
  .simp[h,Ne.symm h]
def C0(a:cz):cS (nZ 0 a)=fV a:=by
 unfold cS fV
 congr 1
 funext i
 rw[Gh];simp
def Of(m:Nat):(cS m).Pairwise (· <= ·):=by
 unfold cS;exact List.Pairwise.filter _ (by decide)
theorem HF: ∀{a:Vs} {is:Zs},IntsAre a is->Vals (is.map V.int) a
 |_,_,.nil=> .nil
 |_,_,.cons n t h=> .cons ⟨t,zZ⟩ (HF h)
theorem FW: ∀{a:List (Int×Vl)},(∀e∈a,∃t,e.2= .int e.1 t)->IntsAre (a.map (·.2)) (a.map (·.1))
 | [],_=> .nil
 |e::a,h=>by
  obtain⟨t,b⟩:=h e (dY ..);rw[iG,iG,b];exact .cons _ _ (FW λx c=>h x (fR _ c))
section
variable{P:Pg}{w:World}{A:Ar}{E:VP}{a:Ad}{m:Nat}
def NN{s:Sh}{Q:VP}(M:A.handled=none)(N:IsSet5 s.heap a (!w.params.followText "set-order") m)
  (q: ∀(j r:Heap) u d n,Vals ((cS m).map nv) d->(∀b o,s.heap.get? b=some o->j.get? b=some o)->(∀b o,j.get? b=some o->r.get? b=some o)->r.get? j.objs.size=some {cls:= .type "list",data:= .seq d.toArray n}->Q (.ref j.objs.size) {s with heap:=r,toks:=u}):
  wpAny (model P w) A (call (.builtin "sorted") [.ref a]) Q E s:=by
 obtain⟨I,v,B,O,p⟩:=N;have m5:(cS m).length<=5:=xZ ⟨m,I⟩;have J:=p.len;have c:=Cb w a B v;refine D3 kind_sorted plain_sorted entry_sorted (args_sorted1 _) ?_;unfold Builtin.«sorted»;refine cB (m:=checkCount "sorted" 1 1 _) (cH ?_);refine cB (PySem.W.kdu_collect (A:=A.in1) (Db I p) (by simpa using M) O (by rw[sizeLine_eq];lia) λj u f keep l=>?_);have g:f.toList=(nA w a B v).map (·.2):=by
  refine y4 (by rw[eO,l.1,cC,c.length_eq];exact J.symm) λi x y T L=>?_;obtain⟨e,C,D⟩:=l.2 i x (by rw[<-lK];exact T);rw[cV,C]at L;cases L;exact D
 have G:IntsAre f.toList ((nA w a B v).map (·.1)):=by
  rw[g];refine FW λe U=>?_;obtain⟨n,_,C,t,D⟩:=p.mem (c.mem_iff.mp U);exact⟨t,by rw[C,D]⟩
 have Y:f.toList.length=(cS m).length:=by rw[g,cC,c.length_eq,J]
 refine cB (y7 ?_ (by rw[Y,dz];lia));have H:(j.push (seqObj "list" f.toList.toArray 0)).get? j.objs.size=some (seqObj "list" f.toList.toArray 0):=fj _ rfl;refine cB (hG (kv slot_list_sort ⟨_,H,zZ⟩ C9 (list_sort_tree H G () λd js o1 o2 o3=>⟨_,zZ,?_⟩) (args_list_sort _)));have k:js=(cS m).map λ(n:Nat)=>(n:Int):=by
  refine List.Perm.eq_of_pairwise (le:=(· <= ·)) (λx y _ _=>Int.le_antisymm) o3 ?_ (o2.trans ?_)
  .exact wG.mpr ((Of m).imp λh=>by lia)
  .rw[<-p.keys];exact c.map _
 obtain⟨n,eN⟩:=sortedHeap_at (out:=d) H;refine cH ⟨_,zZ,q j _ u d.toList n ?_ keep (λb o e=>?_) (by simpa using eN)⟩
 .have z:=HF o1;rw[k,i4]at z;exact z
 .have lt:=dq e;rw[sortedHeap_old (d9 lt) (gh lt (by rw[rf];exact oK _))];exact dM _ e
end
section
variable{X:Cx}
def sn(w:World)(a:Ad)(m:Nat):HO:= .ext λh=>IsSet5 h a (!w.params.followText "set-order") m
def IsSet5.ok{w:World}{h:Heap}{a:Ad}{m:Nat}{P:Pg}{d:World}{H:Hp}(x:IsSet5 h a (!w.params.followText "set-order") m):ObjOk P d H h a (sn w a m):=by
 obtain⟨j,l,n,e,o⟩:=id x;exact⟨x,⟨_,e⟩,λp q ⟨f,b,c,g,i⟩ k=>⟨f,b,c,k _ g,i⟩⟩
def Inv.track{d:AO}{f:St}{H:Hp}{s:Sh}{D:Ad}{o:HO}(I:Inv X d f H s)(g:H D=none)(ok:ObjOk X.prog X.w (cA H D o) s.heap D o)
  (h:X.s₀.heap.objs.size<=D) (i:D≠X.env.locals) (j: ∀x c,X.env.cells.lookup x=some c->c≠D) (k: ∀p∈X.pn++d,p.1≠D):Inv X d f (cA H D o) s:=by
 have nd: ∀b u,H b=some u->b≠D:=λb u q z=>by rw[z,g]at q;cases q
 have q:=I.step (h':=s.heap) (H':=cA H D o) (g':=s.gens) (t':=s.toks) (d':=s.drawn) (ch:=[D]) (λb a=>by
   have z:b=D:=by simpa using a
   subst z;exact⟨.inr h,i,j,k⟩)
  (λb o _ _ _ e _=>e) (λb o _ _ _ e _=>⟨o.slots,e⟩) (λb o a _ n=>by rw[cK (λz=>a (by simp[z]))];exact n) (λb o _ e=>⟨o,e⟩)
  (λb l q=>by rw[cK (nd b _ q)];exact q) (λb o u q=>by rw[cK (nd b _ q)];exact q) (λb t q=>⟨#[],by rw[cK (nd b _ q),q];simp⟩) (λm r=>r) (λb u q=>?_) I.bare
 .exact q
 .by_cases a:b=D
  .subst a;rw[cF]at q;cases q;exact ok
  .rw[cK a]at q;exact(I.hok b u q).stay (λ_ _ _ z=>z) (λc z=>by rw[cK (nd c _ z)];exact z) λc l z=>by rw[cK (nd c _ z)];exact z
def Inv.trackNew{a:AO}{c:St}{H:Hp}{s s1:Sh}{o:HO}(I:Inv X a c H s)(d:Inv X a c H s1)(ok:ObjOk X.prog X.w (cA H s.heap.objs.size o) s1.heap s.heap.objs.size o):Inv X a c (cA H s.heap.objs.size o) s1:=by
 obtain⟨e,f,i,j,g,h⟩:=I.fpOk (b:=s.heap.objs.size) (H':=H) (cO _) (I.hok.fresh (cO _));exact d.track e ok I.sz f g h
inductive qt(K:Q5)(w:World)(c:List V)(H:Hp)(Q:VK):Prop|mk:∀p b,c=[.ref p]->SqL K H p (b.map nv)->(∀n∈b,n<5)->(∀a,H a=none->Q (.ref a) (cA H a (sn w a (nZ 0 b))))->qt K w c H Q
def FK(a:X.calm=true):kg X (.type "set") (qt X.K X.w):=by
 intro b s c H n o Q I r h;obtain⟨p,t,rfl,d,e,q⟩:=h;obtain⟨u,rfl,f⟩:=j3 r;cases f;obtain⟨g,i,j,_⟩:=I.list d;refine N0 (I.ok.hd a) j.isList i e λk l z keep=>?_;have m:Inv X b c H {s with heap:=k,toks:=l}:=I.kept keep;exact⟨.ref s.heap.objs.size,_,Inv.trackNew I m z.ok,zZ,q _ I.fresh⟩
inductive nR(w:World)(b:List V)(H:Hp)(Q:VK):Prop|mk:∀a m,b=[.ref a]->H a=some (sn w a m)->(∀l,H l=none->Q (.ref l) (cA H l (.lst ((cS m).map nv))))->nR w b H Q
def Ig(k:X.calm=true):kg X (.builtin "sorted") (nR X.w):=by
 intro f s g H x y Q I r h;obtain⟨a,m,rfl,l,q⟩:=h;obtain⟨u,rfl,o⟩:=j3 r;cases o;obtain⟨z,_,_⟩:=I.hok a _ l;refine NN (I.ok.hd k) z λb i j c n p t v e=>?_;have d:Inv X f g H {s with heap:=b,toks:=j}:=I.kept t;have w:Inv X f g H {s with heap:=i,toks:=j}:=d.kept v;have A:(cS m).length<=5:=xZ ⟨m,z.1⟩;have ok:ObjOk X.prog X.w (cA H b.objs.size (.lst ((cS m).map nv))) i b.objs.size (.lst ((cS m).map nv)):=⟨by rw[cC,dz];lia,c,n,p,e⟩;exact⟨.ref b.objs.size,_,Inv.trackNew d w ok,zZ,q _ d.fresh⟩
end
section
variable{X:Cx}
inductive xH(K:Q5)(a:List V)(H:Hp)(Q:VK):Prop|mk:∀(p:Ad) (bs:List Bool),a=[.ref p]->SqL K H p (bs.map V.bl)->Q (.bl (bs.any id)) H->xH K a H Q
def E8(n:X.calm=true):kg X (.builtin "any") (xH X.K):=by
 intro G s J H L M Q I r h;obtain⟨p,bs,rfl,t,q⟩:=h;obtain⟨u,rfl,w⟩:=j3 r;cases w;obtain⟨a,g,j,_⟩:=I.list t;have k:=j.isList;have f:p<s.heap.objs.size:=j.lt;have c:a.length=bs.length:=by rw[<-g.length,cC]
 refine call_any_walk (wW k ⟨_,_,_,_,_,_,λi=>bs.getD i false,zZ,Walks.list (A:=X.A.in1) (I.ok.hd n) _ p (d9 f) a.toArray,⟨⟨_,fj _ zZ,zZ,zZ⟩,k.push _⟩,?_,λN O y=>?_⟩)
 .intro i v T U Y B C;have d:a[i]? =some v:=by simpa using B
  have l:i<bs.length:=by rw[<-c];exact(cP.mp d).1
  obtain⟨u2,m,D⟩:=g.get (i:=i) (x:= .bl (bs.getD i false)) (by rw[cV,cE l,eC,cE l];rfl);rw[d]at m;cases m;cases(show v=Value.bool _ from D);exact qh C
 .have e:(List.range a.toArray.size).any (λi=>bs.getD i false)=bs.any id:=by
   rw[eM,c];have:bs=(List.range bs.length).map λi=>bs.getD i false:=by
    refine AS (by simp) λi E h2=>?_;simp[List.getD_eq_getElem?_getD,E]
   conv=>rhs;rw[this,Bv]
   rfl
  rw[e];exact⟨.bl (bs.any id),H,I.kept λb o z=>y b o (by simp only[List.mem_singleton];exact Nat.ne_of_lt (Heap.lt_size z)) (Heap.get?_push_of_some _ z),zZ,q⟩
end
def drop(H:Hp)(c:Ad):Hp:=λb=>if b=c then none else H b
def ov{H:Hp}{c:Ad}:drop H c c=none:=by unfold drop;rw[wB zZ]
def eV{H:Hp}{b c:Ad}(h:b≠c):drop H c b=H b:=by unfold drop;rw[wA h]
def wk{H:Hp}{b c:Ad}(h:H b=none):drop H c b=none:=by
 by_cases e:b=c
 .rw[e];exact ov
 .rw[eV e];exact h
def hX(c m:Ad)(o:Obj):HO:= .ext λh=>h.get? c=some o/\o.data= .cell (some (.ref m))
def lG(c:Ad)(q:Str):HO:= .ext λh=>h.CodeRec (.ref c) q
def jk(f:Ad)(a:Fd):HO:= .ext λh=>h.get? f=some {cls:= .type "function",data:= .func a}
def HOk.drop{P:Pg}{w:World}{H:Hp}{h:Heap}{c:Ad}{g:Heap->Prop}(x:HOk P w H h)(a:H c=some (.ext g)):HOk P w (drop H c) h:=λb o e=>by
 by_cases f:b=c
 .rw[f,ov]at e;cases e
 .rw[eV f]at e;refine(x b o e).stay (λ_ _ _ z=>z) (λd z=>?_) λd i z=>?_
  .rw[eV (λq=>by rw[q,a]at z;cases z)];exact z
  .rw[eV (λq=>by rw[q,a]at z;cases z)];exact z
def HOk.back{P:Pg}{w:World}{H:Hp}{h:Heap}{c:Ad}{o:HO}(x:HOk P w H h)(a:H c=none)(ok:ObjOk P w (cA H c o) h c o):HOk P w (cA H c o) h:=λb u e=>by
 by_cases f:b=c
 .subst f;rw[cF]at e;cases e;exact ok
 .rw[cK f]at e;exact(x b u e).stay (λ_ _ _ z=>z) (λd z=>by rw[cK (dU z a)];exact z) λd g z=>by rw[cK (dU z a)];exact z
def FT{P:Pg}{w:World}{H:Hp}{h:Heap}{c m:Ad}{o:Obj}(x:h.get? c=some o)(d:o.data= .cell (some (.ref m))):ObjOk P w H h c (hX c m o):=⟨⟨x,d⟩,⟨o,x⟩,λa b e k=>⟨k _ e.1,e.2⟩⟩
def Hs{P:Pg}{w:World}{H:Hp}{h:Heap}{f:Ad}{a:Fd}(x:h.get? f=some {cls:= .type "function",data:= .func a}):ObjOk P w H h f (jk f a):=⟨x,⟨_,x⟩,λb c e k=>k _ e⟩
def O6{P:Pg}{w:World}{H:Hp}{h:Heap}{c:Ad}{q:Str}(x:h.CodeRec (.ref c) q):ObjOk P w H h c (lG c q):=by
 obtain⟨b,o,m,t,d,e,n⟩:=id x;cases d;refine⟨x,⟨o,e⟩,λp r ⟨b,f,a,g,i,j,l⟩ k=>?_⟩;cases i;exact⟨c,f,a,g,zZ,k _ j,l⟩
structure LamScope(ps:Ss)(y:Str)(sc:Scope):Prop where
 kind:sc.kind= .function
 co:sc.isCoroutine=false
 gen:sc.isGenerator=false
 nd:(ps++[y]).Nodup
 par: ∀x∈ps,sc.names.lookup x=some .local
 fre:sc.names.lookup y=some .free
 only: ∀z∈sc.names,z.2≠ .cell/\(z.2= .free->z.1=y)
abbrev iK(d:Str)(a:Arguments)(e:Expr)(b:Scope)(y:Str)(c:Ad)(pm f g:Vl):Fd:=PySem.W.kla_fn "<lambda>" d a e b [(y,c)] pm f g
def pU(P:Pg)(w:World)(K:Q5)(mg:SV)(base:Heap)(N:Ss)(b:Str)(a:Scope)(f:Ad)(c:Vl)(d:List (Str×Ad))(A:Ar)(outer:List Env)(s:Sh)(H:Hp):Cx where
 prog:=P
 w:=w
 K:=K
 mg:=mg
 base:=base
 A:=A.deeper (PySem.W.envX b a s.heap.objs.size f c d)
 N:=N
 s₀:=s
 H₀:=H
 env:=PySem.W.envX b a s.heap.objs.size f c d
 outer:=outer
 stack:=PySem.W.envX b a s.heap.objs.size f c d::outer
 ex:=[]
 calm:=true
 fn:=λ_=>false
 pn:=[]
 xe:=λ_ _=>False
theorem Ga{x:Str}{u:Vl}: ∀{l:List (Str×Vl)},(l.map (·.1)).Nodup->(x,u)∈l->l.lookup x=some u
 | (a,b)::l,nd,h=>by
  rw[iG,mE]at nd;rw[ki]
  rcases dZ.mp h with e|e
  .cases e;rw[yW]
  .have c:(x==a)=false:=pA.mpr λq=>nd.1 (dh.mpr ⟨(x,u),e,q⟩);rw[c];exact Ga nd.2 e
def Nk{c:Ss}{d:Vs}{i:Nat}{x:Str}{u:Vl}(nd:c.Nodup)(e:c[i]? =some x)(f:d[i]? =some u):(c.zip d).reverse.lookup x=some u:=by
 refine Ga ?_ (nN.mpr (gA.mpr ⟨i,List.getElem?_zip_eq_some.mpr ⟨e,f⟩⟩));have sub: ∀(c:Ss) (d:Vs),((c.zip d).map (·.1)).Sublist c:=λc=>by
  induction c with
  |nil=>intro d;simp
  |cons a c g=>
   intro d;cases d with
   |nil=>simp
   |cons b d=>rw[List.zip_cons_cons,iG];exact(g d).cons₂ a
 rw[List.map_reverse];show List.Pairwise (· ≠ ·) _;rw[List.pairwise_reverse];exact(nd.sublist (sub c d)).imp fh
def JD{P:Pg}{w:World}{K:Q5}{mg:SV}{l:Heap}{n:Ss}{y B:Str}{g:Scope}{f c m:Ad}{O:Vl}{A:Ar}{k:List Env}{s:Sh}{H:Hp}{Q:Vs}{I:List V}{E:Heap}{U:Nat}
  (S:LamScope n y g) (Y:A.handled=none) (t:Env0 P w K mg l A k s H) (T:I.length=n.length) (r:Vals I Q) (hc:H c=none) (ic:s.heap.IsCell c (some (.ref m)))
  (L:E.Ns s.heap.objs.size (λx=>(n.zip Q).reverse.lookup x)) (sb:Heap.SameBut s.heap.objs.size (s.heap.push {cls:= .type "frame",data:= .dict #[]}) E):
  Inv (pU P w K mg l (n++[y]) B g f O [(y,c)] A k s H) [] (I.map some++[some (.ref m)]) H {s with heap:=E,toks:=U}:=by
 have M: ∀b o,s.heap.get? b=some o->E.get? b=some o:=λb o e=>sb.extBut _ _ (d9 (dq e)) (dM _ e);have J:E.IsCell c (some (.ref m)):=let⟨o,e,d⟩:=ic;⟨o,M _ _ e,d⟩
 have one: ∀{x:Str} {d:Ad},([(y,c)]:List (Str×Ad)).lookup x=some d->x=y/\d=c:=λ{x d} h=>by
  rw[ki]at h;cases q:x==y with
  |true=>rw[q]at h;cases h;exact⟨eq_of_beq q,zZ⟩
  |false=>rw[q]at h;cases h
 have C:([(y,c)]:List (Str×Ad)).lookup y=some c:=by rw[ki,yW]
 have G: ∀b:Ad,b∉(pU P w K mg l (n++[y]) B g f O [(y,c)] A k s H).ex:=λb z=>wC (show b∈([]:As)from z) (by simp);refine⟨⟨t.mod,S.kind,zZ,zZ,cO _,λa b d E h2=>(one E).1.trans (one h2).1.symm,λa ha=>?_,λa d h _=>wC (show false=true from h) gy,λ_=>Y,Around.frames_deeper t.frames,.inr ⟨zZ,zZ⟩,λb z=>wC z (G b),t.bs,t.bsz,λb _ _=>G b,λb z=>wC z (G b),t.funs,t.frf⟩,
  rfl,t.bare,Un.kept M,⟨_,L,λi x v q1 D q3=>?_⟩,λa d h=>?_,t.hok.fresh (cO _),λa d h=>?_,λp hp=>wC (show p∈([]:AO)from hp) (by simp),t.hok.kept M,?_⟩
 .have N:g.names.lookup a=some .cell∨g.names.lookup a=some .free:=ha
  rcases N with z|z
  .exact wC zZ (S.only _ (nK z)).1
  .have e:=(S.only _ (nK z)).2 rfl;exact⟨c,by rw[show a=y from e];exact C⟩
 .have j:(n++[y])[i]? =some x:=q1
  rcases Nat.lt_or_ge i n.length with z|z
  .rw[fe z]at j;rw[fe (by rw[cC];lia),cV]at D;cases e:I[i]? with
   |none=>rw[e]at D;cases D
   |some a=>
    rw[e]at D;cases D;obtain⟨u,hu,rv⟩:=r.get e;have kx:=S.par x (cY j);refine⟨u,rv,.inl ⟨kx,?_⟩⟩;exact Nk (S.nd.sublist (List.sublist_append_left _ _)) j hu
  .rw[e9 z]at j;rw[e9 (by rw[cC];lia),cC]at D;have e:i-n.length=0:=by
    rcases Nat.eq_zero_or_pos (i-n.length)with y0|y0
    .exact y0
    .rw[j4 (by simp;lia)]at j;cases j
   rw[e]at j;rw[T,e]at D;cases j;cases D;exact⟨.ref m,zZ,.inr ⟨.inr S.fre,c,C,J⟩⟩
 .obtain⟨rfl,rfl⟩:=one (show([(y,c)]:List (Str×Ad)).lookup a=some d from h);exact⟨_,J⟩
 .obtain⟨rfl,rfl⟩:=one (show([(y,c)]:List (Str×Ad)).lookup a=some d from h);exact hc
 .show(I.map some++[some (V.ref m)]).length=(n++[y]).length;simp[T]
def IU{P:Pg}{w:World}{K:Q5}{mg:SV}{j:Heap}{k:Nat}{D:Ss}{y g:Str}{l:Arguments}{p:Expr}{a:Scope}{f c m G:Ad}{oc:Obj}{pm ct:Vl}{Y:Sp}
  (S:LamScope D y a) (len: ∀B H Q E,Y B H Q E->B.length=D.length) (here: ∀B H Q E,Y B H Q E->H f=some (jk f (iK g l p a y c pm (.ref G) ct))/\H c=some (hX c m oc)/\H G=some (lG G g))
  (L: ∀(A:Ar) (d:List Env) (s:Sh) (H:Hp) (B:List V) (Q:VK) (E:XK),Room k (A.deeper (PySem.W.envX g a s.heap.objs.size f (.ref G) [(y,c)]))->Y B H Q E->
   ∃t,PE (pU P w K mg j (D++[y]) g a f (.ref G) [(y,c)] A d s (drop H c)) p t/\t (B.map some++[some (.ref m)]) (drop H c) λv U=>U c=none->Q v (cA U c (hX c m oc))):
  FnOk P w K mg j de (k+1) f (iK g l p a y c pm (.ref G) ct) D Y:=by
 refine⟨len,λA d s H args us B Q E hr h M r N=>?_⟩;obtain⟨hf,O,aa⟩:=here _ _ _ _ N;have hl:=len _ _ _ _ N;obtain⟨ef,_,_⟩:=h.hok f _ hf;obtain⟨i,_,_⟩:=h.hok c _ O;obtain⟨T,_,_⟩:=h.hok G _ aa;have e1:Env0 P w K mg j A d s (drop H c):=⟨h.frames,h.mod,λb o e=>⟨(h.bs b o e).1,wk (h.bs b o e).2⟩,h.bsz,h.funs,λb M=>wk (h.frf b M),h.hok.drop O,h.bare⟩;have ab:s.heap.NoLimit:=h.mod.nolimit.keeps λb o e=>(h.bs b o e).1;refine PySem.W.kla_callFunE hr.depth ef zZ S.co S.gen zZ T (M _ _ _ _ ?_);refine wpAny_newFunctionEnv (λx hx=>(S.only x hx).1) (λx hx=>S.par _ (Be hx).1) (λh1 ae sb=>?_) S.kind;have hk: ∀b o,s.heap.get? b=some o->h1.get? b=some o:=λb o e=>sb.extBut _ _ (d9 (dq e)) (dM _ e);refine⟨ab.keeps hk,PySem.W.kla_codeExpr ?_⟩;obtain⟨t,ht,hq⟩:=L A d s H B Q E (hr.deeper _) N;have I:Inv (pU P w K mg j (D++[y]) g a f (.ref G) [(y,c)] A d s (drop H c)) [] (B.map some++[some (.ref m)]) (drop H c) {s with heap:=h1,toks:=s.toks+(D.zip us).length}:=JD S hr.hd e1 hl r ov ⟨oc,i⟩ ae sb;refine iM (ht [] _ _ _ _ I hq) (λv s' ⟨x,U,J,rx,q⟩=>?_) λe s' z=>wE z;have Hc:U c=none:=J.freeC y c (by show([(y,c)]:List (Str×Ad)).lookup y=some c;rw[ki,yW]);have af:s'.heap.get? c=some oc:=J.base.keep c oc i.1 ov (λz=>?_) (by simp[pU])
 .refine⟨x,cA U c (hX c m oc),J.os,J.bare,⟨λb o e n M _=>?_,λb o e n M _=>?_,λb o e n _=>?_,λb o e _=>J.base.there b o e (by simp[pU]),λb xs e=>?_,λb o u e=>?_,λb D e=>?_⟩,J.hok.back Hc (FT af i.2),rx,q Hc⟩
  .exact J.base.keep b o e (wk n) M (by simp[pU])
  .exact J.base.slot b o e (wk n) M (by simp[pU])
  .have C:b≠c:=λz=>by rw[z,O]at n;cases n
   rw[cK C];exact J.base.free b o e (wk n) (by simp[pU])
  .have C:b≠c:=λz=>by rw[z,O]at e;cases e
   rw[cK C];exact J.base.tups b xs (by show drop H c b=_;rw[eV C];exact e)
  .have C:b≠c:=λz=>by rw[z,O]at e;cases e
   rw[cK C];exact J.base.frzs b o u (by show drop H c b=_;rw[eV C];exact e)
  .have C:b≠c:=λz=>by rw[z,O]at e;cases e
   rw[cK C];exact J.base.tbls b D (by show drop H c b=_;rw[eV C];exact e)
 .have:=h.frf c z;rw[O]at this;cases this
section
variable{X:Cx}
def Gu(X:Cx)(i:Nat)(t:TA):TE:=λb H Q=>dR i b H λv c=> ∃st a,v= .ref st/\c st=some (jk st a)/\t b c λg d=>d st=some (jk st a)/\ ∃k e f,FnOk X.prog X.w X.K X.mg X.base de k st a e f/\Room k X.A/\Binds X.K a e []/\f g d Q E0
def Gn{a:AO}{b:St}{H:Hp}{s:Sh}{st:Ad}{c:Fd}(I:Inv X a b H s)(h:H st=some (jk st c)):PySem.W.FnAt st s.heap:=by
 obtain⟨e,_,_⟩:=I.hok st _ h;exact⟨_,_,_,_,e⟩
def ME(i:Nat){x:Str}{e:Expr}{a:List Expr}{t:TA}{p pos:Pos}(j:PE X (.Name x p) (dR i))(l:PA X (e::a) t)(m:starEach (e::a) X.env=(false,eval e X.env)::starEach a X.env:=by rfl)(b:(backTo pos (starEach a X.env)).any (·.1)=false:=by rfl):
  PE X (.Call (.Name x p) (e::a) [] pos) (Gu X i t):=by
 intro c s d H Q I h;refine ut (cT (j c s d H _ I h) λu n ⟨v,o,f,w,st,J,y,A,q⟩=>?_);subst y;cases w;refine PySem.W.callWith_F (Gn f A) (cT (l pos c n d o _ f q) λL M B=>?_) m b;obtain⟨N,O,g,r,C,k,T,U,F,D,E,G⟩:=B;refine⟨Gn g C,?_⟩;have z:=BG (dvs:=[]) (ds:=[]) F D E .nil xN g r (by rw[iV];exact G);exact z
def G9(g:Sp)(a:List V)(j:Nat)(c:Ad)(t:TA):TE:=λb H Q=>t b H λh d=> ∃m,b[j]? =some (some (.ref m))/\ ∀e,d c=none->g (h++a) (cA d c (hX c m e)) (λr f=>f c=some (hX c m e)/\Q r (drop f c)) E0
def Inv.afterC{p:AO}{t:St}{H:Hp}{s x:Sh}{c m:Ad}{i:Obj}{Q:VK}{u:Vl}(I:Inv X p t H s)(k:H c=none)(y:s.heap.get? c=some i)
  (h:CE X.stack X.prog X.w (cA H c (hX c m i)) s (λr j=>j c=some (hX c m i)/\Q r (drop j c)) u x):EP X p t Q u x:=by
 obtain⟨v,j,os,a,un,d,B,A,q⟩:=h;obtain⟨⟨f,_⟩,_,_⟩:=d c _ A;refine I.after ⟨v,drop j c,os,a,⟨λb o e n l g=>?_,λb o e n l g=>?_,λb o e n g=>?_,un.there,λb C e=>?_,λb o w e=>?_,λb D e=>?_⟩,d.drop A,B,q⟩
 .by_cases z:b=c
  .subst z;rw[y]at e;cases e;exact f
  .exact un.keep b o e (by rw[cK z];exact n) l g
 .by_cases z:b=c
  .subst z;rw[y]at e;cases e;exact⟨i.slots,f⟩
  .exact un.slot b o e (by rw[cK z];exact n) l g
 .by_cases z:b=c
  .rw[z];exact ov
  .exact wk (un.free b o e (by rw[cK z];exact n) g)
 .have z:b≠c:=λz=>by rw[z,k]at e;cases e
  rw[eV z];exact un.tups b C (by rw[cK z];exact e)
 .have z:b≠c:=λz=>by rw[z,k]at e;cases e
  rw[eV z];exact un.frzs b o w (by rw[cK z];exact e)
 .have z:b≠c:=λz=>by rw[z,k]at e;cases e
  rw[eV z];exact un.tbls b D (by rw[cK z];exact e)
def OZ{x:Str}{k j:Nat}{L:Ss}{T:Sp}{f c:Ad}{U:Fd}{g:List V}{v:Vs}{y:Str}{e:Expr}{A:List Expr}{t:TA}{p pos:Pos}(F:FnOk X.prog X.w X.K X.mg X.base de k f U L T)(hr:Room k X.A)(hg:Gl X x)(hm:X.mg x=some (.ref f))
  (hk:PySem.W.keepIn X.K (.ref f)=true) (n:Binds X.K U L v) (hd:Vals g v) (hN:X.N[j]? =some y) (G:X.env.cells.lookup y=some c) (B:X.env.scope.names.lookup y=some .cell) (M:X.fn y=true) (ha:PA X (e::A) t)
  (N:(x==("__debug__":Str))=false:=by decide) (he:starEach (e::A) X.env=(false,eval e X.env)::starEach A X.env:=by rfl) (O:(backTo pos (starEach A X.env)).any (·.1)=false:=by rfl):
  PE X (.Call (.Name x p) (e::A) [] pos) (G9 T g j c t):=by
 intro za s σ H Q I h;refine ut (zV I hg hm ?_ N);refine Aq (h₀:=X.base) I.ok.mod.kin hk (cT (ha pos za s σ H _ I h) λC J ⟨Y,H1,a,r,m,hj,q⟩=>⟨a.kIn,?_⟩) he O;have l:H1 c=none:=a.freeC y c G;obtain⟨mm,hn,look⟩:=a.loc;obtain⟨u,ru,lk⟩:=look j y (.ref m) hN hj (.inr (.inl B));cases ru;obtain⟨oc,ec,dc⟩:J.heap.IsCell c (some (.ref m)):=by
  rcases lk with⟨z,_⟩|⟨_,c',D,ic⟩
  .have z':X.env.scope.names.lookup y=some .local:=z;rw[B]at z';cases z'
  .rw[G]at D;cases D;exact ic
 have q1:=q oc l;have r2:Vals (Y++g) (C++v):=r.append hd;have hl:(C++v).length=L.length:=by rw[<-r2.length];exact F.len _ _ _ _ q1
 have e1:Env0 X.prog X.w X.K X.mg X.base X.A X.stack J (cA H1 c (hX c m oc)):=by
  have i:=a.env0;have d:=a.ok.cab y c M G;have nb: ∀b o,X.base.get? b=some o->b≠c:=λb o e z=>by
   subst z;exact wC (gh (dq e) (dL a.ok.bsz d)) (me _)
  have nf: ∀b∈kq X.stack,b≠c:=λb n z=>by
   subst z
   rcases dZ.mp (a.stkSub b n)with w|w
   .exact a.cne y b G w
   .obtain⟨_,o,ho,_⟩:=a.ok.funs.mem w;exact wC (gh (dq ho) d) (me _)
  exact⟨i.frames,i.mod,λb o e=>⟨(i.bs b o e).1,by rw[cK (nb b o e)];exact(i.bs b o e).2⟩,i.bsz,i.funs,λb n=>by rw[cK (nf b n)];exact i.frf b n,i.hok.back l (FT ec dc),i.bare⟩
 refine wQ (oP (F.run X.A X.stack J _ ⟨C,[]⟩ (C++v) (Y++g) _ E0 hr e1 (n J C a.kIn hl) r2 q1) λr s' E=>?_);cases r with
 |error e=>exact E.elim
 |ok fl=>
  cases fl with
  |ret u=>exact a.afterC l ec E
  |next=>exact wE E
  |brk=>exact wE E
  |cont=>exact wE E
end
section
variable{X:Cx}
def oQ(mg:SV)(h:Heap):Prop:= ∃a o,mg "__builtins__"=some (.ref a)/\a≠builtinsNs/\h.get? a=some o/\o.cls= .type "module"/\o.dict=some builtinsNs/\o.data= .plain
abbrev lQ(pos:Pos)(a:Ad):AV:= #[rawInt pos.line,rawInt pos.col,.ref a]
def Et(P:Ad)(a:Str)(b:Arguments)(g:Expr)(d:Scope)(y:Str)(c:Ad)(pm:Vl)(pos:Pos):TE:=λ_ H Q=>
 (H P=some (.tbl #[])/\ ∀f e h,H f=none->H e=none->f≠e->Q (.ref f) (cA (cA (cA H P (.tbl (lQ pos e))) e (lG e a)) f (jk f (iK a b g d y c pm (.ref e) h))))∨
 ∃e,H P=some (.tbl (lQ pos e))/\H e=some (lG e a)/\ ∀f h,H f=none->Q (.ref f) (cA H f (jk f (iK a b g d y c pm (.ref e) h)))
def Iq{P cd c:Ad}{qual y:Str}{a:Arguments}{g:Expr}{f:Scope}{pos:Pos}(E:X.env.code= .ref cd)(C:PySem.W.CodeHd X.base cd P)(bm:oQ X.mg X.base)(G: ∀B D H s,Inv X B D H s->closureFor f X.env=pure [(y,c)])
  (aa:defaultsOf a X.env=([],[])) (hq:X.env.qual++"<lambda>"=qual):PE X (.Lambda a g f pos) (Et P qual a g f y c ((X.mg "__name__").getD .none) pos):=by
 intro B s D H Q I h;rw[arm_eval_Lambda,aa,hq];have C':PySem.W.CodeHd s.heap cd P:=C.keeps I.bk;have hg:s.heap.Ns mainGlobals X.mg:=I.mod.glob.keeps I.bk;refine cB (m:=evalAll []) (cH (cB (m:=holding _ (evalAllOpt [])) (hG (cH ?_))));have track: ∀J,H P=some (.tbl J)->s.heap.get? P=some (PySem.W.tabObj J)/\mainGlobals≠P/\s.heap.BuiltinsAt X.mg P:=λJ e=>by
  have L:s.heap.get? P=some (PySem.W.tabObj J):=I.hok P _ e;have Y:mainGlobals≠P:=λz=>by
   obtain⟨o,es,ep,e1,_⟩:=I.mod.glob;have:=(I.bs _ _ e1).2
   rw[z,e]at this;cases this
  obtain⟨b,o,b1,b2,b3,b4,b5,b6⟩:=bm;refine⟨L,Y,b,o,b1,b2,λz=>?_,λz=>?_,I.bk _ _ b3,b4,b5,b6⟩
  .obtain⟨o',es,ep,e1,d1,_⟩:=I.mod.glob;rw[z,e1]at b3;cases b3;rw[d1]at b6;cases b6
  .have:=(I.bs _ _ b3).2;rw[z,e]at this;cases this
 rcases h with⟨e,q⟩|⟨i,e,ag,q⟩
 .obtain⟨L,Y,hb⟩:=track _ e;refine PySem.W.kla_makeFunction (G B D H s I) I.ok.glob hg E C' L (by trivial) zZ Y hb λi l j tk hx p r M ab=>?_;have t:H i=none:=I.hok.fresh p;have x:H j.objs.size=none:=I.hok.fresh (dL p (fQ r));have ae:P≠i:=dU e t;have af:P≠j.objs.size:=dU e x;have N:j.objs.size≠i:=m9 r;generalize eo:PySem.W.kla_obj "<lambda>" qual a g f [(y,c)] ((X.mg "__name__").getD .none) i l=ob;have old: ∀b u,H b=some u->b≠i/\b≠j.objs.size:=λb u z=>⟨dU z t,dU z x⟩;have O: ∀b o,s.heap.get? b=some o->b≠i/\b≠j.objs.size:=λb o z=>⟨d9 (gh (dq z) p),d9 (gh (dq z) (dL p (fQ r)))⟩;have T: ∀b o,b≠P->s.heap.get? b=some o->(j.push ob).get? b=some o:=λb o n z=>dM _ (hx b o n z);have k: ∀b,b≠P->b≠i->b≠j.objs.size->cA (cA (cA H P (.tbl (lQ pos i))) i (lG i qual)) j.objs.size (jk j.objs.size (iK qual a g f y c ((X.mg "__name__").getD .none) (.ref i) l)) b=H b:=λb n1 n2 n3=>by rw[cK n3,cK n2,cK n1]
  have U:cA (cA (cA H P (.tbl (lQ pos i))) i (lG i qual)) j.objs.size (jk j.objs.size (iK qual a g f y c ((X.mg "__name__").getD .none) (.ref i) l)) P=some (.tbl (lQ pos i)):=by rw[cK af,cK ae,cF]
  have tP:(j.push ob).get? P=some (PySem.W.tabObj (lQ pos i)):=by
   refine dM _ ?_;rw[ab];rfl
  refine⟨.ref j.objs.size,_,?_,zZ,q j.objs.size i l x t N⟩;refine I.step (ch:=[]) (λ_ z=>nomatch z) (λb o _ _ _ z n=>T b o (λw=>by rw[w,e]at n;cases n) z) (λb o _ _ _ z n=>⟨o.slots,T b o (λw=>by rw[w,e]at n;cases n) z⟩)
   (λb o _ z n=>?_) (λb o _ z=>?_) (λb xs z=>?_) (λb o u z=>?_) (λb J z=>?_) (λm hm=>?_) (λb u z=>?_) I.bare
  .rw[k b (λw=>by rw[w,e]at n;cases n) (O b o z).1 (O b o z).2];exact n
  .by_cases w:b=P
   .rw[w];exact⟨_,tP⟩
   .exact⟨o,T b o w z⟩
  .rw[k b (λw=>by rw[w,e]at z;cases z) (old b _ z).1 (old b _ z).2];exact z
  .rw[k b (λw=>by rw[w,e]at z;cases z) (old b _ z).1 (old b _ z).2];exact z
  .by_cases w:b=P
   .subst w;rw[e]at z;cases z;exact⟨lQ pos i,by rw[U];rfl⟩
   .exact⟨#[],by rw[k b w (old b _ z).1 (old b _ z).2,z];simp⟩
  .exact hm.at' λo z=>T _ o (λw=>by have:=I.free;rw[w,e]at this;cases this) z
  .by_cases w3:b=j.objs.size
   .rw[w3,cF]at z;cases z;rw[w3];exact Hs (by rw[<-eo];exact fj _ zZ)
   .by_cases w2:b=i
    .rw[w2,cK N.symm,cF]at z;cases z;rw[w2];exact O6 (M.push _)
    .by_cases w1:b=P
     .rw[w1,U]at z;cases z;rw[w1];exact tP
     .rw[k b w1 w2 w3]at z;refine(I.hok b u z).stay (λd o hd y=>T d o (λw=>?_) y) (λd y=>?_) λd xs y=>?_
      .rcases hd with v|v
       .exact w1 (v.symm.trans w)
       .rw[w,e]at v;cases v
      .rw[k d (λw=>by rw[w,e]at y;cases y) (old d _ y).1 (old d _ y).2];exact y
      .rw[k d (λw=>by rw[w,e]at y;cases y) (old d _ y).1 (old d _ y).2];exact y
 .obtain⟨L,Y,hb⟩:=track _ e;have A:codeAmong pos (lQ pos i).toList=some (.ref i):=by
   show(if((pos.line:Int)==(pos.line:Int)&&(pos.col:Int)==(pos.col:Int))=true then _ else _)=_;rw[wB (by simp)]
  refine PySem.W.kla_makeFunctionHit (G B D H s I) I.ok.glob hg E C' L (by trivial) A hb λl j tk keep sz=>?_;have I1:Inv X B D H {s with heap:=j,toks:=tk}:=I.kept keep;have I2:Inv X B D H {s with heap:=j.push {cls:= .type "function",data:= .func (iK qual a g f y c ((X.mg "__name__").getD .none) (.ref i) l)},toks:=tk}:=I1.kept λb o z=>dM _ z;have ok:ObjOk X.prog X.w (cA H j.objs.size (jk j.objs.size (iK qual a g f y c ((X.mg "__name__").getD .none) (.ref i) l))) (j.push {cls:= .type "function",data:= .func (iK qual a g f y c ((X.mg "__name__").getD .none) (.ref i) l)}) j.objs.size (jk j.objs.size (iK qual a g f y c ((X.mg "__name__").getD .none) (.ref i) l)):=Hs (fj _ zZ);exact⟨.ref j.objs.size,_,Inv.trackNew I1 I2 ok,zZ,q _ l I1.fresh⟩
end
def NR(K:Q5)(c:As)(a:Ad)(o:Obj)(d:Zs):Hp:=λb=>if b∈c then some (.tbl #[])else if b=a/\K.lookup a=none then some (.frz o (.lst (d.map V.int)))else none
def JG{P:Pg}{w:World}{K:Q5}{mg mb:SV}{k:Nat}{fa a:Ad}{fd:Fd}{x:Str}{sp:Sp}{f:Sh}{A:Vs}{D:Zs}{tabs:As}
  (KX:K.In f.heap) (I:f.heap.Ns mainGlobals mg) (g:f.heap.Ns builtinsNs mb) (aa: ∀x:Str,x≠"__name__"->mb x=bootBuiltins x) (J:f.heap.NoLimit) (hg:f.gens= #[]) (ab:oQ mg f.heap)
  (E:f.heap.get? a=some {cls:= .type "list",data:= .seq A.toArray}) (hi:IntsAre A D) (hl:D.length<=sizeLine) (hr:Room k callerA) (hT: ∀q∈tabs,K.lookup q=none/\ ∃c,f.heap.TableAt c q #[])
  (F: ∀l:Heap,K.In l->l.Ns mainGlobals mg->oQ mg l->FnOk P w K mg l de k fa fd [x] sp) (G: ∀(s:Sh) (u:Vl),BindsTo s fd ⟨[u],[]⟩ [(x,u)])
  (ae: ∀H:Hp,(∀q∈tabs,H q=some (.tbl #[]))->SqL K H a (D.map V.int)->sp [.ref a] H (λv _=>v= .bl true) λ_ _ _=>False):
  codeAny (model P w) callerA (.call (.ref fa) ⟨[.ref a],[]⟩) (λr L=>r= .ok (.ret (.bool true))/\OldK f.heap L.heap/\L.os=f.os/\AllBare L.gens) f:=by
 have rv:=GF hi;have M:=hi.length;have i: ∀q∈tabs,f.heap.get? q=some (PySem.W.tabObj #[]):=λq N=>let⟨_,c,t⟩:=hT q N;t.2
 have na:a∉tabs:=λN=>by
  have:=i a N;rw[E]at this;cases this
 generalize eH:NR K tabs a {cls:= .type "list",data:= .seq A.toArray} D=H;have O: ∀q∈tabs,H q=some (.tbl #[]):=λq N=>by rw[<-eH];exact wB N
 have B: ∀b,b∉tabs->H b=if b=a/\K.lookup a=none then some (.frz {cls:= .type "list",data:= .seq A.toArray} (.lst (D.map V.int)))else none:=λb g=>by rw[<-eH];exact wA g
 have j: ∀b u,H b=some u->(b∈tabs/\u= .tbl #[])∨(b=a/\K.lookup a=none/\u= .frz {cls:= .type "list",data:= .seq A.toArray} (.lst (D.map V.int))):=λb u e=>by
  by_cases g:b∈tabs
  .rw[O b g]at e;cases e;exact .inl ⟨g,zZ⟩
  .rw[B b g]at e;by_cases h:b=a/\K.lookup a=none
   .rw[wB h]at e;cases e;exact .inr ⟨h.1,h.2,zZ⟩
   .rw[wA h]at e;cases e
 have af:HOk P w H f.heap:=λb u e=>by
  rcases j b u e with⟨g,rfl⟩|⟨rfl,_,rfl⟩
  .exact i b g
  .exact⟨E,by rw[cC];exact hl,A,_,rv,E⟩
 have hS:SqL K H a (D.map V.int):=by
  cases Q:K.lookup a with
  |some o=>
   have e:=KX a o Q;rw[E]at e;cases e;exact .inr ⟨_,A.toArray,_,Q,zZ,zZ,zZ,by rw[eM,M];exact hl,by simpa using rv⟩
  |none=>exact .inl (.inr ⟨{cls:= .type "list",data:= .seq A.toArray},by rw[B a na,wB ⟨zZ,Q⟩]⟩)
 have free: ∀{b:Ad} {o:Obj},f.heap.get? b=some o->o.cls≠ .none->(∀T n,o.data≠ .seq T n)->H b=none:=λ{b o} e hc hd=>by
  cases q:H b with
  |none=>rfl
  | some u=>
   rcases j b u q with⟨g,_⟩|⟨rfl,_,_⟩
   .rw[i b g]at e;cases e;exact wC zZ hc
   .rw[E]at e;cases e;exact wC zZ (hd _ _)
 have p: ∀{b:Ad} {m:SV},f.heap.Ns b m->(pH f.heap H).Ns b m:=λ{b m} ⟨o,es,ep,e,d,r⟩=>by
  refine⟨o,es,ep,Dp e ?_,d,r⟩;cases q:H b with
  |none=>rfl
  | some u=>
   rcases j b u q with⟨g,_⟩|⟨rfl,_,_⟩
   .rw[i b g]at e;cases e;cases d
   .rw[E]at e;cases e;cases d
 have U:K.In (pH f.heap H):=λb o e=>Dp (KX b o e) (by
  cases q:H b with
  |none=>rfl
  | some u=>
   rcases j b u q with⟨g,_⟩|⟨rfl,Q,_⟩
   .rw[(hT b g).1]at e;cases e
   .rw[Q]at e;cases e)
 have ag:oQ mg (pH f.heap H):=by
  obtain⟨bm,o,b1,b2,b3,b4,b5,b6⟩:=ab;exact⟨bm,o,b1,b2,Dp b3 (free b3 (by rw[b4];nofun) (λT n z=>by rw[b6]at z;cases z)),b4,b5,b6⟩
 have hM:Mod K mg (pH f.heap H):=⟨U,p I,⟨mb,p g,aa⟩,let⟨mc,h1,h2⟩:=J;⟨mc,p h1,h2⟩⟩;have e0:Env0 P w K mg (pH f.heap H) callerA [] f H:=⟨zZ,hM,λb o e=>OR e,pq (MQ _ _),trivial,λb g=>wC (show b∈([]:As)from g) (by simp),af,.of_eq hg⟩;refine oP ((F _ U (p I) ag).run callerA [] f H ⟨[.ref a],[]⟩ [.ref a] [.ref a] _ _ hr e0 (G f (.ref a)) (.cons zZ .nil) (ae H O hS)) λr L h=>?_;cases r with
 |error e=>exact h.elim
 | ok fl=>
  cases fl with
  |next=>exact wE h
  |brk=>exact wE h
  |cont=>exact wE h
  | ret u=>
   obtain⟨v,H',os,Y,un,C,r',q⟩:=h;have q':v= .bl true:=q;subst q'
   obtain rfl:u=Value.bool true:=r';refine⟨zZ,⟨λb o e=>?_,λb o e=>un.there b o e (by simp)⟩,os,Y⟩;cases z:H b with
   |none=>exact .inl (un.keep b o e z (by intro y;exact wC (show b∈([]:As)from y) (by simp)) (by simp))
   | some u=>
    rcases j b u z with⟨g,rfl⟩|⟨rfl,_,rfl⟩
    .obtain⟨more,z2⟩:=un.tbls b _ z;have e2:L.heap.get? b=some (PySem.W.tabObj (#[]++more)):=C b _ z2;rw[i b g]at e;cases e;obtain⟨_,c,t⟩:=hT b g;exact .inr (.inl ⟨t.isCodeTable,zZ,#[],more,zZ,e2⟩)
    .obtain⟨e2,_⟩:=C b _ (un.frzs b _ _ z);rw[E]at e;cases e;exact .inl e2
def d2e{l:PySem.W.OpenLaw}{n k:Nat}{q:Pg}{i:Ss}{L:SV->Heap->Prop}{D:World->Heap->Prop}{d:DefRec}{K:Params->Q5}{sp:World->Sp}{x:Str}{tabs:List (Str×Ad)}
  (M:l.most=some n) (y:n<=sizeLine) (z:d.params.defaults=[]) (N:Room k callerA) (O: ∀(w:World) (h:Heap),D w h->(K w.params).In h)
  (hT: ∀w:World,∀t∈tabs,(K w.params).lookup t.2=none/\(∃c,PySem.W.tabIn (K w.params) t.1=some (c,t.2))/\ ∃e,(recsOf q).find? (λr=>r.name==t.1)=some e)
  (F: ∀(w:World) (mg:SV) (fa:Ad) (h:Heap),(K w.params).In h->h.Ns mainGlobals mg->mg d.name=some (.ref fa)->
   ∃A:Fd,(∀(s:Sh) (u:Vl),BindsTo s A ⟨[u],[]⟩ [(x,u)])/\ ∀b:Heap,(K w.params).In b->b.Ns mainGlobals mg->oQ mg b->FnOk l.prog w (K w.params) mg b de k fa A [x] (sp w))
  (B: ∀(w:World) (H:Hp) (a:Ad) (p:Zs),p.length<=n->(∀t∈tabs,H t.2=some (.tbl #[]))->SqL (K w.params) H a (p.map V.int)->sp w [.ref a] H (λv _=>v= .bl true) λ_ _ _=>False):
  PySem.W.WalkO q i L D l.row.toRowW d [] (λf E=>PySem.call f E):=by
 refine Att.attach_call M z λw I J mg mb fa o pm cd Q a E p G Y ho hd T hmg m j g U=>?_;have KX:=O w _ Y;obtain⟨A,hb,hF⟩:=F w mg fa _ KX G.T.g hmg;refine JG (tabs:=tabs.map (·.2)) KX G.T.g G.T.b G.T.builtins G.T.nolimit U G.T.bmain m j (dL g y) N (λq hq=>?_) hF hb (λH hH hS=>B w H a p g (λt ht=>hH _ (List.mem_map_of_mem ht)) hS);obtain⟨t,ht,rfl⟩:=dh.mp hq;obtain⟨h1,⟨c,h2⟩,e,h3⟩:=hT w t ht;obtain⟨C,eP⟩:=PySem.W.tab_of G.T KX h3 h2;exact⟨h1,c,C.tab eP⟩
def sl(u v:cz):Prop:=u.length<v.length∨(u.length=v.length/\eR u v=true)
def lP{a b:Nat}{c d:cz}(h:a≠b):eR (a::c) (b::d)=decide (a<b):=by
 unfold eR;rw[gP,wA h];rfl
def qi{a:Nat}{c d:cz}:eR (a::c) (a::d)=eR c d:=by
 unfold eR;rw[gP,wB zZ];cases gP c d with
 |none=>simp
 |some b=>rfl
theorem Ij: ∀{i e j:cz},i.length=e.length->e.length=j.length->eR i e=true->eR e j=true->eR i j=true
 | [],[],_,_,_,h,_=>by rw[pD]at h;cases h
 | [],_::_,_,h,_,_,_=>by simp at h
 |_::_,[],_,h,_,_,_=>by simp at h
 |_::_,_::_,[],_,h,_,_=>by simp at h
 | a::i,b::e,c::j,l,m,f,d=>by
  by_cases k:a=b
  .subst k;rw[qi]at f;by_cases g:a=c
   .subst g;rw[qi]at d⊢;exact Ij (by simpa using l) (by simpa using m) f d
   .rw[lP g]at d⊢;exact d
  .rw[lP k]at f;have n:a<b:=ie f;by_cases g:b=c
   .subst g;rw[lP k];exact f
   .rw[lP g]at d;have o:b<c:=ie d;rw[lP ()];exact eJ ()
theorem Iy: ∀{c d g i:cz},c.length=d.length->eR c d=true->eR (c++g) (d++i)=true
 | [],[],_,_,_,h=>by rw[pD]at h;cases h
 | [],_::_,_,_,h,_=>by simp at h
 |_::_,[],_,_,h,_=>by simp at h
 | a::c,b::d,g,i,j,e=>by
  by_cases f:a=b
  .subst f;rw[va,va,qi];rw[qi]at e;exact Iy (by simpa using j) e
  .rw[va,va,lP f];rw[lP f]at e;exact e
def Px(c:cz){a b:Nat}(h:a<b):eR (c++[a]) (c++[b])=true:=by
 induction c with
 |nil=>exact(lP ()).trans (eJ h)
 |cons x c d=>rw[va,va,qi];exact d
def xf{u v x:cz}(a:sl u v)(b:sl v x):sl u x:=by
 rcases a with a|⟨c,d⟩<;>rcases b with b|⟨e,f⟩
 .exact .inl ()
 .exact .inl ()
 .exact .inl ()
 .exact .inr ⟨(),Ij c e d f⟩
def AD{u:cz}(h:sl u u):False:=by
 rcases h with h|⟨_,h⟩
 .lia
 .rw[pD]at h;cases h
def GX{u v:cz}{a b:Nat}(h:sl u v):sl (u++[a]) (v++[b]):=by
 rcases h with h|⟨e,l⟩
 .exact .inl (by simp;lia)
 .exact .inr ⟨by simp[e],Iy e l⟩
def Df(u:cz){a b:Nat}(h:a<b):sl (u++[a]) (u++[b]):= .inr ⟨by simp,Px u h⟩
def pR(u v:cz):Prop:=u=v∨sl u v
def Me{u v x:cz}(h1:pR u v)(h2:pR v x):pR u x:=by
 rcases h1 with rfl|h1
 .exact h2
 .rcases h2 with rfl|h2
  .exact .inr h1
  .exact .inr (xf h1 h2)
def KU{u v:cz}{a:Nat}(h:pR u v):pR (u++[a]) (v++[a]):=by
 rcases h with rfl|h
 .exact .inl rfl
 .exact .inr (GX h)
section
variable(f:cz->Nat->List Nat)(L:Nat)(x0:cz)
abbrev TW:=List (cz×cz)
def dv(word:cz):cz:=word.foldl f x0
def Goes(a:TW)(p:cz×cz)(l:Nat):Prop:= ∃u,(f p.1 l,u)∈a/\pR u (p.2++[l])
structure Told(ws:TW):Prop where
 head:ws[0]? =some (x0,[])
 keys:(ws.map (·.1)).Nodup
 run: ∀p∈ws,(∀l∈p.2,l<L)/\dv f x0 p.2=p.1
 up:ws.Pairwise λp q=>sl p.2 q.2
 all: ∀p∈ws,∀l,l<L->Goes f ws p l
 short: ∀p∈ws,p.2.length<ws.length
structure Bfs(d:Nat)(ws wv fo:TW)(i j:Nat):Prop where
 head:ws[0]? =some (x0,[])
 keys:(ws.map (·.1)).Nodup
 run: ∀p∈ws,(∀l∈p.2,l<L)/\dv f x0 p.2=p.1
 up:ws.Pairwise λp q=>sl p.2 q.2
 len: ∀p∈ws,p.2.length<=d+1
 wave: ∀p∈wv,p∈ws/\p.2.length=d
 wup:wv.Pairwise λp q=>sl p.2 q.2
 foll: ∀p∈fo,p∈ws/\p.2.length=d+1
 fup:fo.Pairwise λp q=>sl p.2 q.2
 front: ∀p∈ws,∀t,wv[i]? =some t->sl p.2 (t.2++[j])
 done: ∀p∈ws,p∈fo∨(∃a,i<=a/\wv[a]? =some p)∨ ∀l,l<L->Goes f ws p l
 part: ∀t,wv[i]? =some t-> ∀l,l<j->Goes f ws t l
 short: ∀p∈ws,p.2.length<ws.length
variable{f L x0}{d i j:Nat}{ws wv fo:TW}{t:cz×cz}
def Goes.more{p q:cz×cz}{l:Nat}(h:Goes f ws p l):Goes f (ws++[q]) p l:=by
 obtain⟨u,a,b⟩:=h;exact⟨u,ni _ a,b⟩
def Bfs.start:Bfs f L x0 0 [(x0,[])] [(x0,[])] [] 0 0 where
 head:=rfl
 keys:=by simp
 run:=λp a=>by
  rw[dw.mp a];exact⟨λ_ h=>(nomatch h),zZ⟩
 up:=ul _ _
 len:=λp a=>by rw[dw.mp a];simp
 wave:=λp a=>⟨a,by rw[dw.mp a];rfl⟩
 wup:=ul _ _
 foll:=λ_ h=>nomatch h
 fup:= .nil
 front:=λp a t _=>by
  rw[dw.mp a];exact .inl (by simp)
 done:=λp a=> .inr (.inl ⟨0,cO _,by rw[dw.mp a];rfl⟩)
 part:=λ_ _ _ h=>wC h (tq _)
 short:=λp a=>by rw[dw.mp a];simp
def Bfs.old(b:Bfs f L x0 d ws wv fo i j)(ht:wv[i]? =some t)(h:f t.1 j∈ws.map (·.1)):Bfs f L x0 d ws wv fo i (j+1):=by
 obtain⟨p,g,e⟩:=dh.mp h;refine {b with front:=λq k t' a=>?_,part:=λt' a l c=>?_}
 .exact xf (b.front q k t' a) (Df _ (oJ _))
 .rcases Nat.lt_succ_iff_lt_or_eq.mp c with c|rfl
  .exact b.part t' a l c
  .rw[ht]at a;cases a;exact⟨p.2,by rw[<-e];exact g,.inr (b.front p g t ht)⟩
def Bfs.new(b:Bfs f L x0 d ws wv fo i j)(ht:wv[i]? =some t)(n:j<L)(o:f t.1 j∉ws.map (·.1)):
  Bfs f L x0 d (ws++[(f t.1 j,t.2++[j])]) wv (fo++[(f t.1 j,t.2++[j])]) i (j+1):=by
 obtain⟨c,tl⟩:=b.wave t (cY ht);obtain⟨r,g⟩:=b.run t c;have k:(t.2++[j]).length=d+1:=by simp[tl]
 have pos:0<ws.length:=zA c;refine⟨?_,?_,λp hp=>?_,?_,λp hp=>?_,λp hp=>⟨ni _ (b.wave p hp).1,(b.wave p hp).2⟩,b.wup,λp hp=>?_,?_,λp hp s a=>?_,λp hp=>?_,λs a l hl=>?_,λp hp=>?_⟩
 .rw[fe pos];exact b.head
 .rw[eI,BS];refine⟨b.keys,by simp,λx u y m z=>?_⟩;simp at m;subst m;exact o (z▸u)
 .rcases dD.mp hp with hp|hp
  .exact b.run p hp
  .rw[dw.mp hp];refine⟨λl hl=>?_,?_⟩
   .rcases dD.mp hl with hl|hl
    .exact r l hl
    .rw[dw.mp hl];exact n
   .show dv f x0 (t.2++[j])=f t.1 j;unfold dv at g⊢;rw[rj,g];rfl
 .rw[jt];refine⟨b.up,ul _ _,λp hp q e=>?_⟩;rw[dw.mp e];exact b.front p hp t ht
 .rcases dD.mp hp with hp|hp
  .exact b.len p hp
  .rw[dw.mp hp];exact pq k
 .rcases dD.mp hp with hp|hp
  .exact⟨ni _ (b.foll p hp).1,(b.foll p hp).2⟩
  .exact⟨fg _ hp,by rw[dw.mp hp];exact k⟩
 .rw[jt];refine⟨b.fup,ul _ _,λp hp q e=>?_⟩;rw[dw.mp e];exact b.front p (b.foll p hp).1 t ht
 .rw[ht]at a;cases a
  rcases dD.mp hp with hp|hp
  .exact xf (b.front p hp t ht) (Df _ (oJ _))
  .rw[dw.mp hp];exact Df _ (oJ _)
 .rcases dD.mp hp with hp|hp
  .rcases b.done p hp with h|h|h
   .exact .inl (ni _ h)
   .exact .inr (.inl h)
   .exact .inr (.inr λl hl=>(h l hl).more)
  .exact .inl (fg _ hp)
 .rw[ht]at a;cases a
  rcases Nat.lt_succ_iff_lt_or_eq.mp hl with hl|rfl
  .exact(b.part t ht l hl).more
  .exact⟨t.2++[l],fg _ (dw.mpr zZ),.inl zZ⟩
 .rw[dF,wM]
  rcases dD.mp hp with hp|hp
  .exact qc (b.short p hp)
  .rw[dw.mp hp];have z:=b.short t c;show(t.2++[j]).length<_
   rw[dF,wM];lia
def Bfs.next(b:Bfs f L x0 d ws wv fo i L)(ht:wv[i]? =some t):Bfs f L x0 d ws wv fo (i+1) 0:=by
 refine {b with front:=λp g o k=>?_,done:=λp g=>?_,part:=λ_ _ l m=>wC m (tq _)}
 .have n:=b.front p g t ht;have c:sl t.2 o.2:=by
   obtain⟨q,r⟩:=cP.mp ht;obtain⟨s,u⟩:=cP.mp k;rw[<-r,<-u];exact pV.mp b.wup i (i+1) q s (oJ _)
  exact xf n (GX c)
 .rcases b.done p g with h|⟨a,n,c⟩|h
  .exact .inl h
  .rcases Nat.eq_or_lt_of_le n with e|e
   .subst e;rw[ht]at c;cases c;exact .inr (.inr λl m=>b.part t ht l m)
   .exact .inr (.inl ⟨a,e,c⟩)
  .exact .inr (.inr h)
def Bfs.wave'(b:Bfs f L x0 d ws wv fo wv.length 0):Bfs f L x0 (d+1) ws fo [] 0 0:=by
 refine⟨b.head,b.keys,b.run,b.up,λp c=>yu (b.len p c),b.foll,b.fup,λ_ h=>(nomatch h),.nil,λp c t ht=>?_,λp c=>?_,λ_ _ l m=>wC m (tq _),b.short⟩
 .have k:=b.len p c;have g:=(b.foll t (cY ht)).2;exact .inl (by simp;lia)
 .rcases b.done p c with h|⟨a,k,g⟩|h
  .obtain⟨a,e⟩:=gA.mp h;exact .inr (.inl ⟨a,jj _,e⟩)
  .rw[j4 k]at g;cases g
  .exact .inr (.inr h)
def Bfs.told(b:Bfs f L x0 d ws [] [] 0 0):Told f L x0 ws:=⟨b.head,b.keys,b.run,b.up,λp c=>by
 rcases b.done p c with h|⟨a,_,h⟩|h
 .nomatch h
 .simp at h
 .exact h,b.short⟩
theorem Told.least(T:Told f L x0 ws): ∀(n:Nat) (v:cz),v.length=n->(∀l∈v,l<L)-> ∃u,(dv f x0 v,u)∈ws/\pR u v
 |0,v,a,_=>by
  have e:v=[]:=pZ.mp a;subst e;exact⟨[],cY T.head,.inl zZ⟩
 | n+1,v,a,c=>by
  obtain⟨b,l,rfl⟩: ∃b l,v=b++[l]:=⟨v.dropLast,v.getLast (by intro z;rw[z]at a;cases a),(Gm _).symm⟩;obtain⟨u,g,h⟩:=T.least n b (by simp at a;lia) λx k=>c x (List.mem_append_left _ k);obtain⟨m,o,p⟩:=T.all _ g l (c l (fg _ (dw.mpr zZ)));refine⟨m,?_,Me p (KU h)⟩;have e:dv f x0 (b++[l])=f (dv f x0 b) l:=by
   unfold dv;rw[rj];rfl
  rw[e];exact o
def v5{U:LN}(b:x0∈U)(c: ∀x∈U,∀l,l<L->f x l∈U): ∀word:cz,(∀l∈word,l<L)->dv f x0 word∈U:=by
 have go: ∀(word:cz) (x:cz),x∈U->(∀l∈word,l<L)->word.foldl f x∈U:=by
  intro word
  induction word with
  |nil=>intro x a _;exact a
  |cons l word e=>intro x a h;exact e _ (c x a l (h l (dY ..))) λy g=>h y (fR _ g)
 exact λword h=>go word x0 b h
def oF{U:LN}{l:LN}(nd:l.Nodup)(h: ∀x∈l,x∈U):l.length<=U.length:=wJ nd h
end
def FO{u v:cz}(a:sl u v)(b:sl v u):False:=AD (xf a b)
def LX{u v:cz}(h1:pR u v)(h2:pR v u):u=v:=by
 rcases h1 with h1|h1
 .exact h1
 .rcases h2 with h2|h2
  .exact h2.symm
  .exact(FO h1 h2).elim
theorem HR: ∀{a b:TW},(a.Pairwise λp q=>sl p.2 q.2)->(b.Pairwise λp q=>sl p.2 q.2)->(∀p,p∈a↔p∈b)->a=b
 | [],[],_,_,_=>rfl
 | [],q::b,_,_,h=>wC ((h q).mpr (dY ..)) (by simp)
 |p::a,[],_,_,h=>wC ((h p).mp (dY ..)) (by simp)
 | p::a,q::b,g,i,h=>by
  obtain⟨d,j⟩:=vx.mp g;obtain⟨f,k⟩:=vx.mp i;have l:p=q:=by
   rcases dZ.mp ((h p).mp (dY ..))with e|e
   .exact e
   .rcases dZ.mp ((h q).mpr (dY ..))with e'|e'
    .exact e'.symm
    .exact(FO (f p e) (d q e')).elim
  subst l;have rest:a=b:=HR j k λr=>by
   constructor
   .intro c
    rcases dZ.mp ((h r).mp (fR _ c))with e|e
    .subst e;exact(AD (d r c)).elim
    .exact e
   .intro c
    rcases dZ.mp ((h r).mpr (fR _ c))with e|e
    .subst e;exact(AD (f r c)).elim
    .exact e
  rw[rest]
def Told.sub{f:cz->Nat->List Nat}{L:Nat}{b:cz}{g h:TW}(T:Told f L b g)(k:Told f L b h){p:cz×cz}(l:p∈g):p∈h:=by
 obtain⟨o,q⟩:=T.run p l;obtain⟨u,a,r⟩:=k.least _ p.2 zZ o;rw[q]at a;obtain⟨s,t⟩:=k.run _ a;obtain⟨v,m,n⟩:=T.least _ u zZ s;have e:dv f b u=p.1:=t;rw[e]at m;have same:v=p.2:=by
  obtain⟨i,c⟩:=gA.mp m;obtain⟨j,d⟩:=gA.mp l;have w:i=j:=(jx (by rw[cC];exact(cP.mp c).1) T.keys).mp (by rw[cV,cV,c,d];rfl);subst w;rw[c]at d;have z:=gD d;rw[<-z]
 rw[same]at n;have x:u=p.2:=LX r n;rw[x]at a;exact a
def Told.uniq{f:cz->Nat->List Nat}{L:Nat}{b:cz}{c d:TW}(T:Told f L b c)(a:Told f L b d):c=d:=HR T.up a.up λp=>⟨λh=>T.sub a h,λh=>a.sub T h⟩
section
variable{P:Pg}{w:World}{A:Ar}{E:VP}{s:Sh}{f d:Ad}{i j:Nat}{p:Array DictEntry}
abbrev lN(k v:Vl):Obj:={cls:= .type "tuple",data:= .seq #[k,v]}
abbrev qv(a:Vl)(b:Bool)(d:Ad)(i n j:Nat)(k v:Vl):Obj:={cls:= .type "dict_itemiterator",data:= .fields #[a,.bool b,.ref d,.int i 0,.int n 0,.int j 0,k,v]}
def Lies(h:Heap)(d:Ad)(p:Array DictEntry)(j:Nat):Prop:= ∃o,h.get? d=some o/\o.ExactDict/\o.data= .dict p j
def Goer(h:Heap)(f d:Ad)(i n j:Nat):Prop:= ∃b c k v,h.get? f=some (qv b c d i n j k v)/\(b= .none∨ ∃a:Nat,b=rawInt a/\a≠f/\ ∃o,h.get? a=some o)
def Goer.keep{h m:Heap}{n:Nat}(g:Goer h f d i n j)(k: ∀o,h.get? f=some o->m.get? f=some o)(l: ∀b o,h.get? b=some o-> ∃t,m.get? b=some t):Goer m f d i n j:=by
 obtain⟨q,r,x,v,e,c⟩:=g;refine⟨q,r,x,v,k _ e,c.imp id ?_⟩;rintro⟨a,u,y,o,z⟩;exact⟨a,u,y,l a o z⟩
def K9{l:Vl}{g:Bool}{n:Nat}{D G k v:Vl}{Q:VP}(e:s.heap.get? f=some (qv l g d i n j D G))(c:l= .none∨ ∃a:Nat,l=rawInt a/\a≠f/\ ∃o,s.heap.get? a=some o)
  (q: ∀B,Goer B f d i n j->B.get? s.heap.objs.size=some (lN k v)->(∀b o,b≠f->s.heap.get? b=some o->B.get? b=some o)->Q (.ref s.heap.objs.size) {s with heap:=B}):
  wpAny (model P w) A (Builtin.Dict_items.pairFromOwner (.ref f) 6 k v) Q E s:=by
 have lt:f<s.heap.objs.size:=dq e;unfold Builtin.Dict_items.pairFromOwner;refine cB (wpAny_newTuple ?_);have h:=dM (lN k v) e;have t:(s.heap.push (lN k v)).get? s.heap.objs.size=some (lN k v):=fj _ rfl;have C: ∀b o,s.heap.get? b=some o->(s.heap.push (lN k v)).get? b=some o:=λb o z=>dM _ z;have H:s.heap.objs.size≠f:=m9 lt
 rcases c with rfl|⟨a,rfl,I,o,U⟩
 .have free: ∀{R:Bool->Sh->Prop} {J:Sh},J.heap.get? f=some (qv .none g d i n j D G)->R true J->wpAny (model P w) A (Builtin.Dict_items.ownedTupleIsFree (.ref f)) R E J:=λe r=>by
   unfold Builtin.Dict_items.ownedTupleIsFree;exact cB (pO e zZ (x:= .none) zZ (cH r))
  refine cB (free h ?_);rw[wB zZ];refine cB (pO h zZ (x:=D) zZ (cB (pO h zZ (x:=G) zZ ?_)));refine cB (oH h (by simp) λO L u=>wpAny_bind (wpAny_setField_rec L (by simp) λh3 Y s3=>?_));refine cB (oH Y (by simp) λh4 e4 s4=>wpAny_bind (wpAny_setField_rec e4 (by simp) λh5 e5 s5=>wpAny_bind (wpAny_letGo (wpAny_pure ?_))));have T:=((u.trans s3).trans s4).trans s5;have y:=T.extBut _ _ H t;exact q h5 ⟨_,_,_,_,e5,.inr ⟨_,zZ,H,_,y⟩⟩ y λb o M z=>T.extBut _ _ M (C b o z)
 .have N:=C a o U;refine cB (m:=Builtin.Dict_items.ownedTupleIsFree _) ?_;unfold Builtin.Dict_items.ownedTupleIsFree;refine cB (pO h zZ (x:=rawInt a) zZ ?_);have alive: ∀{R:Option Obj->Sh->Prop},R (some o) {s with heap:=s.heap.push (lN k v)}->wpAny (model P w) A (loadIfAlive ((a:Int).toNat)) R E {s with heap:=s.heap.push (lN k v)}:=λ{R} r=>by
   rw[ip];exact λ_ _ _=>show R ((s.heap.push (lN k v)).get? a) _ by rw[N];exact r
  refine show wpAny _ _ (loadIfAlive ((a:Int).toNat) >>= _) _ _ _ from cB (alive ?_)
  refine cB (m:=field _ _) (pO h zZ (x:= .bool g) zZ ?_);cases g with
  |true=>exact cH (cH (q _ ⟨_,_,_,_,h,.inr ⟨a,zZ,I,o,N⟩⟩ t λb o _ z=>C b o z))
  |false=>
   refine cB (m:=setField _ _ _) (oH h (by simp) λO L u=>wpAny_pure (wpAny_pure ?_));exact q O ⟨_,_,_,_,L,.inr ⟨a,zZ,I,o,u.extBut _ _ I N⟩⟩ (u.extBut _ _ H t) λb o M z=>u.extBut _ _ M (C b o z)
end
section
variable{P:Pg}{w:World}{A:Ar}{E:VP}{s:Sh}{f d:Ad}{i h:Nat}{g:Array DictEntry}
def KL{j:DictEntry}{Q:Option Vl->Sh->Prop}(G:Goer s.heap f d i g.size h)(L:Lies s.heap d g h)(y:g[i]? =some j)
  (q: ∀p,Goer p f d (i+1) g.size h->p.get? s.heap.objs.size=some (lN j.key j.val)->(∀b o,b≠f->s.heap.get? b=some o->p.get? b=some o)->Q (some (.ref s.heap.objs.size)) {s with heap:=p}):
  wpAny (model P w) A (pyNext (.ref f)) Q E s:=by
 obtain⟨r,t,J,M,e,c⟩:=G;obtain⟨o,B,_,C⟩:=L;have ty:s.TypeIs (.ref f) "dict_itemiterator":=⟨_,e,zZ⟩;have lt:i<g.size:=(xr.mp y).1;unfold pyNext;refine cB (qw (oT (name:=Str.ofString "__next__") ty y3 (kv y3 ty Iu ?_ (Ip _))));refine cB (cH (cB (cB ?_)));refine cB (Ap ty (cH (cB (v0 e zZ ?_))));have l:Builtin.Dict_items.ownsTuple "dict_itemiterator"=true:=by decide
 simp only[l,if_true];refine show wpAny _ _ (if(Value.ref d==Value.none)=true then _ else _) _ _ s from(wA (show ¬((Value.ref d==Value.none)=true)from gy))▸cB (cH (cB (tu B C ?_)))
 rw[wA (by simp)];refine cB (cH (cB (wH B C ?_)));rw[wA (by simp)];refine cH ?_;have u:(if((i:Nat):Int)<0 then none else g[((i:Nat):Int).toNat]?)=some j:=by
  rw[wA (),ip];exact y
 show wpAny _ _ (match (if((i:Nat):Int)<0 then none else g[((i:Nat):Int).toNat]?)with|some e=>_|none=>_) _ _ s;rw[u];refine cB (cB (Ap ty (cH (cB (El ty ?_)))));refine show wpAny _ _ (setField (.ref f) 3 (rawInt ((i:Int)+1)) >>= _) _ _ s from cB (oH e (by simp) λk N v=>wpAny_bind (wpAny_holding ?_))
 have m:k.get? f=some (qv r t d (i+1) g.size h J M):=by
  have z:((i+1:Nat):Int)=(i:Int)+1:=by lia
  unfold qv;rw[z];simpa[rawInt]using N
 have n:Shared.TypeIs {s with heap:=k} (.ref f) "dict_itemiterator":=⟨_,m,rfl⟩;refine cB (El n (cB (El n ?_)));have sz:k.objs.size=s.heap.objs.size:=v.1;refine show wpAny _ _ (Builtin.Dict_items.pairFromOwner (.ref f) 6 j.key j.val) _ _ {s with heap:=k}from K9 (s:={s with heap:=k}) m (c.imp id ?_) λD O T U=>?_
 .rintro⟨a,Y,H,oa,z⟩;exact⟨a,Y,H,oa,v.extBut _ _ H z⟩
 .have x:D.get? s.heap.objs.size=some (lN j.key j.val):=by rw[<-sz];exact T
  show wpAny _ _ (ret (.ref k.objs.size)) _ _ _;rw[sz];exact cH ⟨_,zZ,cH (q D O x λb o I z=>U b o I (v.extBut _ _ I z))⟩
def MJ{Q:Option Vl->Sh->Prop}(r:A.handled=none)(G:Goer s.heap f d i g.size h)(L:Lies s.heap d g h)(t:g[i]? =none)
  (q: ∀l,Heap.ExtBut f s.heap l->Q none {s with heap:=l}):wpAny (model P w) A (pyNext (.ref f)) Q E s:=by
 obtain⟨u,v,B,C,e,c⟩:=G;obtain⟨o,n,_,p⟩:=L;have ty:s.TypeIs (.ref f) "dict_itemiterator":=⟨_,e,zZ⟩;unfold pyNext;refine cB (qw (oT (name:=Str.ofString "__next__") ty y3 (kv y3 ty Iu ?_ (Ip _))));refine cB (cH (cB (cB ?_)));refine cB (Ap ty (cH (cB (v0 e zZ ?_))));have j:Builtin.Dict_items.ownsTuple "dict_itemiterator"=true:=by decide
 simp only[j,if_true];refine show wpAny _ _ (if(Value.ref d==Value.none)=true then _ else _) _ _ s from(wA (show ¬((Value.ref d==Value.none)=true)from gy))▸cB (cH (cB (tu n p ?_)))
 rw[wA (by simp)];refine cB (cH (cB (wH n p ?_)));rw[wA (by simp)];refine cH ?_;have k:(if((i:Nat):Int)<0 then none else g[((i:Nat):Int).toNat]?)=none:=by
  rw[wA (),ip];exact t
 show wpAny _ _ (match (if((i:Nat):Int)<0 then none else g[((i:Nat):Int).toNat]?)with|some e=>_|none=>_) _ _ s;rw[k];refine cB (cB (Ap ty (cH ?_)));refine show wpAny _ _ (setField (.ref f) 2 .none >>= _) _ _ s from cB (oH e (by simp) λD H x=>?_)
 refine cB (m:=newExc _ _) ?_;simp only[newExc,newTuple];refine cB (md ?_ (by size_fits));refine cB (m:=firstArgMember _ _) (Ai (a:=Value.none) (by first|rfl|(unfold firstArgMember;rfl)) (wpAny_newObj_type ?_ (by size_fits)));refine Ev (by simpa using r) (wpAny_bind (wpAny_isInstance (T:="StopIteration") (b:=true) ⟨_,Heap.get?_push_size _ zZ,zZ⟩ isSubtype_stop (wpAny_pure ?_)));exact q _ λb o y z=>dM _ (dM _ (x.extBut b o y z))
end
structure PMade(es:Array DictEntry)(lo:Ad)(h:Heap)(as:As):Prop where
 far: ∀a∈as,lo<a
 up:as.Pairwise (· < ·)
 is: ∀(j:Nat) (a:Ad),as[j]? =some a-> ∃en:DictEntry,es[j]? =some en/\h.get? a=some (lN en.key en.val)
def PMade.nil{a:Array DictEntry}{lo:Ad}{h:Heap}:PMade a lo h []:=⟨λ_ z=>(nomatch z),.nil,λ_ _ z=>by simp at z⟩
def PMade.here{c:Array DictEntry}{lo:Ad}{h:Heap}{b:As}(m:PMade c lo h b): ∀a∈b,a<h.objs.size:=λa d=>by
 obtain⟨j,e⟩:=gA.mp d;obtain⟨_,_,g⟩:=m.is j a e;exact dq g
def PMade.keep{c:Array DictEntry}{lo:Ad}{h d:Heap}{f:As}(m:PMade c lo h f)(k: ∀b o,lo<b->h.get? b=some o->d.get? b=some o):PMade c lo d f:=
 ⟨m.far,m.up,λj a e=>by
  obtain⟨i,x,g⟩:=m.is j a e;exact⟨i,x,k a _ (m.far a (cY e)) g⟩⟩
def PMade.more{i:Array DictEntry}{lo a:Ad}{h:Heap}{d:As}{f:DictEntry}(m:PMade i lo h d)(o:lo<a)(new: ∀b∈d,b<a)(x:i[d.length]? =some f)(g:h.get? a=some (lN f.key f.val)):PMade i lo h (d++[a]):=
  ⟨λb k=>by
    rcases dD.mp k with z|z
    · exact m.far b z
    · rw[dw.mp z];exact o,
   jt.mpr ⟨m.up,ul _ _,λb k c p=>by rw[dw.mp p];exact new b k⟩,
   λj b e=>by
    by_cases l:j<d.length
    · rw[fe l]at e
      exact m.is j b e
    · rw[e9 (AR l)]at e
      obtain⟨z,n⟩:=cP.mp e;have r:j-d.length=0:=by simp at z;lia
      have q:j=d.length:=by lia
      subst q;simp at n;subst n;exact⟨f,x,g⟩⟩
section
variable{P:Pg}{w:World}{A:Ar}{R:Result->Sh->Prop}{S I d:Ad}{g:Nat}{a:Array DictEntry}{f:Vl}
abbrev yh(h:Heap)(S:Ad)(b:AV)(c:Nat):Prop:=h.get? S=some {cls:= .type "list",data:= .seq b c}
def Ej(U:A.handled=none)(H:S<I)(Y:d≠S)(dI:d≠I)(aa:a.size<=sizeLine): ∀(r i:Nat) (s:Sh) (h:As) (c:Nat),i+r=a.size->h.length=i->Goer s.heap I d i a.size g->Lies s.heap d a g->
      yh s.heap S (h.map Value.ref).toArray c->PMade a I s.heap h->
      (∀j bs v,bs.length=a.size->PMade a I j bs->yh j S (bs.map Value.ref).toArray v->(∀b o,b≠S->b≠I->s.heap.get? b=some o->j.get? b=some o)->R (.ok (.ret f)) {s with heap:=j})->
      codeAny (model P w) A (.builtin "list.extend.loop" ⟨[.ref S,.ref I,f],[]⟩) R s:=by
  have k:S≠I:=d9 H;intro r
  induction r with
  | zero=>
    intro i s h c hi y G L t M q;refine tm F.entry_extend_loop ?_;rw[vt xQ _];refine show wpAny _ A.in1 (pyNext (.ref I) >>= _) _ _ s from cB (MJ (by simpa using U) G L (Array.getElem?_eq_none ()) λj x=>wpAny_pure ?_)
    exact q j h c () (M.keep λb o l e=>x b o (m9 l) e) (x S _ k t) λb o _ z e=>x b o z e
  | succ r ih=>
    intro i s h c hi y G L t M q;obtain⟨J,N⟩: ∃J,a[i]? =some J:=⟨a[i]'(),mJ ()⟩;have B:I<s.heap.objs.size:=by
      obtain⟨_,_,_,_,e,_⟩:=G;exact dq e
    have C:S<s.heap.objs.size:=dq t;refine tm F.entry_extend_loop ?_;rw[vt xQ _];refine show wpAny _ A.in1 (pyNext (.ref I) >>= _) _ _ s from cB (KL G L N λm G1 p1 u=>?_)
    have n:=u S _ k t;refine show wpAny _ A.in1 (updateSeq S (·.push (Value.ref s.heap.objs.size)) >>= _) _ _ {s with heap:=m}from cB (Bd n rfl (cH ⟨vb xQ _,?_⟩) ?_ ?_)
    · have off: ∀b o,b≠S->m.get? b=some o->(m.update S (Obj.mapSeq (·.push (Value.ref s.heap.objs.size)))).get? b=some o:=λb o z e=>(mC _ _ (fh z)).trans e
      have p:=v4 (Obj.mapSeq (·.push (Value.ref s.heap.objs.size))) n rfl;obtain⟨D,h0,x0,y0⟩:=L;have M1:PMade a I m h:=M.keep λb o l e=>u b o (m9 l) e
      refine ih (i+1) {s with heap:=m.update S (Obj.mapSeq (·.push (Value.ref s.heap.objs.size)))} (h++[s.heap.objs.size]) _ () (by simp[y]) (G1.keep (λo e=>off I o (Ne.symm k) e) λb o e=>?_)
        ⟨D,off d D Y (u d D dI h0),x0,y0⟩ (by simpa[Obj.mapSeq,List.map_append]using p) ?_ λj bs v l' M' E k'=>q j bs v l' M' E λb o O Q e=>k' b o O Q (off b o O (u b o Q e))
      · by_cases T:b=S
        · subst T
          exact⟨_,p⟩
        · exact⟨o,off b o T e⟩
      · exact(M1.keep λb o l e=>off b o (m9 (yT H l)) e).more B M.here (y▸N) (off _ _ (m9 C) p1)
    · simp;lia
    · simp;lia
end
section
variable{P:Pg}{w:World}{A:Ar}{E:VP}{s:Sh}{v d:Ad}{g:Nat}{f:Array DictEntry}
abbrev su(d:Ad):Obj:={cls:= .type "dict_items",data:= .fields #[.ref d]}
def Lies.typeIs{s:Sh}(L:Lies s.heap d f g):s.TypeIs (.ref d) "dict":=let⟨o,h,x,_⟩:=L;⟨o,h,x.1⟩
def Li{Q:VP}(nd:(d==sysModules)=false)(L:Lies s.heap d f g)(q:Q (.ref s.heap.objs.size) {s with heap:=s.heap.push (su d)}):wpAny (model P w) A (call (.builtin "dict.items") [.ref d]) Q E s:=by
 refine call_meetsIn (S:=λ_ R s=>Lies s.heap d f g/\R (.ok (.ret (.ref s.heap.objs.size))) {s with heap:=s.heap.push (su d)}) F.slot_dict_items L.typeIs F.entry_dict_items (F.args_dict_items_1 _) (.of_wp λA R s ⟨L,r⟩=>?_) ⟨L,q⟩;unfold Builtin.«dict.items» Builtin.Dict.noArgs;refine cB (cB (wpAny_notOrdered_dict L.typeIs ?_));refine show wpAny _ _ (pure d) _ _ s from cH (show wpAny _ _ (Builtin.Dict.showsAll d >>= _) _ _ s from ?_)
 have all:Builtin.Dict.showsAll d=pure Unit.unit:=by
  unfold Builtin.Dict.showsAll;rw[nd];rfl
 rw[all];exact cB (cH (cB (md (cH ⟨_,zZ,r⟩))))
def KD{Q:VP}(a:s.heap.get? v=some (su d))(L:Lies s.heap d f g)(q:Q (.ref s.heap.objs.size) {s with heap:=s.heap.push (qv .none false d 0 f.size g .none .none)}):wpAny (model P w) A (pyIter (.ref v)) Q E s:=by
 have ty:s.TypeIs (.ref v) "dict_items":=⟨_,a,zZ⟩;obtain⟨o,b,_,c⟩:=L;refine wx ty F.slot_dict_items_iter (kv F.slot_dict_items_iter ty F.entry_dict_items_iter ?_ (F.args_dict_items_iter_1 _));unfold Builtin.«dict_items.__iter__» Builtin.Dict_items.dictOf Builtin.Dict_items.newIterator;refine cB (cH (cB (cB (pO a zZ (x:= .ref d) zZ (cH (cB (cB (tu b c (cB (wH b c ?_))))))))));refine show wpAny _ _ (newFields "dict_itemiterator" [.none,.bool false,.ref d,rawInt 0,rawInt (f.size:Nat),rawInt (g:Nat),.none,.none]) _ _ s from md (cH ⟨_,zZ,"dict_itemiterator",_,⟨_,fj _ zZ,zZ⟩,y3.lookup,q⟩) (by size_fits)
def M0{Q:Bool->Sh->Prop}(ty:s.TypeIs (.ref v) "dict_items")(q:Q false s):wpAny (model P w) A (Builtin.List.listLengthHint (.ref v)) Q E s:=PySem.W.kdx_hint ty q
def J'{Q:VP}(hh:A.handled=none)(Y:s.heap.get? v=some (su d))(L:Lies s.heap d f g)(H:f.size<=sizeLine)
  (q: ∀j n c k,n.length=f.size->PMade f s.heap.objs.size j n->yh j s.heap.objs.size (n.map Value.ref).toArray c->(∀b o,s.heap.get? b=some o->j.get? b=some o)->Q (.ref s.heap.objs.size) {s with heap:=j,toks:=k}):
  wpAny (model P w) A (call (.type "list") [.ref v]) Q E s:=by
 let S:=s.heap.objs.size
 obtain⟨o,I,x,hd⟩:=id L;have ld:d<S:=dq I;have lv:v<S:=dq Y;refine callType_codes (Q₁:=λp t=>p= .ref S/\t={s with heap:=s.heap.push {cls:= .type "list",data:= .seq #[]}}) F.called_list (F.typeCall_list_1 _) F.entry_list_init (code_list_new _ ⟨rfl,rfl⟩) λp s1 z=>?_;obtain⟨rfl,rfl⟩:=z;have G:yh (s.heap.push {cls:= .type "list",data:= .seq #[]}) S #[] 0:=fj _ rfl;refine⟨⟨_,G,zZ⟩,F.args_list_init_2 _ _,?_⟩;unfold Builtin.«list.__init__» Builtin.List.listItems;refine cB (cB (wpAny_seqItems G zZ (cH ?_)));refine cB (m:=updateSeq S _) (Bd G zZ (cB (wpAny_letGo ?_)));have J:=v4 (Obj.mapSeq (λ_=>(#[]:AV))) G rfl
 let u:=(s.heap.push {cls:= .type "list",data:= .seq #[]}).update S (Obj.mapSeq (λ_=>(#[]:AV)))
 have M: ∀b o,s.heap.get? b=some o->u.get? b=some o:=λb o e=>(mC _ _ (m9 (dq e))).trans (dM _ e);have N:u.objs.size=S+1:=by
  show(Heap.update _ _ _).objs.size=_;simp[Heap.update,Heap.push,S]
 have go: ∀(l:Heap) (c k:Nat),yh l S #[] c->(∀b o,b≠S->(u.push (qv .none false d 0 f.size g .none .none)).get? b=some o->l.get? b=some o)->
   codeAny (model P w) A.in1 (.builtin "list.extend.loop" ⟨[.ref S,.ref u.objs.size,.none],[]⟩) (wants (λr y=>r=Value.none/\Q (Value.ref S) y) E) {s with heap:=l,toks:=k}:=λl c k l2 k2=>by
  have B:S<u.objs.size:=by rw[N];exact oJ _
  have C: ∀b o,s.heap.get? b=some o->l.get? b=some o:=λb o e=>k2 b o (d9 (dq e)) (dM _ (M b o e));refine Ej (by simpa using hh) B (Nat.ne_of_lt ld) (Nat.ne_of_lt (Nat.lt_trans ld B)) H f.size 0 {s with heap:=l,toks:=k} [] c () rfl ⟨_,_,_,_,k2 _ _ (Nat.ne_of_gt B) (Heap.get?_push_size _ rfl),.inl rfl⟩ ⟨o,C d o I,x,hd⟩ l2 .nil λj n c' l' O U k'=>?_;refine⟨zZ,q j n c' k l' ⟨λa ha=>yT B (O.far a ha),O.up,O.is⟩ U λb o e=>?_⟩;have lb:b<S:=dq e;exact k' b o (d9 lb) (d9 (yT lb B)) (C b o e)
 refine show wpAny _ _ (Builtin.List.listExtendWith (.ref S) (.ref v) .none) _ _ _ from ?_
 unfold Builtin.List.listExtendWith;have h:=M v _ Y;refine cB (vU (T:="dict_items") ⟨_,h,zZ⟩ ?_);have no:(Builtin.List.listSameRef (.ref S) (.ref v) || Value.type "dict_items"==Value.type "list" || Value.type "dict_items"==Value.type "tuple")=false:=by
  have z:Builtin.List.listSameRef (.ref S) (.ref v)=false:=by simp[Builtin.List.listSameRef,Nat.ne_of_gt lv]
  rw[z];decide
 rw[no,wA (by decide)];refine cB (KD h ⟨o,M d o I,x,hd⟩ (cB (hG (M0 ⟨_,dM _ h,zZ⟩ ?_))));have i:=dM (qv .none false d 0 f.size g .none .none) J;refine Dl (λ_=>?_) λ_=>cH ⟨vb xQ _,go _ _ _ i λ_ _ _ e=>e⟩;unfold Builtin.List.listTouch Builtin.List.listUpdate;refine cB (nV (cB (cB (m:=updateSeq S _) (Bd i zZ ?_))));have D:=v4 (Obj.mapSeq (·.push Value.none)) i rfl;refine show wpAny _ _ (updateSeq S (·.pop)) _ _ _ from Bd (hz:=by seq_fits) D zZ (cH ⟨vb xQ _,go _ _ _ (v4 (Obj.mapSeq (·.pop)) D zZ) λb o nb e=>?_⟩)
 rw[mC _ _ (fh nb),mC _ _ (fh nb)];exact e
end
def pS(H:Hp):List (Ad×HO)->Hp
 | []=>H
 |p::l=>pS (cA H p.1 p.2) l
theorem Eh: ∀{l:List (Ad×HO)} {H:Hp} {b:Ad},(∀p∈l,b≠p.1)->pS H l b=H b
 | [],_,_,_=>rfl
 |p::l,H,b,n=>by
  show pS (cA H p.1 p.2) l b=_;rw[Eh λq a=>n q (fR _ a),cK (n p (dY ..))]
theorem De: ∀{l:List (Ad×HO)} {H:Hp} {p:Ad×HO},(l.map (·.1)).Nodup->p∈l->pS H l p.1=some p.2
 | q::l,H,p,nd,hp=>by
  obtain⟨a,b⟩:=mE.mp nd
  rcases dZ.mp hp with rfl|hp
  .show pS (cA H p.1 p.2) l p.1=_;rw[Eh λr c z=>a (dh.mpr ⟨r,c,z.symm⟩),cF]
  .exact De (l:=l) b hp
def zD{c d:Type}{F:c->d->Prop}{l:List c}{m:List d}{j:Nat}{a:c}(r:Paired F l m)(e:l[j]? =some a): ∃b,m[j]? =some b/\F a b:=by
 induction r generalizing j with
 |nil=>simp at e
 | cons h _ f=>
  cases j with
  |zero=>
   have z:=gD e;subst z;exact⟨_,zZ,h⟩
  |succ j=>exact f (by simpa using e)
section
variable{X:Cx}
theorem Inv.tracks{a:AO}{c:St}{h:Hp}{s s1:Sh}(I:Inv X a c h s): ∀(l:List (Ad×HO)) (H:Hp),Inv X a c H s1->(∀p∈l,s.heap.objs.size<=p.1/\H p.1=none/\ ∀i,ObjOk X.prog X.w i s1.heap p.1 p.2)->(l.map (·.1)).Nodup->
  Inv X a c (pS H l) s1
 | [],_,d,_,_=>d
 |p::l,H,d,ok,nd=>by
  obtain⟨j,k⟩:=mE.mp nd;obtain⟨f,n,o⟩:=ok p (dY ..);obtain⟨u,m,v,w,r,t⟩:=I.fpOk (b:=p.1) (H':=H) f n;refine Inv.tracks I l _ (d.track n (o _) (dL I.sz f) m r t) (λq g=>?_) k;obtain⟨x,y,z⟩:=ok q (fR _ g);exact⟨x,by rw[cK λe=>j (dh.mpr ⟨q,g,e⟩)];exact y,z⟩
structure Listed(H H':Hp)(kvs:List (List dB×V))(l:Ad)(as:As):Prop where
 new:H l=none
 news: ∀a∈as,H a=none
 out:l∉as
 nd:as.Nodup
 len:as.length=kvs.length
 lst:H' l=some (.lst (as.map .ref))
 is: ∀(j:Nat) (a:Ad),as[j]? =some a-> ∃k v b,kvs[j]? =some (k,v)/\H b=some (.tup (k.map kV))/\H' a=some (.tup [.ref b,v])
 rest: ∀b,b≠l->b∉as->H' b=H b
def yP(v d:Ad):HO:= .ext λh=>h.get? v=some (su d)
def KI:V->List V->Hp->VK->Prop:=λx c H Q=>c=[]/\ ∃a b,x= .ref a/\H a=some (.dT b)/\ ∀v,H v=none->Q (.ref v) (cA H v (yP v a))
def JT:uj X "dict.items" KI:=by
 intro n s p H x r u t Q I b c h;obtain⟨rfl,a,d,rfl,f,q⟩:=h;cases b;cases c;obtain⟨z,g,v,i,o,w,A,j,l,m,_⟩:=I.hok a _ f;refine Li g ⟨o,j,l,m⟩ ⟨.ref s.heap.objs.size,_,I.laid (a:=s.heap.objs.size) (o:=yP s.heap.objs.size a) (t':=s.toks) (λ_ _ q=>dM _ q) (cO _) ?_,zZ,q _ I.fresh⟩;have e:(s.heap.push (su a)).get? s.heap.objs.size=some (su a):=fj _ rfl;exact⟨e,⟨_,e⟩,λB C y k=>k _ y⟩
inductive ir(c:List V)(H:Hp)(Q:VK):Prop|mk:∀v a b,c=[.ref v]->H v=some (yP v a)->H a=some (.dT b)->(∀l e d,Listed H d b l e->Q (.ref l) d)->ir c H Q
def Kg(hc:X.calm=true):kg X (.type "list") ir:=by
 intro za s σ H xs us Q I r h;obtain⟨v,a,t,rfl,hv,ha,q⟩:=h;obtain⟨u,rfl,ru⟩:=j3 r;cases ru;obtain⟨ev,_,_⟩:=I.hok v _ hv;obtain⟨z,na,ys,E,o,es,ep,e1,e2,e3,e4,_⟩:=I.hok a _ ha;have el:es.size=t.length:=by rw[A0 e4,<-pB E]
 refine J' (I.ok.hd hc) ev ⟨o,e1,e2,e3⟩ () λD f c tk ln M lS k=>?_;have I1:Inv X za σ H {s with heap:=D,toks:=tk}:=I.kept k;have big: ∀b,s.heap.objs.size<=b->H b=none:=λb n=>I.hok.fresh n;have nd:f.Nodup:=M.up.imp λz=>d9 z;have A:s.heap.objs.size∉f:=λm=>me _ (M.far _ m);have G: ∀(j:Nat) (b:Ad),f[j]? =some b-> ∃k x y,t[j]? =some (k,x)/\H y=some (.tup (k.map kV))/\ ∃u,RelV x u/\D.get? b=some (lN (.ref y) u):=λj b d=>by
  obtain⟨en,ee,g⟩:=M.is j b d;obtain⟨jl,_⟩:=cP.mp d;obtain⟨⟨k,x⟩,ek⟩: ∃p,t[j]? =some p:=⟨_,cE ()⟩;obtain⟨⟨k',y,u⟩,ey,p1,p2,p3⟩:=zD E ek;rw[entry_at e4,ey]at ee;cases ee;exact⟨k,x,y,ek,p2,u,p3,g⟩
 have w: ∀b,∃o:HO,∀j:Nat,f[j]? =some b-> ∃k x y,t[j]? =some (k,x)/\H y=some (.tup (k.map kV))/\o= .tup [.ref y,x]/\ ∃u,RelV x u/\D.get? b=some (lN (.ref y) u):=λb=>by
  by_cases n:b∈f
  .obtain⟨j,d⟩:=gA.mp n;obtain⟨k,x,y,L,N,u,O,T⟩:=G j b d;refine⟨.tup [.ref y,x],λi ei=>?_⟩;have ij:j=i:=jx (cP.mp d).1 nd |>.mp (d.trans ei.symm)
   subst ij;exact⟨k,x,y,L,N,zZ,u,O,T⟩
  .exact⟨.tup [],λj d=>wC (cY d) n⟩
 let J:Ad->HO:=λb=>Classical.choose (w b)
 have B: ∀(j:Nat) (b:Ad),f[j]? =some b-> ∃k x y,t[j]? =some (k,x)/\H y=some (.tup (k.map kV))/\J b= .tup [.ref y,x]/\ ∃u,RelV x u/\D.get? b=some (lN (.ref y) u):=λj b d=>sm (w b) j d;have C:(f.map λb=>(b,J b)).map (·.1)=f:=by simp[List.map_map,Function.comp_def]
 have U: ∀b∈f,∀Y,ObjOk X.prog X.w Y D b (J b):=λb n Y=>by
  obtain⟨j,d⟩:=gA.mp n;obtain⟨k,x,y,L,N,O,u,T,h5⟩:=B j b d;rw[O];exact⟨by show 2<=sizeLine;decide,[.ref y,u],.cons zZ (.cons T .nil),_,h5,zZ,0,zZ,zZ⟩
 have vs: ∀l:As,Vals (l.map V.ref) (l.map Value.ref):=λl=>by
  induction l with
  |nil=>exact .nil
  |cons x l ih=>exact .cons zZ ih
 have I2:=Inv.tracks (s1:={s with heap:=D,toks:=tk}) I ((s.heap.objs.size,.lst (f.map .ref))::f.map λb=>(b,J b)) H I1 (λp hp=>by
   rcases dZ.mp hp with rfl|hp
   .exact⟨cO _,big _ (cO _),λY=>⟨by rw[cC];lia,_,c,vs f,lS⟩⟩
   .obtain⟨b,n,rfl⟩:=dh.mp hp;exact⟨fQ (M.far b n),big _ (fQ (M.far b n)),U b n⟩) (by
   rw[iG,C];exact mE.mpr ⟨A,nd⟩)
 refine⟨.ref s.heap.objs.size,_,I2,zZ,q _ f _ ⟨big _ (cO _),λb n=>big _ (fQ (M.far b n)),A,nd,(),?_,λj b d=>?_,λb L N=>?_⟩⟩
 .exact De (p:=(s.heap.objs.size,.lst (f.map .ref))) (by rw[iG,C];exact mE.mpr ⟨A,nd⟩) (dY ..)
 .obtain⟨k,x,y,g1,g2,g3,_⟩:=B j b d;refine⟨k,x,y,g1,g2,?_⟩;rw[<-g3];exact De (p:=(b,J b)) (by rw[iG,C];exact mE.mpr ⟨A,nd⟩) (fR _ (dh.mpr ⟨b,cY d,zZ⟩))
 .refine Eh λp hp=>?_
  rcases dZ.mp hp with rfl|hp
  .exact L
  .obtain⟨y,hy,rfl⟩:=dh.mp hp;exact λe=>N (e▸hy)
end
def a4g(b:TW)(c:As):List (List dB×V):=List.zipWith (λp a=>(nk p.1,V.ref a)) b c
def C6{ws:TW}{as:As}{p:cz×cz}{a:Ad}(h:as.length=ws.length):a4g (ws++[p]) (as++[a])=a4g ws as++[(nk p.1,.ref a)]:=by
 unfold a4g;rw[List.zipWith_append h.symm];rfl
def IS{a:TW}{b:As}(h:b.length=a.length):(a4g a b).length=a.length:=by
 unfold a4g;rw[List.length_zipWith];lia
def Nz{b:TW}{c:As}{j:Nat}{p:cz×cz}{a:Ad}(d:b[j]? =some p)(e:c[j]? =some a):(a4g b c)[j]? =some (nk p.1,.ref a):=by
 unfold a4g;rw[List.getElem?_zipWith,d,e]
theorem u4: ∀{b:TW} {c:As} {x:cz},x∉b.map (·.1)->iQ (a4g b c) (nk x)=none
 | [],_,_,_=>rfl
 |_::_,[],_,_=>rfl
 |p::b,a::c,x,h=>by
  have d: ¬(nk p.1:List dB)=nk x:=λz=>h (dh.mpr ⟨p,dY ..,Bo z⟩);exact(xR (p:=(nk p.1,V.ref a)) (r:=a4g b c) d).trans (u4 λz=>h (fR _ z))
theorem zU: ∀{c:TW} {d:As} {j:Nat} {p:cz×cz} {a:Ad},(c.map (·.1)).Nodup->c[j]? =some p->d[j]? =some a->iQ (a4g c d) (nk p.1)=some (.ref a)
 |q::c,b::d,0,p,a,_,e,f=>by
  cases e;cases f;exact zJ (p:=(nk q.1,V.ref b)) (r:=a4g c d) rfl
 |q::c,b::d,j+1,p,a,nd,e,f=>by
  obtain⟨h,i⟩:=mE.mp nd;have g:c[j]? =some p:=by simpa using e
  have n: ¬(nk q.1:List dB)=nk p.1:=λz=>h (dh.mpr ⟨p,cY g,(Bo z).symm⟩);exact(xR (p:=(nk q.1,V.ref b)) (r:=a4g c d) n).trans (zU i g (by simpa using f))
 | [],_,_,_,_,_,e,_=>by simp at e
 |_::_,[],_,_,_,_,_,f=>by simp at f
structure WordsAt(H:Hp)(D:Ad)(ws:TW)(as:As):Prop where
 len:as.length=ws.length
 dict:H D=some (.dT (a4g ws as))
 list: ∀(j:Nat) (a:Ad) (p:cz×cz),as[j]? =some a->ws[j]? =some p->H a=some (.lst (p.2.map nv))
def WordsAt.same{H b:Hp}{D:Ad}{c:TW}{d:As}(W:WordsAt H D c d)(g:Same H b):WordsAt b D c d:=⟨W.len,g _ _ W.dict,λj a p e f=>g _ _ (W.list j a p e f)⟩
def WordsAt.word{H:Hp}{D:Ad}{b:TW}{c:As}{p:cz×cz}(W:WordsAt H D b c)(nd:(b.map (·.1)).Nodup)(f:p∈b): ∃a,iQ (a4g b c) (nk p.1)=some (.ref a)/\H a=some (.lst (p.2.map nv)):=by
 obtain⟨j,e⟩:=gA.mp f;obtain⟨g,_⟩:=cP.mp e;obtain⟨a,d⟩: ∃a,c[j]? =some a:=⟨_,cE (by rw[W.len];exact g)⟩;exact⟨a,zU nd e d,W.list j a p d e⟩
def WordsAt.put{H:Hp}{D l:Ad}{c:TW}{e:As}{p:cz×cz}(W:WordsAt H D c e)(f:H l=some (.lst (p.2.map nv))):WordsAt (cA H D (.dT (a4g c e++[(nk p.1,.ref l)]))) D (c++[p]) (e++[l]):=by
 have g: ∀{a:Ad} {k:List V},H a=some (.lst k)->a≠D:=λh=>nE h W.dict;refine⟨by simp[W.len],by rw[cF,C6 W.len],λj a q d b=>?_⟩;by_cases i:j<c.length
 .rw[fe (by rw[W.len];exact i)]at d;rw[fe i]at b;have z:=W.list j a q d b;rw[cK (g z)];exact z
 .rw[e9 (by rw[W.len];lia)]at d;rw[e9 ()]at b;have z:j-c.length=0:=by
   have:=(cP.mp b).1;simp at this;lia
  rw[W.len,z]at d;rw[z]at b;cases d;cases b;rw[cK (g f)];exact f
def noT(H:Hp):Hp:=λa=>match H a with
 |some (.tbl _)=>none
 |o=>o
def qm{H:Hp}{a:Ad}{o:HO}(h:H a=some o)(n: ∀b,o≠ .tbl b):noT H a=some o:=by
 unfold noT;rw[h];cases o<;>first|rfl|exact wC zZ (n _)
def Pr:HO->Bool
 | .tbl _=>true
 |_=>false
def nU{H:Hp}{a:Ad}{o:HO}(h:H a=some o)(d:Pr o=false:=by rfl):noT H a=some o:=qm h λb e=>by subst e;cases d
def u8{H:Hp}{a:Ad}{o:HO}(h:noT H a=some o):H a=some o/\ ∀b,o≠ .tbl b:=by
 unfold noT at h;split at h
 .cases h
 .rename_i n
  exact⟨h,λb z=>n b (by rw[h,z])⟩
def CF{H:Hp}{a:Ad}(h:H a=none):noT H a=none:=by
 unfold noT;rw[h]
def Keeps(H a:Hp):Prop:=Same (noT H) a
def Same.keeps{H b:Hp}(g:Same H b):Keeps H b:=λa o h=>g a o (u8 h).1
def Keeps.refl(H:Hp):Keeps H H:=(Same.refl H).keeps
def Keeps.trans{H d e:Hp}(a:Keeps H d)(b:Keeps d e):Keeps H e:=λc o h=>b c o (qm (a c o h) (u8 h).2)
def TabOk(a:Str)(pos:Pos)(H:Hp)(T:Ad):Prop:=H T=some (.tbl #[])∨ ∃b,H T=some (.tbl (lQ pos b))/\H b=some (lG b a)
def TabOk.same{a:Str}{pos:Pos}{H b:Hp}{T:Ad}(t:TabOk a pos H T)(g:Same H b):TabOk a pos b T:=by
 rcases t with t|⟨c,d,e⟩
 .exact .inl (g _ _ t)
 .exact .inr ⟨c,g _ _ d,g _ _ e⟩
def DefAt(K:Q5)(x:Str)(st:Stmt)(f:Ad)(b:Fd)(g e:Vl):Prop:=
 PySem.W.codeIn K e x=true/\(∃kV a pm h i,b=PySem.W.fnOf x x (mW st) (ka st) (cZ st) g kV a pm h e i)/\ ∃c d sl,K.lookup f=some ⟨c,d,.func b,sl⟩
section
variable{P:Pg}{w:World}{K:Q5}{mg:SV}{a:Heap}{x:Str}{st:Stmt}{f:Ad}{l:Fd}{n m:Vl}{N i:Ss}{k:Nat}{g:Sp}
def MO(P:Pg)(w:World)(K:Q5)(mg:SV)(a:Heap)(x:Str)(st:Stmt)(f:Ad)(m:Vl)(N:Ss)(k:Nat)(g:Sp):Prop:=
 ∀A b s H c Q E,g c H Q E->Room k (A.deeper (envOfC x (cZ st) s.heap.objs.size f m))-> ∃t:TS,t ⟨λ_ d=>Q .non d,Q,λ_ _=>False,λ_ _=>False⟩ (start N c) H/\PSs (td de P w K mg a N x (cZ st) f m A b s H E).nox (ka st) t
def DefAt.fnOk(d:DefAt K x st f l n m)(p:FnScope N i (cZ st))(len: ∀j H Q E,g j H Q E->j.length=i.length)(b:MO P w K mg a x st f m N k g):FnOk P w K mg a de (k+1) f l i g:=by
 obtain⟨c,⟨kV,r,pm,v,y,rfl⟩,_,_,_,lk⟩:=d;refine IZ lk c p len λA e s H j Q E u o=>?_;obtain⟨t,q,h⟩:=b A e s H j Q E o u;exact⟨t,h.nox,q⟩
def AX(P:Pg)(w:World)(K:Q5)(mg:SV)(a:Heap)(x:Str)(k:Nat)(i:Ss)(g:Sp)(b:List V):Prop:=
 ∃f l c,FnOk P w K mg a de k f l i g/\mg x=some (.ref f)/\PySem.W.keepIn K (.ref f)=true/\Binds K l i c/\Vals b c
def GW{X:Cx}{x y:Str}{k j:Nat}{i:Ss}{g:Sp}{c:Ad}{b:List V}{e:Expr}{d:List Expr}{t:TA}{p pos:Pos}(s:AX X.prog X.w X.K X.mg X.base x k i g b)(u:Room k X.A)(v:Gl X x)(z:X.N[j]? =some y)(A:X.env.cells.lookup y=some c)
  (h:X.env.scope.names.lookup y=some .cell) (o:X.fn y=true) (B:PA X (e::d) t) (q:(x==("__debug__":Str))=false:=by decide) (C:starEach (e::d) X.env=(false,eval e X.env)::starEach d X.env:=by rfl)
  (r:(backTo pos (starEach d X.env)).any (·.1)=false:=by rfl):PE X (.Call (.Name x p) (e::d) [] pos) (G9 g b j c t):=by
 obtain⟨f,l,I,F,D,E,G,H⟩:=s;exact OZ F u v D E G H z A h o B q C r
end
section
variable{X:Cx}
def Hm(d e:TE):TE:=λc H Q=> ∀p,H p=none->d c (cA H p (.dT [])) λx f=>e c f λy a=>a p=some (.dT [])/\ ∃b k,x= .ref b/\a b=some (.tup (k.map kV))/\Q (.ref p) (cA a p (.dT [(k,y)]))
def Mw{k v:Expr}{A B:TE}{pos:Pos}(hu:X.A.units+1<cLine)(D:PE X k A)(E:PE X v B):PE X (.Dict [some k] [v] pos) (Hm A B):=by
 intro J s L H Q I q;have M:=I.hok.fresh (cO s.heap.objs.size);have N:=I.laid (a:=s.heap.objs.size) (o:= .dT []) (h':=s.heap.push {cls:= .type "dict",data:= .dict #[]}) (t':=s.toks) (λ_ _ q=>dM _ q) (cO _) (Ge s.heap I.big);have pairs:=LW (X:=X) (pos:=pos) D E NI;have O:=q s.heap.objs.size M;rw[arm_eval_Dict];refine cB (vY ?_);have d:(evalEachOpt [some k] X.env).zip ((evalEach [v] X.env).map λv=>do let x <-v;standAt pos;pure x)=(pairTrees [some k] [v] X.env pos).map λp=>(some p.1,p.2):=rfl;rw[d,dictDisplay_pairs _ (by intro z;cases z) (by show 1<17;decide)];refine cB ?_;unfold subDict;refine cB (Bt (cB (hG ?_)));rw[wB (by show 1<=15;decide)]
 let G:List (V×V)->Hp->Prop:=λf i=>match f with| [(x,y)]=>i s.heap.objs.size=some (.dT [])/\ ∃b k,x= .ref b/\i b=some (.tup (k.map kV))/\Q (.ref s.heap.objs.size) (cA i s.heap.objs.size (.dT [(k,y)]))|_=>False
 refine cB (cT (pairs J _ L _ G N O) λT s2 ⟨f,i,l,m,g⟩=>?_);obtain⟨x,y,rfl⟩: ∃x y,f=[(x,y)]:=by
  cases f with
  |nil=>exact wE g
  |cons p f=>
   cases f with
   |nil=>exact⟨p.1,p.2,zZ⟩
   |cons _ _=>exact wE g
 obtain⟨e,b,c,rfl,n,U⟩:=g;obtain⟨u,r,rfl,Y,rr⟩: ∃u r,T=[(u,r)]/\RelV (.ref b) u/\RelV y r:=by
  cases m with
  | @cons _ q _ qs h t=>
   cases t;exact⟨q.1,q.2,zZ,h.1,h.2⟩
 cases Y;obtain⟨z,hd,xs,kt,dd⟩:=Ei l.hok e;cases kt;refine hG ?_;simp only[List.forIn_cons,List.forIn_nil];refine cB (cB (cB (wpAny_dictSet_heap (show X.A.units<cLine by lia) (wn l.hok n) dd (λh' w hs=>?_) (by show 0<=_;exact jj _))));refine cH (cH (cH (cH ?_)));obtain⟨o,es,ep,C,h2,h3,h4,_,h5⟩:=w;have j:cA i s.heap.objs.size (.dT [(c,y)]) b=some (.tup (c.map kV)):=by
  rw[cK (nE n e)];exact n
 have ok:ObjOk X.prog X.w (cA i s.heap.objs.size (.dT [(c,y)])) h' s.heap.objs.size (.dT [(c,y)]):=⟨by show 1<=sizeLine;decide,hd,_,.cons ⟨zZ,j,rr⟩ .nil,o,es,ep,C,h2,h3,h4,h5⟩;exact cH ⟨.ref s.heap.objs.size,_,Ck l (by rw[e];exact True.intro) hs ⟨o,C⟩ ok,rfl,U⟩
end
inductive fA(b:List V)(H:Hp)(Q:VK)(a:XK):Prop|mk:∀d:Ad,b=[.ref d,.non]->Q .non H->fA b H Q a
inductive eZ(G:Hp->Prop)(U:LN)(L:Nat)(g:cz->Nat->List Nat)(b:List V)(H:Hp)(Q:VK)(a:XK):Prop|mk:∀(t:Ad) (x:cz) (l:Nat),b=[.ref t,nv l]->G H->H t=some (.tup (x.map nv))->x∈U->l<L->ww H ((g x l).map nv) Q->eZ G U L g b H Q a
def ThAt(H:Hp)(l:Ad)(b:TW):Prop:= ∃a:As,H l=some (.lst (a.map .ref))/\a.length=b.length/\ ∀(j:Nat) (t:Ad) (p:cz×cz),a[j]? =some t->b[j]? =some p->H t=some (.tup (p.1.map nv))
def ThAt.same{H a:Hp}{l:Ad}{b:TW}(h:ThAt H l b)(g:Same H a):ThAt a l b:=by
 obtain⟨c,d,e,f⟩:=h;exact⟨c,g _ _ d,e,λj t p i k=>g _ _ (f j t p i k)⟩
def ThAt.more{H:Hp}{l t:Ad}{c:TW}{d:As}{p:cz×cz}(i:H l=some (.lst (d.map .ref)))(f:d.length=c.length)(k: ∀(j:Nat) (t:Ad) (p:cz×cz),d[j]? =some t->c[j]? =some p->H t=some (.tup (p.1.map nv)))(ht:H t=some (.tup (p.1.map nv))):
  ThAt (cA H l (.lst (d.map .ref++[.ref t]))) l (c++[p]):=by
 have g: ∀{a:Ad} {m:List V},H a=some (.tup m)->a≠l:=λh=>nE h i;refine⟨d++[t],by rw[cF,eI];rfl,by simp[f],λj a q e b=>?_⟩;by_cases n:j<c.length
 .rw[fe ()]at e;rw[fe n]at b;have z:=k j a q e b;rw[cK (g z)];exact z
 .rw[e9 ()]at e;rw[e9 ()]at b;have z:j-c.length=0:=by
   have:=(cP.mp b).1;simp at this;lia
  rw[f,z]at e;rw[z]at b;cases e;cases b;rw[cK (g ht)];exact ht
structure Srch(H0 H:Hp)(D wa fa:Ad)(ts:As)(ws wv fo:TW)(as:As):Prop where
 g:Same H0 H
 nD:H0 D=none
 nF:H0 fa=none
 W:WordsAt H D ws as
 wl:H wa=some (.lst (ts.map .ref))
 wt: ∀(j:Nat) (t:Ad) (p:cz×cz),ts[j]? =some t->wv[j]? =some p->H t=some (.tup (p.1.map nv))
 foll:ThAt H fa fo
 wf:wa≠fa
 fas:fa∉as
 new: ∀b∈as,H0 b=none
def Srch.same{a H b:Hp}{D c fa:Ad}{d:As}{e f g:TW}{h:As}(S:Srch a H D c fa d e f g h)(k:Same H b):Srch a b D c fa d e f g h:=
 ⟨S.g.trans k,S.nD,S.nF,S.W.same k,k _ _ S.wl,λj t p i l=>k _ _ (S.wt j t p i l),S.foll.same k,S.wf,S.fas,S.new⟩
def Srch.more{k H:Hp}{D n fa l t:Ad}{v:As}{f w g:TW}{i d:As}{p:cz×cz}(S:Srch k H D n fa v f w g i)(A:H l=some (.lst (p.2.map nv)))(x:l≠fa)(B:k l=none)(ht:H t=some (.tup (p.1.map nv)))
  (o:H fa=some (.lst (d.map .ref))) (C:d.length=g.length) (E: ∀(j:Nat) (t:Ad) (p:cz×cz),d[j]? =some t->g[j]? =some p->H t=some (.tup (p.1.map nv))):
  Srch k (cA (cA H D (.dT (a4g f i++[(nk p.1,.ref l)]))) fa (.lst (d.map .ref++[.ref t]))) D n fa v (f++[p]) w (g++[p]) (i++[l]):=by
 have y:fa≠D:=nE o S.W.dict;have r: ∀{a:Ad} {s:List V},H a=some (.tup s)->a≠D:=λh=>nE h S.W.dict;have G:n≠D:=nE S.wl S.W.dict;have I: ∀{a:Ad} {s:List V},H a=some (.tup s)->a≠fa:=λh=>nE h o;have u:=S.W.put (l:=l) (p:=p) A;have J:(cA H D (.dT (a4g f i++[(nk p.1,.ref l)]))) fa=some (.lst (d.map .ref)):=by rw[cK y];exact o
 refine⟨gR (gR S.g S.nD) S.nF,S.nD,S.nF,⟨u.len,?_,λj a q c e=>?_⟩,?_,λj a q c e=>?_,?_,S.wf,?_,λb L=>(dD.mp L).elim (S.new b) λm=>by rw[dw.mp m];exact B⟩
 .rw[cK (fh y)];exact u.dict
 .have M:a≠fa:=λz=>by
   subst z
   rcases dD.mp (cY c)with m|m
   .exact S.fas m
   .exact x (dw.mp m).symm
  rw[cK M];exact u.list j a q c e
 .rw[cK S.wf,cK G];exact S.wl
 .have z:=S.wt j a q c e;rw[cK (I z),cK (r z)];exact z
 .refine ThAt.more J C (λj a q c e=>?_) ?_
  .have z:=E j a q c e;rw[cK (r z)];exact z
  .rw[cK (r ht)];exact ht
 .intro m
  rcases dD.mp m with m|m
  .exact S.fas m
  .exact x (dw.mp m).symm
section
variable{X:Cx}{n:Hp}{a st D r fa:Ad}{s:Fd}{u:Ss}{o:cz}{L:Nat}{U:LN}{g:cz->Nat->List Nat}
abbrev Gj(X:Cx):TS:=oi (oE (Gu X 2 (mN (dR 7) (mN (dR 8) lZ))) (iE 9)) (ye (tB (HG (dR 9) (dR 4)))
 (oi (Fz (dR 4) (dR 9) (yB (nL X.K) (Hx (dR 4) (dR 7)) (ym (mN (dR 8) lZ)))) (oi (zW (Bi fA [] E0 (mN (dR 4) (mN (dR 3) lZ)))) (zW (Af X.K "list" i7 (dR 6) (mN (dR 9) lZ))))) F8)
def Kw{d i j:Nat}{k M I:TW}{as ts:As}{y:Ad}{t:cz×cz}{H:Hp}{En:Ends}{o9:Option V}(hr:Room 5 X.A)(N:n st=some (jk st s))(h0:o∈U)(hU: ∀x∈U,∀l,l<L->g x l∈U)(few:U.length<=4000)
  (hF:FnOk X.prog X.w X.K X.mg X.base de 5 st s u (eZ (Same n) U L g)) (hB:Binds X.K s u []) (B:Bfs g L o d k M I i j) (ht:M[i]? =some t) (hj:j<L) (hd:d+1<=k.length) (S:Srch n H D r fa ts k M I as) (O:H y=some (.tup (t.1.map nv)))
  (next: ∀C E ab H' v,Bfs g L o d C M E i (j+1)->Srch n H' D r fa ts C M E ab->C.length+I.length=k.length+E.length->H' y=some (.tup (t.1.map nv))->En.nx [some (.ref a),some (nv L),some (.ref st),some .non,some (.ref D),some (.ref r),some (.ref fa),some (.ref y),some (nv j),some v] H'):
  Gj X En [some (.ref a),some (nv L),some (.ref st),some .non,some (.ref D),some (.ref r),some (.ref fa),some (.ref y),some (nv j),o9] H:=by
 have tw:=(B.wave t (cY ht)).1;have tU:t.1∈U:=by
  obtain⟨r1,r2⟩:=B.run t tw;rw[<-r2];exact v5 h0 hU t.2 r1
 have ag:k.length<=4000:=by
  have z:(k.map (·.1)).length<=U.length:=oF B.keys λx hx=>by
   obtain⟨p,w,rfl⟩:=dh.mp hx;obtain⟨r1,r2⟩:=B.run p w;rw[<-r2];exact v5 h0 hU p.2 r1
  rw[cC]at z;lia
 refine⟨_,zZ,st,s,zZ,S.g _ _ N,_,zZ,_,zZ,S.g _ _ N,5,u,_,hF,hr,hB,y,t.1,j,zZ,S.g,O,tU,hj,λfn H1 g1 J=>?_⟩;have A:=S.same g1;have m:=g1 _ _ O;refine⟨_,zZ,_,zZ,D,_,zZ,DGet.t A.W.dict (by rw[j9];exact J),_,zZ,?_⟩;by_cases Q:g t.1 j∈k.map (·.1)
 .obtain⟨p,w,e⟩:=dh.mp Q;obtain⟨c,v1,_⟩:=A.W.word B.keys w;rw[<-e,v1];rw[wA (by simp)];exact next k I as H1 _ (B.old ht Q) A zZ m
 .rw[u4 Q];refine fH ?_;obtain⟨tw,tl⟩:=B.wave t (cY ht);obtain⟨c,v1,v2⟩:=A.W.word B.keys tw;have dg:DGet H1 D (.ref y) (some (.ref c)):=v1▸DGet.t A.W.dict (by rw[j9];exact m);refine⟨_,zZ,_,zZ,D,_,zZ,dg,_,zZ,by show 1<=sizeLine;decide,λp w=>?_⟩;have k2:=cM w (.lst [nv j]);refine⟨c,p,_,_,zZ,zZ,Q3 (k2 _ _ v2),Q3 cF,by rw[cC,tl,dz];show d+1<=_;lia,λl hl=>?_⟩;have k3:=k2.trans (cM hl (.lst (t.2.map nv++[nv j])));have G:=A.same k3;have e3:=k3 _ _ J;have T:cA (cA H1 p (.lst [nv j])) l (.lst (t.2.map nv++[nv j])) l=some (.lst ((t.2++[j]).map nv)):=by rw[cF,eI];rfl
  have b:=k3 _ _ m;obtain⟨tf,Y,f2,f3⟩:=G.foll;have lf:l≠fa:=λz=>by
   obtain⟨_,q1,_⟩:=A.foll;have q2:=k2 _ _ q1;rw[<-z,hl]at q2;cases q2
  generalize cA (cA H1 p (.lst [nv j])) l (.lst (t.2.map nv++[nv j]))=H3 at G e3 T b Y f3⊢;refine⟨_,zZ,_,zZ,D,_,zZ,DPut.t G.W.dict (by rw[j9];exact e3) (by rw[IS G.W.len,dz];lia),?_⟩;rw[Ex _ (u4 Q)];have fD:fa≠D:=nE Y G.W.dict;have ae:y≠D:=nE b G.W.dict;have af:y≠fa:=nE b Y;have aa:(cA H3 D (.dT (a4g k as++[(nk (g t.1 j),.ref l)]))) fa=some (.lst (tf.map .ref)):=by rw[cK fD];exact Y
  have fl:tf.length<=4000:=by
   have z:(I.map (·.1)).length<=k.length:=by
    rw[<-cC (f:=(·.1)) (as:=k)];refine oF ?_ λx hx=>?_
    .refine(wG.mpr (B.fup.imp_of_mem λ{p q} w hq h z=>?_));have r1:=(B.run p (B.foll p w).1).2;have r2:=(B.run q (B.foll q hq).1).2;obtain⟨i1,J⟩:=gA.mp (B.foll p w).1;obtain⟨i2,e2⟩:=gA.mp (B.foll q hq).1;have ii:i1=i2:=(jx (by rw[cC];exact(cP.mp J).1) B.keys).mp (by rw[cV,cV,J,e2];exact dN some z);subst ii;rw[J]at e2;cases e2;exact AD h
    .obtain⟨p,w,rfl⟩:=dh.mp hx;exact dh.mpr ⟨p,(B.foll p w).1,zZ⟩
   rw[cC]at z;lia
  refine⟨_,zZ,_,zZ,D,zZ,_,zZ,.inl ⟨zZ,_,Q3 aa⟩,_,zZ,fa,_,_,zZ,zZ,aa,by rw[cC,dz];lia,?_⟩;exact next (k++[(g t.1 j,t.2++[j])]) (I++[(g t.1 j,t.2++[j])]) (as++[l]) _ _ (B.new ht hj Q) (G.more (p:=(g t.1 j,t.2++[j])) T lf ((A.g.trans k2).free hl) e3 Y f2 f3) (by simp;lia) (by rw[cK af,cK ae];exact b)
abbrev GI(X:Cx):TS:=t7 (HH X.K (dR 5)) (iE 7) (t7 (Ff (mN (dR 1) lZ)) (iE 8) (Gj X))
def K7{d:Nat}{b f:TW}{C y:As}{H:Hp}{En:Ends}{A k m:Option V}(hr:Room 5 X.A)(Q:n st=some (jk st s))(h0:o∈U)(hU: ∀x∈U,∀l,l<L->g x l∈U)(few:U.length<=4000)(aa:L<=4000)
  (hF:FnOk X.prog X.w X.K X.mg X.base de 5 st s u (eZ (Same n) U L g)) (hB:Binds X.K s u []) (B:Bfs g L o d b f [] 0 0) (hd:d+1<=b.length) (S:Srch n H D r fa y b f [] C) (lt:y.length=f.length)
  (next: ∀c e h q A k m,Bfs g L o d c f e f.length 0->Srch n q D r fa y c f e h->c.length=b.length+e.length->En.nx [some (.ref a),some (nv L),some (.ref st),some .non,some (.ref D),some (.ref r),some (.ref fa),A,k,m] q):
  GI X En [some (.ref a),some (nv L),some (.ref st),some .non,some (.ref D),some (.ref r),some (.ref fa),A,k,m] H:=by
 let Pv:Nat->L2.St->Hp->Prop:=λi w q=> ∃c e h A k m,Bfs g L o d c f e i 0/\Srch n q D r fa y c f e h/\c.length=b.length+e.length/\
  w=[some (.ref a),some (nv L),some (.ref st),some .non,some (.ref D),some (.ref r),some (.ref fa),A,k,m]
 refine⟨_,zZ,r,zZ,⟨_,Q3 S.wl⟩,pK (xs:=y.map .ref) Pv ⟨b,[],C,A,k,m,B,S,by simp,zZ⟩ (λi w q _ p=>?_) (λi x w q hx p=>?_) (λw q p=>?_)⟩
 .obtain⟨_,_,_,_,_,_,_,E,_⟩:=p;exact Q3 E.wl
 .obtain⟨c,e,h,p7,T,Y,N,E,l1,rfl⟩:=p;rw[cV]at hx;obtain⟨th,G,rfl⟩:=eU.mp hx;obtain⟨hi,_⟩:=cP.mp G;obtain⟨t,ht⟩: ∃t,f[i]? =some t:=⟨_,cE ()⟩
  let Pj:Nat->L2.St->Hp->Prop:=λj w H2=> ∃c e h k m,Bfs g L o d c f e i j/\Srch n H2 D r fa y c f e h/\c.length=b.length+e.length/\
   w=[some (.ref a),some (nv L),some (.ref st),some .non,some (.ref D),some (.ref r),some (.ref fa),some (.ref th),k,m]
  refine⟨_,zZ,(L:Int),zZ,(),(),wK Pj ⟨c,e,h,T,Y,N,E,l1,zZ⟩ (λj w H2 hj p=>?_) (λw H2 p=>?_)⟩
  .obtain⟨I,J,M,q8,q9,B2,O,l2,rfl⟩:=p;have z:(0:Int)+((j:Nat):Int)=((j:Nat):Int):=by lia
   rw[z];refine Kw (t:=t) hr Q h0 hU few hF hB B2 ht (by simpa using hj) () O (O.wt i th t G ht) λw3 f3 a3 H3 v B3 S3 l3 _=>⟨w3,f3,a3,_,_,B3,S3,(),zZ⟩
  .obtain⟨I,J,M,q8,q9,B2,O,l2,rfl⟩:=p;exact⟨I,J,M,_,_,_,Bfs.next (by simpa using B2) ht,O,l2,zZ⟩
 .obtain⟨c,e,h,p7,T,Y,N,E,l1,rfl⟩:=p;rw[cC,lt]at N;exact next c e h q p7 T Y N E l1
abbrev Nl(X:Cx):TS:=oi (oE (Hm (dR 0) (ym lZ)) (iE 4)) (oi (zW (Bi fA [] E0 (mN (dR 4) (mN (dR 3) lZ)))) (oi (oE (ym (mN (dR 0) lZ)) (iE 5))
 (oi (FS (λd b Q=>dR 5 d b λx c=> ∃k,se X.K x c k/\Q k c) (oi (oE (ym lZ) (iE 6)) (oi (GI X) (oE (dR 6) (iE 5))))) (xo (dR 4)))))
def JN{d i j:Nat}{b c e:TW}(h:o∈U)(k: ∀x∈U,∀l,l<L->g x l∈U)(B:Bfs g L o d b c e i j):b.length<=U.length:=by
 rw[<-cC (f:=(·.1)) (as:=b)];exact oF B.keys λx m=>by
  obtain⟨p,q,rfl⟩:=dh.mp m;obtain⟨t,v⟩:=B.run p q;rw[<-v];exact v5 h k p.2 t
def OY{En:Ends}(hr:Room 5 X.A)(ha:n a=some (.tup (o.map nv)))(T:n st=some (jk st s))(h0:o∈U)(hU: ∀x∈U,∀l,l<L->g x l∈U)(few:U.length<=4000)(E:L<=4000)
  (hF:FnOk X.prog X.w X.K X.mg X.base de 5 st s u (eZ (Same n) U L g)) (hB:Binds X.K s u []) (q: ∀D f k C,Same n C->WordsAt C D f k->(∀b∈D::k,n b=none)->Told g L o f->En.rt (.ref D) C):
  Nl X En [some (.ref a),some (nv L),some (.ref st),some .non,none,none,none,none,none,none] n:=by
 intro D M;have Y:=cM M (.dT []);refine⟨_,zZ,by show 0<=sizeLine;decide,λl N=>?_⟩;have kl:=cM N (.lst []);refine⟨kl _ _ cF,a,nk o,zZ,by rw[j9];exact(Y.trans kl) _ _ ha,?_⟩;have lD:l≠D:=λz=>by
  subst z;rw[cF]at N;cases N
 have W0:WordsAt (cA (cA (cA n D (.dT [])) l (.lst [])) D (.dT [(nk o,.ref l)])) D [(o,[])] [l]:=⟨zZ,cF,λj b p v G=>by
  cases j with
  |zero=>
   cases v;cases G;rw[cK lD,cF];rfl
  |succ j=>simp at v⟩
 have g0:Same n (cA (cA (cA n D (.dT [])) l (.lst [])) D (.dT [(nk o,.ref l)])):=gR (Y.trans kl) M;generalize cA (cA (cA n D (.dT [])) l (.lst [])) D (.dT [(nk o,.ref l)])=H1 at W0 g0⊢;refine⟨_,zZ,_,zZ,D,zZ,_,zZ,by show 1<=sizeLine;decide,λr hw=>?_⟩;have kw:=cM hw (.lst [.ref a])
 let Wv:Nat->L2.St->Hp->Prop:=λm σ H=> ∃(d:Nat) (f y:TW) (k:As) (r:Ad) (i:As) (o6 o7 o8 o9:Option V),Bfs g L o d f y [] 0 0/\WordsAt H D f k/\H r=some (.lst (i.map .ref))/\(∀(j:Nat) (t:Ad) (p:cz×cz),i[j]? =some t->y[j]? =some p->H t=some (.tup (p.1.map nv)))/\i.length=y.length/\Same n H/\(∀b∈k,n b=none)/\
   (y≠[]->d+1<=f.length)/\m=2 * (U.length-f.length)+(if y=[]then 0 else 1)/\σ=[some (.ref a),some (nv L),some (.ref st),some .non,some (.ref D),some (.ref r),o6,o7,o8,o9]
 refine⟨Wv,⟨_,0,[(o,[])],[(o,[])],[l],r,[a],none,none,none,none,Bfs.start,W0.same kw,cF,?_,zZ,g0.trans kw,λb hb=>(by rw[dw.mp hb];exact Y.free N),λ_=>cO _,zZ,zZ⟩,λm σ H P=>?_⟩
 .intro j t p v G;cases j with
  |zero=>
   cases v;cases G;exact(g0.trans kw) _ _ ha
  |succ j=>simp at v
 .obtain⟨d,f,y,k,r,i,o6,o7,o8,o9,B,W,wl,wt,lt,gg,nw,A,hm,rfl⟩:=P;refine⟨_,zZ,!(i.map V.ref).isEmpty,.inl ⟨_,Q3 wl,zZ⟩,?_⟩;by_cases c:y=[]
  .subst c;have e:i=[]:=pZ.mp lt;subst e;rw[wA (by simp)];exact⟨_,zZ,q D f k H gg W (λb hb=>(dZ.mp hb).elim (λe=>e▸M) (nw b)) B.told⟩
  .have ne:i≠[]:=λz=>c (pZ.mp (by rw[<-lt,z];rfl));have c1:(!(i.map V.ref).isEmpty)=true:=by
    cases i with
    |nil=>exact wC zZ ne
    |cons=>rfl
   rw[c1];refine fH ?_;refine⟨λI C=> ∃m',m'<m/\Wv m' I C,λI C h=>h,by show 0<=sizeLine;decide,λfa w=>?_⟩;have O:=cM w (.lst []);have aa:fa∉k:=λm=>by
    obtain⟨j,e⟩:=gA.mp m;obtain⟨hj,_⟩:=cP.mp e;have z:=W.list j fa _ e (cE (by rw[<-W.len];exact hj));rw[w]at z;cases z
   have S:Srch n (cA H fa (.lst [])) D r fa i f y [] k:=⟨gg.trans O,M,gg.free w,W.same O,O _ _ wl,λj t p v G=>O _ _ (wt j t p v G),⟨[],cF,zZ,λj t p v _=>by simp at v⟩,dU wl w,aa,nw⟩;refine K7 (En:={En with nx:=_,ct:=_,bk:=_}) hr T h0 hU few E hF hB B (A c) S lt λJ fo ab C p7 p8 p9 B' Q l'=>?_;obtain⟨tf,f1,f2,f3⟩:=Q.foll;have z1:=JN h0 hU B';have z2:=A c;refine⟨_,zZ,2 * (U.length-J.length)+(if fo=[]then 0 else 1),?_,d+1,J,fo,ab,fa,tf,_,_,_,_,B'.wave',Q.W,f1,f3,f2,Q.g,Q.new,λnf=>?_,zZ,zZ⟩
   .rw[hm,wA c];by_cases hf:fo=[]
    .subst hf;rw[wB zZ];simp at l';lia
    .have:=List.length_pos_iff.mpr hf;rw[wA hf];lia
   .have:=List.length_pos_iff.mpr nf;lia
end
def J1{g:TW}{d:As}{k:List dB}{a:Ad}(h:iQ (a4g g d) k=some (.ref a)):a∈d:=by
 unfold iQ at h;obtain⟨m,j,l⟩:=eU.mp h;obtain⟨i,c⟩:=gA.mp (List.mem_of_find?_eq_some j);unfold a4g at c;rw[List.getElem?_zipWith]at c;cases e:g[i]? with
 |none=>rw[e]at c;cases c
 | some p=>
  cases f:d[i]? with
  |none=>rw[e,f]at c;cases c
  |some b=>
   rw[e,f]at c;cases c;cases l;exact cY f
section
variable{X:Cx}
inductive x8(K:Q5)(a:Bool)(x y:V)(H:Hp)(Q:VK):Prop|mk:∀(l:Ad) (n:Nat) (d:Dt) (c:List Dt) (e:List V),y= .ref l->SqL K H l e->e.length=c.length->Rep K H n d x->((∀(i:Nat) f v,c[i]? =some f->e[i]? =some v->Rep K H n f v))->n<=30->(∀b,(b=true↔d∈c)->Q (.bl (if a then !b else b)) H)->x8 K a x y H Q
def Gc{K:Q5}{H:Hp}{n:Nat}{d f:Dt}{y z:V}{u:Vl}(g:Rep K H n d y)(j:Rep K H n f z)(k:RelV y u)(l:RelV z u):y=z:=by
 have c: ∀{y:V} {d:Dt},Rep K H n d y->RelV y u->(y= .non/\u= .none)∨(∃i t,y= .int i/\u= .int i t)∨(∃x t,y= .str x/\u= .str x t)∨ ∃a,y= .ref a/\u= .ref a:=λh r=>by
  cases h with
  |non=>exact .inl ⟨zZ,r⟩
  |int _ i=>
   obtain⟨t,e⟩:=r;exact .inr (.inl ⟨i,t,zZ,e⟩)
  |str _ x=>
   obtain⟨t,e⟩:=r;exact .inr (.inr (.inl ⟨x,t,zZ,e⟩))
  |lst=>exact .inr (.inr (.inr ⟨_,zZ,r⟩))
  |tup=>exact .inr (.inr (.inr ⟨_,zZ,r⟩))
 rcases c g k with⟨rfl,e⟩|⟨i,t,rfl,e⟩|⟨x,t,rfl,e⟩|⟨a,rfl,e⟩<;>rcases c j l with⟨rfl,b⟩|⟨o,m,rfl,b⟩|⟨p,m,rfl,b⟩|⟨q,rfl,b⟩<;>rw[e]at b<;>cases b<;>rfl
def L6{M:AO}{N:St}{H:Hp}{s:Sh}{x:V}{v:Vl}{n:Nat}{d:Dt}{k:List Dt}{l:List V}{c:Vs}(hu:X.A.units+64<cLine)(I:Inv X M N H s)(O:RelV x v)(r:Vals l c)(hl:l.length=k.length)(Q:Rep X.K H n d x)
  (q: ∀(i:Nat) a v,k[i]? =some a->l[i]? =some v->Rep X.K H n a v) (hn:n<=30): ∃e:Vl->Bool,(∀u∈c,SeqAt.EqAt X.A.in1 s u v (e u))/\(c.any e=true↔d∈k):=by
 have one: ∀(i:Nat) u,c[i]? =some u-> ∃b a,k[i]? =some a/\SeqAt.EqAt X.A.in1 s u v b/\(b=true↔a=d):=λi u g=>by
  obtain⟨C,_⟩:=cP.mp g;have t:=r.length;obtain⟨y,m⟩: ∃y,l[i]? =some y:=⟨_,cE ()⟩;obtain⟨a,o⟩: ∃a,k[i]? =some a:=⟨_,cE ()⟩;obtain⟨u',p,T⟩:=Vals.get r m;rw[g]at p;cases p;obtain⟨b,w,G⟩:=yd I n (A:=X.A.in1) (by show X.A.units+1+n<cLine;lia) (q i a y o m) Q T O;exact⟨b,a,o,w,G⟩
 have f: ∀u,∃b,(∃i:Nat,c[i]? =some u)->SeqAt.EqAt X.A.in1 s u v b/\ ∃(i:Nat) (a:Dt),c[i]? =some u/\k[i]? =some a/\(b=true↔a=d):=λu=>by
  by_cases h: ∃i:Nat,c[i]? =some u
  .obtain⟨i,B⟩:=h;obtain⟨b,a,C,t,w⟩:=one i u B;exact⟨b,λ_=>⟨t,i,a,B,C,w⟩⟩
  .exact⟨true,λz=>wC z h⟩
 refine⟨λu=>Classical.choose (f u),λu g=>(sm (f u) (gA.mp g)).1,?_⟩;rw[Bz];constructor
 .rintro⟨u,g,U⟩;obtain⟨_,i,a,C,t,w⟩:=sm (f u) (gA.mp g);rw[<-w.mp U];exact cY t
 .intro Y;obtain⟨i,o⟩:=gA.mp Y;obtain⟨C,_⟩:=cP.mp o;have t:=r.length;obtain⟨u,p⟩: ∃u,c[i]? =some u:=⟨_,cE ()⟩;refine⟨u,cY p,?_⟩;obtain⟨_,j,a,g1,D,g3⟩:=sm (f u) ⟨i,p⟩;refine g3.mpr ?_;obtain⟨y,m⟩: ∃y,l[i]? =some y:=⟨_,cE ()⟩;obtain⟨G,_⟩:=cP.mp D;obtain⟨z,E⟩: ∃z,l[j]? =some z:=⟨_,cE ()⟩;obtain⟨u1,J,r1⟩:=Vals.get r m;obtain⟨u2,L,r2⟩:=Vals.get r E;rw[p]at J;rw[g1]at L;cases J;cases L;have yz:y=z:=Gc (q i d y o m) (q j a z D E) r1 r2;subst yz;exact CQ I n (q j a y D E) (q i d y o m)
def MZ(b:X.A.units+64<cLine):OpR X (compareOp .NotIn) (x8 X.K true):=by
 intro z s A H x y v u Q I c f h;obtain⟨l,n,d,B,C,rfl,g,i,j,k,m,q⟩:=h;cases f;obtain⟨a,r,o,D⟩:=I.list g;obtain⟨e,p,t⟩:=L6 b I c r i j k m;refine SeqAt.notIn_listAt e o.isList (λw hw=>p w (by simpa using hw)) ⟨.bl _,H,I,zZ,?_⟩;rw[show a.toArray.any e=a.any e by simp];exact q _ t
def ML{x y:Str}{p q e:Pos}{k:Nat}{a:Scope}(S:CompScope X [x,y] a)(f:X.calm=true)(b:a.names.lookup x=some .local)(c:a.names.lookup y=some .local):
  ∀C s H d,PG (hO X [x,y] a C s H d) (.Tuple [.Name x p,.Name y q] k e) (oZ X.K 2 (i6 (iE 0) (i6 (iE 1) ub))):=λC s H d=>
 om f (iA (fb S.nd zZ (.inl (qk b)) (.inr (qk b))) (iA (fb S.nd zZ (.inl (qk c)) (.inr (qk c))) nO))
end
section
variable{X:Cx}
inductive jf(K:Q5)(x:V)(c:List V)(H:Hp)(Q:VK):Prop|mk:∀(l:Ad) (y:V) (n:Nat) (d:Dt) (a:List Dt) (b:List V) (j:Nat),x= .ref l->c=[y]->SqL K H l b->b.length=a.length->Rep K H n d y->((∀(i:Nat) e v,a[i]? =some e->b[i]? =some v->Rep K H n e v))->n<=30->a[j]? =some d->((∀i:Nat,i<j->a[i]? ≠some d))->Q (.int (j:Nat)) H->jf K x c H Q
def PB{M:AO}{N:St}{H:Hp}{s:Sh}{x:V}{v:Vl}{n:Nat}{d:Dt}{k:List Dt}{l:List V}{c:Vs}(hu:X.A.units+64<cLine)(I:Inv X M N H s)(O:RelV x v)(r:Vals l c)(hl:l.length=k.length)(Q:Rep X.K H n d x)
  (p: ∀(i:Nat) a v,k[i]? =some a->l[i]? =some v->Rep X.K H n a v) (hn:n<=30): ∃e:Vl->Bool,(∀u∈c,SeqAt.EqAt X.A.in1 s u v (e u))/\ ∀(i:Nat) u a,c[i]? =some u->k[i]? =some a->(e u=true↔a=d):=by
 have E:=r.length;have one: ∀(i:Nat) u,c[i]? =some u-> ∃b a,k[i]? =some a/\SeqAt.EqAt X.A.in1 s u v b/\(b=true↔a=d):=λi u g=>by
  obtain⟨w,_⟩:=cP.mp g;obtain⟨y,m⟩: ∃y,l[i]? =some y:=⟨_,cE ()⟩;obtain⟨a,o⟩: ∃a,k[i]? =some a:=⟨_,cE ()⟩;obtain⟨u',q,T⟩:=Vals.get r m;rw[g]at q;cases q;obtain⟨b,B,G⟩:=yd I n (A:=X.A.in1) (by show X.A.units+1+n<cLine;lia) (p i a y o m) Q T O;exact⟨b,a,o,B,G⟩
 have f: ∀u,∃b,(∃i:Nat,c[i]? =some u)->SeqAt.EqAt X.A.in1 s u v b/\ ∃(i:Nat) (a:Dt),c[i]? =some u/\k[i]? =some a/\(b=true↔a=d):=λu=>by
  by_cases h: ∃i:Nat,c[i]? =some u
  .obtain⟨i,t⟩:=h;obtain⟨b,a,w,E,B⟩:=one i u t;exact⟨b,λ_=>⟨E,i,a,t,w,B⟩⟩
  .exact⟨true,λz=>wC z h⟩
 refine⟨λu=>Classical.choose (f u),λu g=>(sm (f u) (gA.mp g)).1,λi u d0 q o=>?_⟩;obtain⟨_,j,a,U,C,Y⟩:=sm (f u) ⟨i,q⟩;rw[Y];obtain⟨w,_⟩:=cP.mp o;obtain⟨y,m⟩: ∃y,l[i]? =some y:=⟨_,cE ()⟩;obtain⟨G,_⟩:=cP.mp C;obtain⟨z,D⟩: ∃z,l[j]? =some z:=⟨_,cE ()⟩;obtain⟨u1,J,r1⟩:=Vals.get r m;obtain⟨u2,L,r2⟩:=Vals.get r D;rw[q]at J;rw[U]at L;cases J;cases L;have yz:y=z:=Gc (p i d0 y o m) (p j a z C D) r1 r2;subst yz;have dd:a=d0:=CQ I n (p j a y C D) (p i d0 y o m);rw[dd]
def xF(w:X.A.units+64<cLine):uj X "list.index" (jf X.K):=by
 intro za s σ H x vs v us Q I A B h;obtain⟨l,y,m,d,C,xs,j,rfl,rfl,D,E,G,J,L,f,no,q⟩:=h;cases A;obtain⟨u,rfl,M⟩:=B.one;obtain⟨a,r,⟨⟨c1,d1,k1,N⟩,n,e,g,i,o⟩,O⟩:=I.list D;simp only at g i o;subst g i o;obtain⟨b,T,p⟩:=PB w I M r E G J L;have lr:=r.length;have lj:=(cP.mp f).1;rw[dz]at O;refine oo F.slot_list_index ⟨_,e,zZ⟩ F.entry_list_index (F.args_list_index_2 _ _) (SeqAt.list_indexAt l a.toArray n none N u b j (by simp only[List.size_toArray];lia) () ?_ ?_)
  ⟨e,λy U=>T y (by simpa using U),⟨.int (j:Nat),H,I.tok _,⟨_,zZ⟩,q⟩⟩
 .show b a[j]=true;exact(p j _ d (cE ()) f).mpr rfl
 .intro k Y c;show b a[k]=false;have t:k<C.length:=by lia
  cases z:b a[k]with
  |false=>rfl
  |true=>
   have z2:=(p k _ _ (cE ()) (cE t)).mp z;exact wC (by rw[cE t,z2]) (no k c)
def JA{X:Cx}{K:Q5}{e:Expr}{T:String}{to:TE}{t:TA}(r:Q5->V->List V->Hp->VK->Prop)(a:X.K=K)(h:PE X e (Af X.K T (r X.K) to t)):PE X e (Af K T (r K) to t):=a▸h
end
section
variable{P:Pg}{w:World}{A:Ar}{E:VP}{s:Sh}{f d:Ad}{i g:Nat}{c:Array DictEntry}
abbrev rz(d:Ad)(i n g:Nat):Obj:={cls:= .type "dict_keyiterator",data:= .fields #[.ref d,.int i 0,.int n 0,.int g 0]}
def GJ{h:DictEntry}{Q:Option Vl->Sh->Prop}(G:s.heap.get? f=some (rz d i c.size g))(L:Lies s.heap d c g)(r:c[i]? =some h)
  (q: ∀k,k.get? f=some (rz d (i+1) c.size g)->Heap.SameBut f s.heap k->Q (some h.key) {s with heap:=k}):wpAny (model P w) A (pyNext (.ref f)) Q E s:=by
 obtain⟨o,n,_,p⟩:=L;have ty:s.TypeIs (.ref f) "dict_keyiterator":=⟨_,G,zZ⟩;unfold pyNext;refine cB (qw (oT (name:=Str.ofString "__next__") ty u5 (kv u5 ty HJ ?_ (Gk _))));refine cB (cH (cB (cB ?_)));refine cB (BA ty (cH (cB (v0 G zZ ?_))));have a:Builtin.Dict_items.ownsTuple "dict_keyiterator"=false:=by decide
 simp only[a,Bool.false_eq_true,if_false];refine show wpAny _ _ (if(Value.ref d==Value.none)=true then _ else _) _ _ s from(wA (show ¬((Value.ref d==Value.none)=true)from gy))▸cB (cH (cB (tu n p ?_)))
 rw[wA (by simp)];refine cB (cH (cB (wH n p ?_)));rw[wA (by simp)];refine cH ?_;have l:(if((i:Nat):Int)<0 then none else c[((i:Nat):Int).toNat]?)=some h:=by
  rw[wA (),ip];exact r
 show wpAny _ _ (match (if((i:Nat):Int)<0 then none else c[((i:Nat):Int).toNat]?)with|some e=>_|none=>_) _ _ s;rw[l];refine cB (cB (BA ty (cH (cB (wpAny_isOneOf_keyiter ty ?_)))));refine show wpAny _ _ (setField (.ref f) 1 (rawInt ((i:Int)+1)) >>= _) _ _ s from cB (oH G (by simp) λj t u=>wpAny_bind (wpAny_holding ?_))
 have b:j.get? f=some (rz d (i+1) c.size g):=by
  have z:((i+1:Nat):Int)=(i:Int)+1:=by lia
  unfold rz;rw[z];simpa[rawInt]using t
 have m:Shared.TypeIs {s with heap:=j} (.ref f) "dict_keyiterator":=⟨_,b,rfl⟩;refine cB (wpAny_isOneOf_keyiter m ?_);exact show wpAny _ _ (pure h.key) _ _ {s with heap:=j}from cH (cH ⟨_,rfl,cH (q j b u)⟩)
def GP{Q:Option Vl->Sh->Prop}(p:A.handled=none)(G:s.heap.get? f=some (rz d i c.size g))(L:Lies s.heap d c g)(r:c[i]? =none)
  (q: ∀k,Heap.ExtBut f s.heap k->Q none {s with heap:=k}):wpAny (model P w) A (pyNext (.ref f)) Q E s:=by
 obtain⟨o,l,_,n⟩:=L;have ty:s.TypeIs (.ref f) "dict_keyiterator":=⟨_,G,zZ⟩;unfold pyNext;refine cB (qw (oT (name:=Str.ofString "__next__") ty u5 (kv u5 ty HJ ?_ (Gk _))));refine cB (cH (cB (cB ?_)));refine cB (BA ty (cH (cB (v0 G zZ ?_))));have h:Builtin.Dict_items.ownsTuple "dict_keyiterator"=false:=by decide
 simp only[h,Bool.false_eq_true,if_false];refine show wpAny _ _ (if(Value.ref d==Value.none)=true then _ else _) _ _ s from(wA (show ¬((Value.ref d==Value.none)=true)from gy))▸cB (cH (cB (tu l n ?_)))
 rw[wA (by simp)];refine cB (cH (cB (wH l n ?_)));rw[wA (by simp)];refine cH ?_;have j:(if((i:Nat):Int)<0 then none else c[((i:Nat):Int).toNat]?)=none:=by
  rw[wA (),ip];exact r
 show wpAny _ _ (match (if((i:Nat):Int)<0 then none else c[((i:Nat):Int).toNat]?)with|some e=>_|none=>_) _ _ s;rw[j];refine cB (cB (BA ty (cH ?_)));refine show wpAny _ _ (setField (.ref f) 0 .none >>= _) _ _ s from cB (oH G (by simp) λv x t=>?_)
 refine cB (m:=newExc _ _) ?_;simp only[newExc,newTuple];refine cB (md ?_ (by size_fits));refine cB (m:=firstArgMember _ _) (Ai (a:=Value.none) (by first|rfl|(unfold firstArgMember;rfl)) (wpAny_newObj_type ?_ (by size_fits)));refine Ev (by simpa using p) (wpAny_bind (wpAny_isInstance (T:="StopIteration") (b:=true) ⟨_,Heap.get?_push_size _ zZ,zZ⟩ isSubtype_stop (wpAny_pure ?_)));exact q _ λb o u z=>dM _ (dM _ (t.extBut b o u z))
def HP{Q:VP}(nd:(d==sysModules)=false)(L:Lies s.heap d c g)(q:Q (.ref s.heap.objs.size) {s with heap:=s.heap.push (rz d 0 c.size g)}):wpAny (model P w) A (pyIter (.ref d)) Q E s:=by
 obtain⟨o,a,x,b⟩:=L;have ty:s.TypeIs (.ref d) "dict":=⟨o,a,x.1⟩;refine wx ty F.slot_dict_iter (kv F.slot_dict_iter ty F.entry_dict_iter ?_ (F.args_dict_iter_1 _));unfold Builtin.«dict.__iter__» Builtin.Dict.dictSlotNone;refine cB (cB (wpAny_notOrdered_dict ty ?_));refine show wpAny _ _ (pure (Value.ref d)) _ _ s from cH (show wpAny _ _ (Builtin.Dict.showsAll d >>= _) _ _ s from ?_)
 have all:Builtin.Dict.showsAll d=pure Unit.unit:=by
  unfold Builtin.Dict.showsAll;rw[nd];rfl
 rw[all];refine cB (cH (cB (tu a b (cB (wH a b ?_)))));exact cB (md (cH ⟨_,zZ,"dict_keyiterator",_,⟨_,fj _ zZ,zZ⟩,u5.lookup,q⟩))
def L1(r:A.handled=none)(l:d≠f):Walks P w A f [f,d] [f] c.size (λi v=> ∃a,c[i]? =some a/\v=a.key) (λi h=>h.get? f=some (rz d i c.size g)/\Lies h d c g) where
 sub:=λb t=>dZ.mpr (.inl (dw.mp t))
 frame:=λi h j st k=>⟨k f (dY ..) _ st.1,let⟨o,e,x⟩:=st.2;⟨o,k d (fR _ (dw.mpr zZ)) _ e,x⟩⟩
 item:=λi s Q E u st q=>by
  obtain⟨a,n⟩: ∃a,c[i]? =some a:=⟨_,mJ u⟩;refine GJ st.1 st.2 n λj y p=>q a.key j s.toks ⟨a,n,zZ⟩ ⟨y,let⟨o,e,x⟩:=st.2;⟨o,p.extBut _ _ l e,x⟩⟩ λb o m e=>p.extBut _ _ (λz=>m (dw.mpr z)) e
 done:=λs Q E st q=>GP r st.1 st.2 (DN (cO _)) λj x=>q j s.toks λb o m e=>x b o (λz=>m (dw.mpr z)) e
 self:=λi s Q E st q=>by
  have ty:s.TypeIs (.ref f) "dict_keyiterator":=⟨_,st.1,zZ⟩;refine wx ty zG (kv zG ty HE ?_ (GO _));exact show wpAny _ _ (ret (.ref f)) _ _ s from cH ⟨_,zZ,"dict_keyiterator",_,ty,u5.lookup,q⟩
def yw(nd:(d==sysModules)=false):PySem.W.KdlSrc P w "dict" d d c.size (λi v=> ∃a,c[i]? =some a/\v=a.key) (λh=>Lies h d c g) where
 type:=λ_ e=>e.typeIs
 there:=λ_ ⟨_,e,_⟩=>⟨dq e,dq e⟩
 keep:=λ_ _ ⟨o,e,x⟩ k=>⟨o,k d (.inl zZ) _ e,x⟩
 notList:=by decide
 notTuple:=by decide
 hint:=λ_ _ _ _ e q=>PySem.W.kdl_hint_dict e.typeIs q
 iter:=λ_ _ b e=>⟨_,_,λ_ _ q=>HP nd e q,L1 b (d9 (let⟨_,z,_⟩:=e;dq z)),fj _ zZ,let⟨o,z,x⟩:=e;⟨o,dM _ z,x⟩⟩
end
open PySem PySem.W PyProof.Rows
section
variable(n:Nat)(k:Nat->Int)
def KOk{b:Type}:KasT b->(b->Prop)->Prop
 | .ret a,R=>R a
 | .ask i j f,R=>i<n/\j<n/\KOk (f (decide (k i<k j))) R
def Arr(p:Array Nat):Prop:=p.Perm (List.range n).toArray
def qu(p:Array Nat)(m:Nat):Prop:= ∀a b,a<b->b<m->k (p.getD a 0)<k (p.getD b 0)
def PH(p:Array Nat)(m:Nat):Prop:= ∀a b,a<b->b<m->k (p.getD b 0)<k (p.getD a 0)
variable{n k}
theorem KOk.bind{b c:Type}{f:b->KasT c}{R:b->Prop}{d:c->Prop}(h: ∀a,R a->KOk n k (f a) d): ∀t:KasT b,KOk n k t R->KOk n k (t.bind f) d
 | .ret a,q=>h a q
 | .ask i j g,q=>⟨q.1,q.2.1,KOk.bind h (g _) q.2.2⟩
def Arr.size{p:Array Nat}(h:Arr n p):p.size=n:=by
 have z:=(oG.mp h).length_eq;simpa using z
def Arr.at{p:Array Nat}(h:Arr n p){i:Nat}(b:i<n):p.getD i 0<n/\p[i]? =some (p.getD i 0):=by
 have c:=h.size;have e:p[i]? =some (p.getD i 0):=by
  rw[qg,mJ ()];rfl
 refine⟨?_,e⟩;have m:p.getD i 0∈p:=CN e;have a:=(Cg h).mp m;simpa using a
def Arr.inj{p:Array Nat}(h:Arr n p){i j:Nat}(b:i<n)(d:j<n)(e:p.getD i 0=p.getD j 0):i=j:=by
 have nd:p.toList.Nodup:=(oG.mp h).nodup_iff.mpr (by simpa using List.nodup_range);have c:=(h.at b).2;have a:=(h.at d).2;rw[<-e]at a;rw[<-lK]at c a;exact(jx (by rw[eO,h.size];exact b) nd).mp (c.trans a.symm)
variable(inj: ∀i j,i<n->j<n->k i=k j->i=j)
include inj
end
end L2
namespace L2
open PySem PySem.Spec PySem.W PyProof.Rows
section
variable{P:Pg}{w:World}{A:Ar}{E:VP}{s:Sh}{a:Ad}{c d:Vs}{k:Nat->Int}
def Cy(P:Pg)(w:World)(A:Ar)(d:Vs)(lt:Nat->Nat->Bool)(s:Sh):Prop:=
 wpAny (model P w) A (keyKind' d.toArray) (λb e=>e=s/\ ∀i j (C:Bool->Sh->Prop),i<d.length->j<d.length->C (lt i j) s->kas_ask P w A b d i j C s) (λ_ _=>False) s
abbrev iF(c:Vs)(p:Array Nat):Vs:=p.toList.map λi=>c.getD i Value.none
def FZ(c:Vs):iF c (List.range c.length).toArray=c:=by
 unfold iF;refine oj λi=>?_;rw[zw,cV];by_cases h:i<c.length
 .rw[oV h,cE h];show some (c.getD i Value.none)=_;rw[eC,cE h];rfl
 .rw[j4 (by simp;lia),List.getElem?_eq_none ()];rfl
def Hw(b:d.length=c.length):(d.toArray.zip c.toArray).map (·.2)=c.toArray:=by
 apply Array.toList_inj.mp;rw[BB,ksk_zip];exact List.map_snd_zip (by simp[b])
def zK{f:Heap}{b:Ad}{x:Obj}(e:f.get? b=some x)(g h:Obj):((f.push g).push h).get? b=some x:=dM _ (dM _ e)
end
theorem Ef{a:Type}{p q:a->Bool}: ∀{xs:List a},(∀z∈xs,p z=true->q z=true)->(∃z∈xs,p z=false/\q z=true)->xs.countP p<xs.countP q
 | [],_,h=>by obtain⟨z,hz,_⟩:=h;cases hz
 | x::xs,mono,h=>by
  have g:xs.countP p<=xs.countP q:=List.countP_mono_left λz hz=>mono z (fR _ hz);rw[AA,AA];obtain⟨z,hz,b,c⟩:=h
  rcases dZ.mp hz with e|hz
  .subst e;rw[b,c];simp;lia
  .have i:=Ef (xs:=xs) (λy d=>mono y (fR _ d)) ⟨z,hz,b,c⟩;have m:=mono x (dY ..);cases f:p x with
   |false=>cases q x<;>simp<;>lia
   |true=>rw[m f];simp;lia
structure Total{α:Type}(lt:α->α->Bool)(xs:List α):Prop where
 irr: ∀x,lt x x=false
 trans: ∀x y z,lt x y=true->lt y z=true->lt x z=true
 tot: ∀x∈xs,∀y∈xs,x≠y->lt x y=true∨lt y x=true
def lR{a:Type}(lt:a->a->Bool)(xs:List a)(x:a):Int:=((xs.countP λy=>lt y x):Nat)
section
variable{a:Type}{lt:a->a->Bool}{xs:List a}(T:Total lt xs)
include T
def Total.up{x y:a}(b:x∈xs)(h:lt x y=true):lR lt xs x<lR lt xs y:=by
 unfold lR;have z:=Ef (xs:=xs) (p:=λz=>lt z x) (q:=λz=>lt z y) (λz _ c=>T.trans _ _ _ c h) ⟨x,b,T.irr x,h⟩;lia
def Total.asks{x y:a}(b:x∈xs)(c:y∈xs):decide (lR lt xs x<lR lt xs y)=lt x y:=by
 by_cases e:x=y
 .subst e;rw[T.irr];exact fy (Int.lt_irrefl _)
 .rcases T.tot x b y c e with h|h
  .rw[h];exact eJ (T.up b h)
  .have:=T.up c h;rw[fy ()];cases z:lt x y with
   |false=>rfl
   |true=>
    have:=T.up b z;lia
def Total.same{x y:a}(b:x∈xs)(c:y∈xs)(h:lR lt xs x=lR lt xs y):x=y:=by
 refine Bf λe=>?_
 rcases T.tot x b y c e with z|z
 .have:=T.up b z;lia
 .have:=T.up c z;lia
end
theorem CW: ∀(a b:cz),a≠b->eR a b=true∨eR b a=true
 | [],[],h=>wC zZ h
 | [],y::b,_=> .inl (by unfold eR;rw[show gP [] (y::b)=none from rfl];simp)
 |x::a,[],_=> .inr (by unfold eR;rw[show gP [] (x::a)=none from rfl];simp)
 | x::a,y::b,h=>by
  by_cases e:x=y
  .subst e
   rcases CW a b (λz=>h (by rw[z]))with q|q
   .exact .inl (by rw[qi];exact q)
   .exact .inr (by rw[qi];exact q)
  .rw[lP e,lP (fh e)]
   rcases Nat.lt_or_gt_of_ne e with q|q
   .exact .inl (eJ q)
   .exact .inr (eJ q)
theorem zH: ∀(xs a d:cz),eR xs a=true->eR a d=true->eR xs d=true
 | xs,a,[],_,b=>by
  have:eR a []=false:=by
   unfold eR;rw[show gP a []=none by cases a<;>rfl];simp
  rw[this]at b;cases b
 | [],a,z::d,_,_=>by unfold eR;rw[show gP [] (z::d)=none from rfl];simp
 | x::xs,[],z::d,c,_=>by
  have:eR (x::xs) []=false:=by
   unfold eR;rw[show gP (x::xs) []=none from rfl];simp
  rw[this]at c;cases c
 | x::xs,y::a,z::d,c,b=>by
  by_cases f:x=y
  .subst f;by_cases e:x=z
   .subst e;rw[qi]at c b⊢;exact zH xs a d c b
   .rw[lP e]at b⊢;exact b
  .rw[lP f]at c;have g:=ie c;by_cases e:y=z
   .subst e;rw[lP f];exact c
   .rw[lP e]at b;have h:=ie b;rw[lP ()];exact eJ ()
def Kd(a:LN):Total eR a:=⟨pD,zH,λx _ y _ e=>CW x y e⟩
section
variable{P:Pg}{w:World}{A:Ar}{E:VP}{s:Sh}
def FG{i j:Int}{t u:Tok}(f:Bool){Q:Bool->Sh->Prop}(h:Q (decide (i<j)) s):wpAny (model P w) A (oneLt' f (.int i t) (.int j u)) Q E s:=by
 cases f with
 |true=>exact oneLt_int h
 |false=>exact kat_one _ _ (PyProof.Rows.lt_int h)
theorem GU{fin:Bool}{Q:Bool->Sh->Prop}: ∀{b a:cz} {c d:Vs} (i:Nat),Vals (b.map nv) c->Vals (a.map nv) d->Q ((gP b a).getD fin) s->KatLex P w A true fin Q (c.zip d) i s
 | [],a,_,_,i,.nil,_,q=>by
  rw[show gP [] a=none by cases a<;>rfl]at q;rw[List.zip_nil_left];exact kat_nil q
 |n::b,[],_,_,i,.cons _ _,.nil,q=>by
  rw[List.zip_nil_right];exact kat_nil q
 | n::b,m::a,_,_,i,.cons ⟨t,f⟩ g,.cons ⟨u,h⟩ k,q=>by
  subst f h;refine kat_cons ?_;have z:=gu (A:=A) (s:=s) (i:=(n:Int)) (j:=(m:Int)) (t:=t) (u:=u);by_cases e:n=m
  .rw[eJ ()]at z;rw[gP,wB e]at q;exact z P w _ _ (kat_yes (GU (i+1) g k q))
  .rw[fy ()]at z;rw[gP,wA e]at q;refine z P w _ _ (kat_no (FG _ ?_));have l:decide ((n:Int)<(m:Int))=decide (n<m):=by simp
   rw[l];exact q
def pL(h:Heap)(v:Vl)(d:cz):Prop:= ∃a o b c,v= .ref a/\h.get? a=some o/\o.cls= .type "tuple"/\o.data= .seq b c/\Vals (d.map nv) b.toList
theorem GY{h:Heap}: ∀{vs:Vs} {ts:LN},vs.length=ts.length->(∀(i:Nat) v t,vs[i]? =some v->ts[i]? =some t->pL h v t/\t≠[])-> ∃fs:Vs,KatTups h vs fs/\fs.length=vs.length/\ ∀f∈fs,∃i t,f= .int i t
 | [],[],_,_=>⟨[],.nil,zZ,λ_ z=>nomatch z⟩
 | [],_::_,l,_=>by simp at l
 |_::_,[],l,_=>by simp at l
 | v::vs,t::ts,l,g=>by
  obtain⟨fs,k,m,p⟩:=GY (h:=h) (vs:=vs) (ts:=ts) (by simpa using l) λi v t q u=>g (i+1) v t (by simpa using q) (by simpa using u);obtain⟨⟨a,o,d,c,rfl,x,y,B,C⟩,D⟩:=g 0 v t zZ rfl;obtain⟨n,b,rfl⟩: ∃n b,t=n::b:=by
   cases t with
   |nil=>exact wC zZ D
   |cons n b=>exact⟨n,b,zZ⟩
  obtain⟨j⟩:=d;cases C with
  | cons r _=>
   obtain⟨G,rfl⟩:=r;exact⟨_::fs,.cons x y B zZ k,by simp[m],λf hf=>by
    rcases dZ.mp hf with e|hf
    .exact⟨_,_,e⟩
    .exact p f hf⟩
def JM{a:Vs}{b:LN}(l:a.length=b.length)(N:1<=a.length)(e: ∀(i:Nat) v t,a[i]? =some v->b[i]? =some t->pL s.heap v t/\t≠[]):Cy P w A a (λi j=>eR (b.getD i []) (b.getD j [])) s:=by
 obtain⟨fs,k,O,m⟩:=GY l e;refine kat_kind (T:= .type "int") k () (λf n=>?_) (by decide) ⟨zZ,λi j C d o p=>?_⟩
 .obtain⟨i,t,rfl⟩:=m f n;exact .now
 .have c: ∀{i:Nat},i<a.length->pL s.heap (a.getD i Value.none) (b.getD i []):=λ{i} d=>by
   have q:a[i]? =some (a.getD i Value.none):=by rw[eC,cE d];rfl
   have r:b[i]? =some (b.getD i []):=by rw[eC,cE ()];rfl
   exact(e i _ _ q r).1
  obtain⟨x,Q,u,U,z,B,Y,D,g⟩:=c d;obtain⟨y,oy,G,ny,H,I,y2,J,h⟩:=c o;show wpAny (model P w) A (keyLt' _ (a.getD i Value.none) (a.getD j Value.none)) C _ s;rw[z,H];refine kat_lt B D I J (GU 0 g h ?_);have L:(b.getD i []).length=u.size:=by have:=g.length;simpa using this
  have M:(b.getD j []).length=G.size:=by have:=h.length;simpa using this
  rw[<-L,<-M];exact p
end
def F3{b:Type}{a:List b}{p:Array Nat}{d:b}(c:Arr a.length p):(p.toList.map λi=>a.getD i d).Perm a:=by
 have z:=(oG.mp c).map λi=>a.getD i d;refine z.trans (.of_eq ?_);refine oj λi=>?_;rw[zw,cV];by_cases h:i<a.length
 .rw[oV h,cE h];show some (a.getD i d)=_;rw[eC,cE h];rfl
 .rw[j4 (by simp;lia),List.getElem?_eq_none ()];rfl
def IE{p:Array Nat}{n i:Nat}(a:Arr n p)(b:i<n):p.toList[i]? =some (p.getD i 0):=by
 rw[lK];exact(a.at b).2
def Fx{c:Type}{lt:c->c->Bool}{a:List c}{d:c}{p:Array Nat}(T:Total lt a)(b:Arr a.length p)(up:qu (λi=>lR lt a (a.getD i d)) p a.length):(p.toList.map λi=>a.getD i d).Pairwise λx y=>lt x y=true:=by
 rw[pV];intro i j e f o;have k:i<a.length:=by rw[cC,eO,b.size]at e;exact e
 have g:j<a.length:=by rw[cC,eO,b.size]at f;exact f
 have l:(p.toList.map λi=>a.getD i d)[i]? =some (a.getD (p.getD i 0) d):=by rw[cV,IE b k];rfl
 have n:(p.toList.map λi=>a.getD i d)[j]? =some (a.getD (p.getD j 0) d):=by rw[cV,IE b g];rfl
 rw[cE e]at l;rw[cE f]at n;rw[gD l,gD n];have u:=up i j o g;have m: ∀{i:Nat},i<a.length->a.getD (p.getD i 0) d∈a:=λ{i} h=>by
  have:=(b.at h).1;rw[eC,cE this];exact l6 _
 rw[<-T.asks (m k) (m g)];exact eJ u
structure TupsAt(H:Hp)(bs:As)(us:LN):Prop where
 len:bs.length=us.length
 is: ∀(i:Nat) (b:Ad) (u:cz),bs[i]? =some b->us[i]? =some u->H b=some (.tup (u.map nv))
def TupsAt.same{H a:Hp}{bs:As}{c:LN}(h:TupsAt H bs c)(g:Same H a):TupsAt a bs c:=⟨h.len,λi b u d e=>g _ _ (h.is i b u d e)⟩
def TupsAt.pick{H:Hp}{bs:As}{a:LN}(h:TupsAt H bs a){p:Array Nat}(f:Arr a.length p):TupsAt H (p.toList.map λi=>bs.getD i 0) (p.toList.map λi=>a.getD i []):=by
 refine⟨by simp,λi b u d c=>?_⟩;rw[cV]at d c;obtain⟨j,e,rfl⟩:=eU.mp d;rw[e]at c;cases c;have g:j<a.length:=by
  have m:=(oG.mp f).mem_iff.mp (cY e);simpa using m
 have k:=h.len;refine h.is j _ _ ?_ ?_
 .rw[eC,cE ()];rfl
 .show a[j]? =some (a.getD j []);rw[eC,cE g];rfl
section
variable{X:Cx}
def yy{P:Pg}{w:World}{H:Hp}{h:Heap}{a:Ad}{t:cz}(ok:HOk P w H h)(e:H a=some (.tup (t.map nv))):pL h (.ref a) t:=by
 obtain⟨_,b,r,o,d,f,c,g,_⟩:=(show ObjOk P w H h a (.tup (t.map nv))from ok a _ e);exact⟨a,o,b.toArray,c,zZ,d,f,g,by simpa using r⟩
def pI{b:Type}{a:List b}{d:b}{i:Nat}(h:i<a.length):a[i]? =some (a.getD i d)/\a.getD i d∈a:=by
 have e:a[i]? =some (a.getD i d):=by
  rw[eC,cE h];rfl
 exact⟨e,cY e⟩
def Ir{b:Type}{lt:b->b->Bool}{a:List b}{d:b}(T:Total lt a)(nd:a.Nodup): ∀i j,i<a.length->j<a.length->lR lt a (a.getD i d)=lR lt a (a.getD j d)->i=j:=λi j c f e=>by
 have z:=T.same (pI c).2 (pI f).2 e;refine(jx c nd).mp ?_;rw[(pI (d:=d) c).1,(pI (d:=d) f).1,z]
end
abbrev d0:Keyed:=(Value.none,Value.none)
structure Asks(M:Model)(A:Ar)(s:Sh)(κ:SortKind)(r:Keyed->Int)(a₀:Array Keyed):Prop where
 lt: ∀(x y:Keyed) (C:Bool->Sh->Prop),x∈a₀->y∈a₀->C (decide (r x<r y)) s->wpAny M A (keyLt' κ x.1 y.1) C (λ_ _=>False) s
 ne: ∀i j,i<a₀.size->j<a₀.size->i≠j->r (a₀.getD i d0)≠r (a₀.getD j d0)
structure StOk(κ:SortKind)(a₀:Array Keyed)(st:SortSt):Prop where
 kind:kindOf st=κ
 perm:(arrOf st).Perm a₀
 ok:failedOf st=none
section
variable{M:Model}{A:Ar}{E:VP}{s:Sh}{o:SortKind}{r:Keyed->Int}{f xs g:Array Keyed}
abbrev kx(r:Keyed->Int)(xs:Array Keyed)(i:Nat):Int:=r (xs.getD i d0)
def rc{i:Nat}(h:i<xs.size):xs[i]? =some (xs.getD i d0):=by
 rw[qg,mJ h];rfl
def dy{i:Nat}{x:Keyed}(h:xs[i]? =some x):xs.getD i d0=x:=by
 rw[qg,h];rfl
def pc{i j:Nat}(h:xs[i]? =g[j]?):xs.getD i d0=g.getD j d0:=by
 rw[qg,qg,h]
def qe(p:xs.Perm f):xs.size=f.size:=by
 have z:=(oG.mp p).length_eq;simpa using z
def A1(p:xs.Perm f){i:Nat}(h:i<f.size):xs.getD i d0∈f:=(Cg p).mp (CN (rc (by rw[qe p];exact h)))
def Asks.pairs(K:Asks M A s o r f):(f.toList.map r).Nodup:=by
 refine pV.mpr λi j a b c=>?_;rw[ui,ui];rw[cC,eO]at a b;have z:=K.ne i j a b ();rw[qg,qg,mJ a,mJ b]at z;exact z
def Asks.apart(K:Asks M A s o r f)(p:xs.Perm f){i j:Nat}(a:i<f.size)(b:j<f.size)(c:i≠j):kx r xs i≠kx r xs j:=by
 have nd:(xs.toList.map r).Nodup:=((oG.mp p).map r).nodup_iff.mpr K.pairs;have sz:=qe p;intro z;have e: ∀k,k<f.size->(xs.toList.map r)[k]? =some (kx r xs k):=λk d=>by
  rw[cV,lK,rc ()];rfl
 exact c ((jx (by rw[cC,eO];lia) nd).mp (by rw[e i a,e j b,z]))
def wX{st:SortSt}{x y:Keyed}{Q:Option Bool->SortSt->Prop}(K:Asks M A s o r f)(c:kindOf st=o)(d:x∈f)(e:y∈f)(h:Q (some (decide (r x<r y))) st):wpS M A E s (lt' x y) Q st:=by
 rw[lt'_eq];refine c7 (nq ?_);rw[c];refine c7 (uk (qw (iM (K.lt x y (λb a=>a=s/\b=decide (r x<r y)) d e ⟨zZ,zZ⟩) (λb a i=>?_) λ_ _ z=>z.elim)));obtain⟨rfl,rfl⟩:=i;exact⟨zZ,df h⟩
def hZ{a:SortSt}{i:Nat}{Q:Keyed->SortSt->Prop}(b:i<xs.size)(h:Q (xs.getD i d0) a):wpS M A E s (elem' xs i) Q a:=by
 rw[elem'_eq,rc b];exact df h
def zn{st:SortSt}{i j:Nat}{Q:Option Bool->SortSt->Prop}(K:Asks M A s o r f)(B:StOk o f st)(a:i<f.size)(b:j<f.size)(h:Q (some (decide (kx r (arrOf st) i<kx r (arrOf st) j))) st):wpS M A E s (ltAt' i j) Q st:=by
 have sz:=qe B.perm;rw[ltAt'_eq];refine c7 (nq ?_);exact c7 (hZ () (c7 (hZ () (wX K B.kind (A1 B.perm a) (A1 B.perm b) h))))
def Ris(r:Keyed->Int)(xs:Array Keyed)(lo c:Nat):Prop:= ∀a b,lo<=a->a<b->b<c->kx r xs a<kx r xs b
def Fal(r:Keyed->Int)(xs:Array Keyed)(lo c:Nat):Prop:= ∀a b,lo<=a->a<b->b<c->kx r xs b<kx r xs a
def Out(xs g:Array Keyed)(lo a:Nat):Prop:= ∀k,k<lo∨a<=k->g[k]? =xs[k]?
def Out.refl(xs:Array Keyed)(lo a:Nat):Out xs xs lo a:=λ_ _=>rfl
def Out.trans{b:Array Keyed}{lo a:Nat}(h:Out xs g lo a)(c:Out g b lo a):Out xs b lo a:=λk z=>(c k z).trans (h k z)
def Out.wide{lo c a b:Nat}(h:Out xs g lo c)(d:a<=lo)(e:c<=b):Out xs g a b:=λk z=>h k ()
def Out.ris{lo c a b:Nat}(h:Out xs g lo c)(e:Ris r xs a b)(d:b<=lo∨c<=a):Ris r g a b:=λi j k l m=>by
 show r (g.getD i d0)<r (g.getD j d0);rw[pc (h i ()),pc (h j ())];exact e i j k l m
def Ris.one{lo:Nat}:Ris r xs lo (lo+1):=λa b c d e=>by lia
def Ris.snoc{lo c:Nat}(h:Ris r xs lo c)(k:lo<c)(l:kx r xs (c-1)<kx r xs c):Ris r xs lo (c+1):=λa b d i m=>by
 by_cases e:b=c
 .subst e;by_cases j:a=b-1
  .subst j;exact l
  .have:=h a (b-1) d () ();lia
 .exact h a b d i ()
def Fal.snoc{lo c:Nat}(h:Fal r xs lo c)(k:lo<c)(l:kx r xs c<kx r xs (c-1)):Fal r xs lo (c+1):=λa b d i m=>by
 by_cases e:b=c
 .subst e;by_cases j:a=b-1
  .subst j;exact l
  .have:=h a (b-1) d () ();lia
 .exact h a b d i ()
def StOk.set{st:SortSt}(B:StOk o f st)(p:g.Perm (arrOf st)):StOk o f (setArr st g):=⟨B.kind,p.trans B.perm,B.ok⟩
def HA{i j:Nat}(b:j<=xs.size)(k:Nat):kx r (mirror xs i j ((j-i) /2)) k=if i<=k/\k<j then kx r xs (i+j-1-k)else kx r xs k:=by
 have e:=getElem?_mirror_all (i:=i) b k;by_cases a:i<=k/\k<j
 .rw[wB a]at e⊢;exact dN r (pc e)
 .rw[wA a]at e⊢;exact dN r (pc e)
def Mz{st:SortSt}{lo l:Nat}{Q:Option Nat->SortSt->Prop}(K:Asks M A s o r f)(B:StOk o f st)(hn:lo+l<=f.size)(H:1<=l)
  (h: ∀n p,StOk o f p->pendingOf p=pendingOf st->gallopOf p=gallopOf st->Out (arrOf st) (arrOf p) lo (lo+l)->1<=n->n<=l->Ris r (arrOf p) lo (lo+n)->Q (some n) p):wpS M A E s (countRun' lo l) Q st:=by
 rw[countRun'_eq];have y: ∀(m:Nat) (p:SortSt) (J:Option (Option Nat)×Nat->SortSt->Prop),StOk o f p->1<=m->m<=l->Ris r (arrOf p) lo (lo+m)->(∀n,m<=n->n<=l->Ris r (arrOf p) lo (lo+n)->(n<l->kx r (arrOf p) (lo+n)<kx r (arrOf p) (lo+n-1))->J (none,n) p)->
   wpS M A E s (forIn [m:l] ((none,m):Option (Option Nat)×Nat) λ_ t=>do
    let L <-ltAt' (lo+t.snd) (lo+t.snd-1)
    match L with
    |some u=>if u=true then pure (ForInStep.done (none,t.snd))else pure (ForInStep.yield (none,t.snd+1))
    |_=>pure (ForInStep.done (some none,t.snd))) J p:=λm p J Y m1 N up q=>by
  refine j8 (I:=λi c d=>d=p/\c=(none,i)/\Ris r (arrOf p) lo (lo+i)) (λi c d rh zj w=>?_) (λc d w=>?_) ⟨zZ,zZ,up⟩
  .obtain⟨rfl,rfl,v⟩:=w;refine c7 (zn K Y (by show lo+i<_;lia) (by show lo+i-1<_;lia) ?_);by_cases c:kx r (arrOf d) (lo+i)<kx r (arrOf d) (lo+i-1)
   .rw[eJ c];exact df (q i rh () v λ_=>c)
   .rw[fy c];have ne:=K.apart Y.perm (i:=lo+i) (j:=lo+i-1) () () ();exact df ⟨zZ,zZ,v.snoc () ()⟩
  .obtain⟨rfl,rfl,v⟩:=w;rw[show max m l=l by lia]at v⊢;exact q l N (cO _) v λz=>wC z (me _)
 refine c7 (y 1 st _ B (cO _) H Ris.one λn O G up stop=>?_);dsimp only;by_cases e:n=l
 .rw[wB (by simpa using e)];exact df (h n st B zZ zZ (Out.refl _ _ _) O G up)
 rw[wA (by simpa using e)];have T:=stop ();by_cases e2:n>1
 .rw[wB e2];refine c7 (zn K B () () ?_);rw[eJ (up lo (lo+n-1) (cO _) () ())];exact df (h n st B zZ zZ (Out.refl _ _ _) O G up)
 rw[wA e2];have en:n=1:=by lia
 subst en;refine c7 (uk (nV ⟨zZ,?_⟩));have C:Fal r (arrOf st) lo (lo+2):=λa b H h2 h3=>by
  have ea:a=lo:=by lia
  have eb:b=lo+1:=by lia
  subst ea eb;exact T
 refine c7 (kS (j8 (I:=λi c d=>d=st/\c=(none,i,0)/\Fal r (arrOf st) lo (lo+i)) (Q:=λc d=>d=st/\ ∃m,c=(none,m,0)/\2<=m/\m<=l/\Fal r (arrOf st) lo (lo+m)) (λi c d rh zj w=>?_) (λc d w=>?_) ⟨zZ,zZ,C⟩) ?_)
 .obtain⟨rfl,rfl,fa⟩:=w;refine c7 (zn K B (by show lo+i<_;lia) (by show lo+i-1<_;lia) ?_);by_cases c:kx r (arrOf d) (lo+i)<kx r (arrOf d) (lo+i-1)
  .rw[eJ c];exact df ⟨zZ,zZ,fa.snoc () c⟩
  .rw[fy c];have ne:=K.apart B.perm (i:=lo+i) (j:=lo+i-1) () () ();refine c7 (zn K B (by show lo+i-1<_;lia) (by show lo+i<_;lia) ?_);rw[eJ (by show kx r (arrOf d) (lo+i-1)<kx r (arrOf d) (lo+i);lia)];exact df ⟨zZ,i,zZ,(),(),fa⟩
 .obtain⟨rfl,rfl,fa⟩:=w;refine⟨zZ,_,zZ,(),(),fa⟩
 .rintro c d ⟨rfl,m,rfl,m2,N,fa⟩;dsimp only;obtain⟨m,rfl⟩: ∃k,m=k+1:=pP λz=>by rw[z]at m2;exact wC m2 (by decide)
  rw[wA (me 0)];rw[reverseSlice'_eq];have sz:=qe B.perm;have x:lo+(m+1)<=(arrOf d).size:=by lia
  have B2:StOk o f (setArr d (mirror (arrOf d) lo (lo+(m+1)) ((lo+(m+1)-lo) /2))):=B.set (mirror_perm _ _ _ _);have U:Ris r (mirror (arrOf d) lo (lo+(m+1)) ((lo+(m+1)-lo) /2)) lo (lo+(m+1)):=λa b H h2 h3=>by
   rw[HA x,HA x,wB (),wB ()];exact fa _ _ (show lo<=lo+(lo+m)-b from ER ()) (show lo+(lo+m)-b<lo+(lo+m)-a from Nat.sub_lt_sub_left () h2) (show lo+(lo+m)-a<lo+(m+1)from yX () ())
  have D:Out (arrOf d) (mirror (arrOf d) lo (lo+(m+1)) ((lo+(m+1)-lo) /2)) lo (lo+l):=λk hk=>by
   rw[getElem?_mirror_all x,wA ()]
  refine c7 (oI (c7 (y (m+1) _ _ B2 () N U λn O G up stop=>?_)));exact df (h n _ B2 zZ zZ D () G up)
end
section
variable{M:Model}{A:Ar}{E:VP}{s:Sh}{b:SortKind}{r:Keyed->Int}{a f g:Array Keyed}
def Hz{c d:Nat}(j:c<f.size)(l:d<=c)(k:Nat):kx r (bubble f c d) k=if k=c-d then kx r f c else if c-d<k/\k<=c then kx r f (k-1)else kx r f k:=by
 have e:=getElem?_bubble j d l k;by_cases h:k=c-d
 .rw[wB h]at e⊢;exact dN r (pc e)
 .rw[wA h]at e⊢;by_cases i:c-d<k/\k<=c
  .rw[wB i]at e⊢;exact dN r (pc e)
  .rw[wA i]at e⊢;exact dN r (pc e)
def KQ{st:SortSt}{lo n ok:Nat}{Q:Bool->SortSt->Prop}(K:Asks M A s b r a)(B:StOk b a st)(hn:lo+n<=a.size)(ab:ok<=n)(hs:Ris r (arrOf st) lo (lo+ok))
  (h: ∀e,StOk b a e->pendingOf e=pendingOf st->gallopOf e=gallopOf st->Out (arrOf st) (arrOf e) lo (lo+n)->Ris r (arrOf e) lo (lo+n)->Q true e):wpS M A E s (binarySort' lo n ok) Q st:=by
 rw[binarySort'_eq];refine c7 (kS (j8 (I:=λk c e=>c=(none,Unit.unit)/\StOk b a e/\pendingOf e=pendingOf st/\gallopOf e=gallopOf st/\Out (arrOf st) (arrOf e) lo (lo+n)/\Ris r (arrOf e) lo (lo+min k n))
  (Q:=λc e=>c=(none,Unit.unit)/\StOk b a e/\pendingOf e=pendingOf st/\gallopOf e=gallopOf st/\Out (arrOf st) (arrOf e) lo (lo+n)/\Ris r (arrOf e) lo (lo+n)) ?step ?fin ?init) ?post)
 case post=>
  rintro c e ⟨rfl,D,L,N,o,u⟩;exact df (h e D L N o u)
 case init=>
  refine⟨zZ,B,zZ,zZ,Out.refl _ _ _,λi j y G h3=>?_⟩;exact hs i j y G ()
 case fin=>
  rintro c e ⟨hc,D,L,N,o,u⟩;refine⟨hc,D,L,N,o,?_⟩;rwa[show min (max (max ok 1) n) n=n by lia]at u
 case step=>
  rintro k c e ae af ⟨rfl,D,L,N,o,C⟩;rw[show min k n=k by lia]at C;have sz:=qe D.perm;refine c7 (kS (j8 (I:=λx c m=>m=e/\ ∃l q,c=(none,l,q)/\l<=q/\q<=k/\q+x<=k+l/\
    (∀i,i<l->kx r (arrOf e) (lo+i)<kx r (arrOf e) (lo+k))/\(∀i,q<=i->i<k->kx r (arrOf e) (lo+k)<kx r (arrOf e) (lo+i)))
   (Q:=λc m=>m=e/\ ∃l q,c=(none,l,q)/\l<=k/\
    (∀i,i<l->kx r (arrOf e) (lo+i)<kx r (arrOf e) (lo+k))/\(∀i,l<=i->i<k->kx r (arrOf e) (lo+k)<kx r (arrOf e) (lo+i))) ?istep ?ifin ?iinit) ?ipost)
  case iinit=>exact⟨zZ,0,k,zZ,(),(),(),λi hi=>by lia,λi y G=>by lia⟩
  case ifin=>
   rintro c m ⟨rfl,l,q,rfl,T,w,hm,t,v⟩;have:l=q:=by lia
   subst this;exact⟨zZ,l,l,zZ,w,t,v⟩
  case istep=>
   rintro x c m _ ag ⟨rfl,l,q,rfl,T,w,hm,t,v⟩;dsimp only;by_cases H:l≥q
   .rw[wB H];have:l=q:=by lia
    subst this;exact df ⟨zZ,l,l,zZ,w,t,v⟩
   .rw[wA H];have d1:l<=(l+q) /2:=by lia
    have U:(l+q) /2<q:=by lia
    clear H;generalize(l+q) /2=d at d1 U⊢;have dk:d<k:=gh U w;refine c7 (zn K D () () ?_);by_cases p:kx r (arrOf m) (lo+k)<kx r (arrOf m) (lo+d)
    .simp only[p,decide_true,if_true];refine df ⟨zZ,l,d,zZ,d1,fQ dk,(),t,λi y G=>?_⟩;by_cases z:i=d
     .subst z;exact p
     .exact xz p (C (lo+d) (lo+i) (nP ..) (AZ (yF y (fh z)) _) (AZ G _))
    .simp only[p,decide_false,Bool.false_eq_true,if_false];have ne:=K.apart D.perm (i:=lo+k) (j:=lo+d) () () ();refine df ⟨zZ,d+1,q,zZ,U,w,(),λi y=>?_,v⟩;by_cases z:i=d
     .subst z;exact Int.lt_iff_le_and_ne.mpr ⟨Int.not_lt.mp p,ne.symm⟩
     .exact Int.lt_of_lt_of_le (C (lo+i) (lo+d) (nP ..) (AZ (yF (AT y) z) _) (AZ dk _)) (Int.not_lt.mp p)
  case ipost=>
   rintro c m ⟨rfl,l,q,rfl,O,t,v⟩;show wpS _ _ _ _ (do moveDown' (lo+k) (lo+l);pure (ForInStep.yield (none,Unit.unit))) _ _
   rw[moveDown'_eq];have J:lo+k<(arrOf m).size:=by lia
   refine c7 (oI (df ⟨zZ,D.set (bubble_perm _ _ _),L,N,o.trans λj hj=>?_,?_⟩))
   .show(bubble (arrOf m) (lo+k) (lo+k-(lo+l)))[j]? =_;rw[getElem?_bubble J _ (),Nat.sub_sub_self (xX O lo),wA (),wA ()]
   .rw[show min (k+1) n=k+1 by lia];intro i j y G h3;show kx r (bubble (arrOf m) (lo+k) (lo+k-(lo+l))) i<kx r (bubble (arrOf m) (lo+k) (lo+k-(lo+l))) j
    rw[Hz J (),Hz J (),Nat.sub_sub_self (xX O lo)];have Y: ∀i,lo<=i->i<lo+l->kx r (arrOf m) i<kx r (arrOf m) (lo+k):=λi y G=>by
     have:=t (i-lo) ();rwa[show lo+(i-lo)=i by lia]at this
    have aa: ∀i,lo+l<=i->i<lo+k->kx r (arrOf m) (lo+k)<kx r (arrOf m) i:=λi y G=>by
     have:=v (i-lo) () ();rwa[show lo+(i-lo)=i by lia]at this
    repeat' split
    all_goals first
     |(exfalso;lia)
     |exact Y _ () ()
     |exact aa _ () ()
     |exact C _ _ () () ()
def qj:Bool->Keyed->Array Keyed->Nat->Nat->Nat->StateT SortSt Sem (Option Nat):=sortPriv%PySem.Builtin.gallop
def MN(left:Bool)(j:Keyed)(l:Array Keyed)(h n c:Nat):qj left j l h n c=(do
 let e (i:Nat):StateT SortSt Sem (Option Bool):=do
  let x <-elem' l (h+i)
  if left then lt' x j else return (<-lt' j x).map (!·)
 let mut lastofs:=0
 let mut ofs:=1
 let mut lo:=0
 let mut hi:=0
 let some right <-e c|return none
 if right then
  let d:=n-c
  for _ in[0:n] do
   if ofs≥d then break
   let some more <-e (c+ofs)|return none
   if !more then break
   lastofs:=ofs
   ofs:=2 * ofs+1
  lo:=c+lastofs+1
  hi:=c+min ofs d
 else
  let d:=c+1
  for _ in[0:n] do
   if ofs≥d then break
   let some k <-e (c-ofs)|return none
   if k then break
   lastofs:=ofs
   ofs:=2 * ofs+1
  lo:=c+1-min ofs d
  hi:=c-lastofs
 for _ in[0:n] do
  if lo≥hi then break
  let m:=lo+(hi-lo) /2
  let some more <-e m|return none
  if more then lo:=m+1 else hi:=m
 return some hi):=rfl
end
section
variable{M:Model}{A:Ar}{E:VP}{s:Sh}{b:SortKind}{r:Keyed->Int}{a d m:Array Keyed}
def vy{st:SortSt}{left:Bool}{v:Keyed}{u:Array Keyed}{p n t:Nat}{Q:Option Nat->SortSt->Prop}(K:Asks M A s b r a)(hk:kindOf st=b)(hz:p+n<=u.size)(mem: ∀i,i<n->u.getD (p+i) d0∈a)(mk:v∈a)(ne: ∀i,i<n->kx r u (p+i)≠r v)
  (up:Ris r u p (p+n)) (hh:t<n) (q: ∀k,k<=n->(∀i,i<k->kx r u (p+i)<r v)->(∀i,k<=i->i<n->r v<kx r u (p+i))->Q (some k) st):wpS M A E s (qj left v u p n t) Q st:=by
 rw[MN];have J: ∀(i:Nat) (Q:Option Bool->SortSt->Prop),i<n->Q (some (decide (kx r u (p+i)<r v))) st->wpS M A E s (do
   let x <-elem' u (p+i)
   if left then lt' x v else return (<-lt' v x).map (!·)) Q st:=λi Q C hQ=>by
  refine c7 (hZ () ?_);cases left with
  |true=>exact wX K hk (mem i C) mk hQ
  | false=>
   refine c7 (wX K hk mk (mem i C) (df ?_));have e:(!decide (r v<r (u.getD (p+i) d0)))=decide (kx r u (p+i)<r v):=by
    have:=ne i C;by_cases z:kx r u (p+i)<r v
    .rw[eJ z,fy (show ¬r v<r (u.getD (p+i) d0)from λy=>by have:r v<kx r u (p+i):=y;lia)];rfl
    .rw[fy z,eJ (show r v<r (u.getD (p+i) d0)from by show r v<kx r u (p+i);lia)];rfl
   show Q (some (!decide (r v<r (u.getD (p+i) d0)))) st;rw[e];exact hQ
 have dn: ∀i j,i<=j->j<n->kx r u (p+j)<r v->kx r u (p+i)<r v:=λi j ij jn l=>by
  by_cases z:i=j
  .subst z;exact l
  .have:=up (p+i) (p+j) () () ();lia
 have T: ∀i j,i<=j->j<n-> ¬kx r u (p+i)<r v->r v<kx r u (p+j):=λi j ij jn l=>by
  have n1:=ne i ();by_cases z:i=j
  .subst z;lia
  .have:=up (p+i) (p+j) () () ();lia
 have fin: ∀(lo C:Nat) (w:SortSt) (f:Nat->Option (Option Nat)×Nat×Nat->StateT SortSt Sem (ForInStep (Option (Option Nat)×Nat×Nat))) (g:Option (Option Nat)×Nat×Nat->StateT SortSt Sem (Option Nat)),w=st->lo<=C->C<=n->(∀i,i<lo->kx r u (p+i)<r v)->(∀i,C<=i->i<n->r v<kx r u (p+i))->
   (∀x l h (R:ForInStep (Option (Option Nat)×Nat×Nat)->SortSt->Prop),l≥h->R (.done (none,l,h)) st->wpS M A E s (f x (none,l,h)) R st)->
   (∀x l h (R:ForInStep (Option (Option Nat)×Nat×Nat)->SortSt->Prop),l<h->h<=n->R (.yield (if kx r u (p+(l+(h-l) /2))<r v then(none,l+(h-l) /2+1,h)else(none,l,l+(h-l) /2))) st->wpS M A E s (f x (none,l,h)) R st)->
   (∀h,Q (some h) st->wpS M A E s (g (none,h,h)) Q st)->wpS M A E s (forIn [0:n] (none,lo,C) f >>= g) Q w:=λlo C w f g e lh hn dl du f1 f2 f3=>by
  subst e;refine c7 (kS (j8 (I:=λx c B=>B=w/\ ∃l h,c=(none,l,h)/\l<=h/\h<=n/\h+x<=n+l/\(∀i,i<l->kx r u (p+i)<r v)/\ ∀i,h<=i->i<n->r v<kx r u (p+i))
   (Q:=λc B=>B=w/\ ∃h,c=(none,h,h)/\h<=n/\(∀i,i<h->kx r u (p+i)<r v)/\ ∀i,h<=i->i<n->r v<kx r u (p+i)) ?step ?stop ⟨zZ,lo,C,zZ,lh,hn,(),dl,du⟩) ?post)
  case step=>
   rintro x c B _ hx ⟨rfl,l,h,rfl,G,L,D,U,Y⟩;by_cases z:l≥h
   .have:l=h:=by lia
    subst this;exact f1 x l l _ z ⟨zZ,l,zZ,L,U,Y⟩
   .refine f2 x l h _ () L ?_;by_cases c:kx r u (p+(l+(h-l) /2))<r v
    .rw[wB c];exact⟨zZ,_,_,zZ,(),(),(),λi C=>dn i _ () () c,Y⟩
    .rw[wA c];exact⟨zZ,_,_,zZ,(),(),(),U,λi N O=>T _ i N O c⟩
  case stop=>
   rintro c B ⟨rfl,l,h,rfl,G,L,D,U,Y⟩;have:l=h:=by lia
   subst this;exact⟨zZ,l,zZ,L,U,Y⟩
  case post=>
   rintro c B ⟨rfl,h,rfl,O,U,Y⟩;exact f3 h (q h O U Y)
 refine c7 (J t _ hh ?_);by_cases c0:kx r u (p+t)<r v
 .rw[eJ c0];dsimp only;rw[wB zZ];refine c7 (kS (j8 (I:=λx c w=>w=st/\ ∃l o,c=(none,l,o)/\l<o/\x+1<=o/\l<n-t/\kx r u (p+(t+l))<r v)
   (Q:=λc w=>w=st/\ ∃l o,c=(none,l,o)/\l<o/\l<n-t/\kx r u (p+(t+l))<r v/\(o<n-t-> ¬kx r u (p+(t+o))<r v)) ?step ?stop ⟨zZ,0,1,zZ,(),(),(),c0⟩) ?post)
  case step=>
   rintro x c w _ hx ⟨rfl,l,o,rfl,G,L,D,l4⟩;dsimp only;by_cases z:o≥n-t
   .rw[wB z];exact df ⟨zZ,l,o,zZ,G,D,l4,λy=>by lia⟩
   .rw[wA z];refine c7 (J _ _ () ?_);by_cases c:kx r u (p+(t+o))<r v
    .rw[eJ c];exact df ⟨zZ,o,_,zZ,(),(),(),c⟩
    .rw[fy c];exact df ⟨zZ,l,o,zZ,G,D,l4,λ_=>c⟩
  case stop=>
   rintro c w ⟨rfl,l,o,rfl,G,L,D,l4⟩;exact⟨zZ,l,o,zZ,G,D,l4,λy=>by lia⟩
  case post=>
   rintro c w ⟨rfl,l,o,rfl,G,D,l4,l5⟩;dsimp only;refine fin (t+l+1) (t+min o (n-t)) _ _ _ zZ (xX (Nat.le_min.mpr ⟨G,D⟩) t) (dL (xX (Nat.min_le_right ..) t) (pq (oX (fQ hh)))) (λi C=>dn i (t+l) (AT C) (Nat.add_lt_of_lt_sub' D) l4) (λi N O=>by
    by_cases z:o<n-t
    .exact T (t+o) i (by rw[u0 (fQ z)]at N;exact N) O (l5 z)
    .rw[Nat.min_eq_right (AR z),oX (fQ hh)]at N;exact wC O (Nat.not_lt.mpr N)) (λx l h R z H=>?_) (λx l h R z hn H=>?_) (λh hq=>df hq)
   .dsimp only;rw[wB z];exact df H
   .dsimp only;rw[wA ()];refine c7 (J _ _ () ?_);by_cases c:kx r u (p+(l+(h-l) /2))<r v
    .rw[wB c]at H;rw[eJ c];exact df H
    .rw[wA c]at H;rw[fy c];exact df H
 .rw[fy c0];dsimp only;rw[wA (by decide)];refine c7 (kS (j8 (I:=λx c w=>w=st/\ ∃l o,c=(none,l,o)/\l<o/\x+1<=o/\l<t+1/\ ¬kx r u (p+(t-l))<r v)
   (Q:=λc w=>w=st/\ ∃l o,c=(none,l,o)/\l<o/\l<t+1/\ ¬kx r u (p+(t-l))<r v/\(o<t+1->kx r u (p+(t-o))<r v)) ?step ?stop ⟨zZ,0,1,zZ,(),(),(),c0⟩) ?post)
  case step=>
   rintro x c w _ hx ⟨rfl,l,o,rfl,G,L,D,l4⟩;dsimp only;by_cases z:o≥t+1
   .rw[wB z];exact df ⟨zZ,l,o,zZ,G,D,l4,λy=>by lia⟩
   .rw[wA z];refine c7 (J _ _ () ?_);by_cases c:kx r u (p+(t-o))<r v
    .rw[eJ c];exact df ⟨zZ,l,o,zZ,G,D,l4,λ_=>c⟩
    .rw[fy c];exact df ⟨zZ,o,_,zZ,(),(),(),c⟩
  case stop=>
   rintro c w ⟨rfl,l,o,rfl,G,L,D,l4⟩;exact⟨zZ,l,o,zZ,G,D,l4,λy=>by lia⟩
  case post=>
   rintro c w ⟨rfl,l,o,rfl,G,D,l4,l5⟩;dsimp only;refine fin (t+1-min o (t+1)) (t-l) _ _ _ zZ (dL (Nat.sub_le_sub_left (Nat.le_min.mpr ⟨G,D⟩) _) (pq (Nat.add_sub_add_right ..))) (dL (Nat.sub_le ..) (fQ hh)) (λi C=>by
    by_cases z:o<t+1
    .rw[u0 (fQ z),Nat.succ_sub (AT z)]at C;exact dn i (t-o) (AT C) (xG (Nat.sub_le ..) hh) (l5 z)
    .rw[Nat.min_eq_right (AR z),nG]at C;exact wC C (tq _)) (λi N O=>T (t-l) i N O l4) (λx l h R z H=>?_) (λx l h R z hn H=>?_) (λh hq=>df hq)
   .dsimp only;rw[wB z];exact df H
   .dsimp only;rw[wA ()];refine c7 (J _ _ () ?_);by_cases c:kx r u (p+(l+(h-l) /2))<r v
    .rw[wB c]at H;rw[eJ c];exact df H
    .rw[wA c]at H;rw[fy c];exact df H
end
abbrev T5:Type:=Option (Array Keyed)×Array Keyed×Nat×Nat×Nat
abbrev T6:Type:=Option (Array Keyed)×Array Keyed×Nat×Nat×Nat×Nat
abbrev T7:Type:=Option (Array Keyed)×Array Keyed×Nat×Nat×Nat×Nat×Nat
def Cj:Array Keyed->Array Keyed->StateT SortSt Sem (Array Keyed):=sortPriv%PySem.Builtin.mergeLo
def DV:Array Keyed->Array Keyed->StateT SortSt Sem (Array Keyed):=sortPriv%PySem.Builtin.mergeHi
def v8:Nat->StateT SortSt Sem Unit:=sortPriv%PySem.Builtin.setMinGallop
def Kc(g:Nat):v8 g=modify λst=>SortSt.mk' (kindOf st) (arrOf st) (pendingOf st) g (failedOf st):=rfl
section
variable(a b:Array Keyed)
abbrev mG(c:Array Keyed)(d e:Nat):Array Keyed:=c++a.extract d a.size++b.extract e b.size
abbrev pE(c:Array Keyed)(d e:Nat):Array Keyed:=c++b.extract e b.size++a.extract d a.size
def DC(mg:Nat)(c:T6):StateT SortSt Sem (ForInStep T6):=do
 let some d <-lt' (<-elem' b c.2.2.2.1) (<-elem' a c.2.2.1)|pure (.done (some (mG a b c.2.1 c.2.2.1 c.2.2.2.1),c.2.1,c.2.2.1,c.2.2.2.1,c.2.2.2.2.1,c.2.2.2.2.2))
 if d then
  let x <-elem' b c.2.2.2.1
  if c.2.2.2.1+1==b.size then pure (.done (some (mG a b (c.2.1.push x) c.2.2.1 (c.2.2.2.1+1)),c.2.1.push x,c.2.2.1,c.2.2.2.1+1,0,c.2.2.2.2.2+1))
  else if c.2.2.2.2.2+1≥mg then pure (.done (none,c.2.1.push x,c.2.2.1,c.2.2.2.1+1,0,c.2.2.2.2.2+1))
  else pure (.yield (none,c.2.1.push x,c.2.2.1,c.2.2.2.1+1,0,c.2.2.2.2.2+1))
 else
  let x <-elem' a c.2.2.1
  if c.2.2.1+1+1==a.size then pure (.done (some (pE a b (c.2.1.push x) (c.2.2.1+1) c.2.2.2.1),c.2.1.push x,c.2.2.1+1,c.2.2.2.1,c.2.2.2.2.1+1,0))
  else if c.2.2.2.2.1+1≥mg then pure (.done (none,c.2.1.push x,c.2.2.1+1,c.2.2.2.1,c.2.2.2.2.1+1,0))
  else pure (.yield (none,c.2.1.push x,c.2.2.1+1,c.2.2.2.1,c.2.2.2.2.1+1,0))
def oY(c:Array Keyed)(d e mg k f:Nat):StateT SortSt Sem (ForInStep T7):=do
 let x <-elem' a d
 if d+1+1==a.size then pure (.done (some (pE a b (c.push x) (d+1) e),c.push x,d+1,e,mg,k,f))
 else if k<7&&f<7 then pure (.done (none,c.push x,d+1,e,mg,k,f))
 else pure (.yield (none,c.push x,d+1,e,mg,k,f))
def pi(d:Array Keyed)(f c mg k g:Nat):StateT SortSt Sem (ForInStep T7):=do
 let y <-elem' b c
 if c+1==b.size then pure (.done (some (mG a b (d.push y) f (c+1)),d.push y,f,c+1,mg,k,g))
 else do
  let some e <-qj true (<-elem' a f) b (c+1) (b.size-(c+1)) 0|pure (.done (some (mG a b (d.push y) f (c+1)),d.push y,f,c+1,mg,k,g))
  if e>0 then
   if c+1+e==b.size then pure (.done (some (mG a b (d.push y++b.extract (c+1) (c+1+e)) f (c+1+e)),d.push y++b.extract (c+1) (c+1+e),f,c+1+e,mg,k,e))
   else oY a b (d.push y++b.extract (c+1) (c+1+e)) f (c+1+e) mg k e
  else oY a b (d.push y) f (c+1) mg k e
def oU(c:T7)(mg:Nat):StateT SortSt Sem (ForInStep T7):=do
 v8 mg
 let some k <-qj false (<-elem' b c.2.2.2.1) a c.2.2.1 (a.size-c.2.2.1) 0|pure (.done (some (mG a b c.2.1 c.2.2.1 c.2.2.2.1),c.2.1,c.2.2.1,c.2.2.2.1,mg,c.2.2.2.2.2.1,c.2.2.2.2.2.2))
 if k>0 then
  if c.2.2.1+k+1==a.size then pure (.done (some (pE a b (c.2.1++a.extract c.2.2.1 (c.2.2.1+k)) (c.2.2.1+k) c.2.2.2.1),c.2.1++a.extract c.2.2.1 (c.2.2.1+k),c.2.2.1+k,c.2.2.2.1,mg,k,c.2.2.2.2.2.2))
  else if c.2.2.1+k==a.size then pure (.done (some (mG a b (c.2.1++a.extract c.2.2.1 (c.2.2.1+k)) (c.2.2.1+k) c.2.2.2.1),c.2.1++a.extract c.2.2.1 (c.2.2.1+k),c.2.2.1+k,c.2.2.2.1,mg,k,c.2.2.2.2.2.2))
  else pi a b (c.2.1++a.extract c.2.2.1 (c.2.2.1+k)) (c.2.2.1+k) c.2.2.2.1 mg k c.2.2.2.2.2.2
 else pi a b c.2.1 c.2.2.1 c.2.2.2.1 mg k c.2.2.2.2.2.2
def EW(c:T7):StateT SortSt Sem (ForInStep T7):=if c.2.2.2.2.1>1 then oU a b c (c.2.2.2.2.1-1)else oU a b c c.2.2.2.2.1
def BY(c:T5):StateT SortSt Sem (ForInStep T5):=do
 let e <-forIn [0:a.size+b.size] ((none,c.2.1,c.2.2.1,c.2.2.2.1,0,0):T6) λ_ e=>DC a b c.2.2.2.2 e
 match e.1 with
 |some r=>pure (.done (some r,e.2.1,e.2.2.1,e.2.2.2.1,c.2.2.2.2))
 | none=>do
  rule "list.sort.gallop"
  let d <-forIn [0:a.size+b.size] ((none,e.2.1,e.2.2.1,e.2.2.2.1,c.2.2.2.2+1,e.2.2.2.2.1,e.2.2.2.2.2):T7) λ_ d=>EW a b d
  match d.1 with
  |some r=>pure (.done (some r,d.2.1,d.2.2.1,d.2.2.2.1,d.2.2.2.2.1))
  |none=>do
   v8 (d.2.2.2.2.1+1)
   pure (.yield (none,d.2.1,d.2.2.1,d.2.2.2.1,d.2.2.2.2.1+1))
def xu:StateT SortSt Sem (Array Keyed):=do
 rule "list.sort.merge-lo"
 let x <-elem' b 0
 if 1==b.size then pure (mG a b #[x] 0 1)
 else if 0+1==a.size then pure (pE a b #[x] 0 1)
 else do
  let st <-get
  let c <-forIn [0:a.size+b.size] ((none,#[x],0,1,gallopOf st):T5) λ_ c=>BY a b c
  match c.1 with
  |some r=>pure r
  |none=>unsupported "internal:list.sort.merge-bound"
def LV:Cj a b=xu a b:=by
 refine dN (bind _) (funext λ_=>?_);refine dN (bind (elem' b 0)) (funext λx=>?_);refine wc zZ (λ_=>rfl) (λ_=>?_);refine wc zZ (λ_=>rfl) (λ_=>?_);refine dN (bind get) (funext λst=>?_);refine congr (dN bind (dN (forIn [0:a.size+b.size] _) (funext λu=>funext λc=>?_))) (funext λc=>?_)
 .refine congr (dN bind (dN (forIn [0:a.size+b.size] _) (funext λu=>funext λd=>rfl))) (funext λd=>?_);obtain⟨e,f,h,i,j,k⟩:=d;cases e with
  |some e=>rfl
  | none=>
   refine dN (bind _) (funext λ_=>?_);refine congr (dN bind (dN (forIn [0:a.size+b.size] _) (funext λu=>funext λg=>?_))) (funext λg=>?_)
   .refine wc zZ (λ_=>?_) (λ_=>?_)
    .rfl
    .rfl
   .obtain⟨l,_⟩:=g;cases l<;>rfl
 .obtain⟨r,_⟩:=c;cases r<;>rfl
end
abbrev Up(r:Keyed->Int)(l:List Keyed):Prop:=l.Pairwise λx y=>r x<r y
structure Mg(r:Keyed->Int)(la lb out:List Keyed)(ia ib:Nat):Prop where
 perm:(out++la.drop ia++lb.drop ib).Perm (la++lb)
 so:Up r out
 oa: ∀x∈out,∀y∈la.drop ia,r x<r y
 ob: ∀x∈out,∀y∈lb.drop ib,r x<r y
section
variable{r:Keyed->Int}{a b out:List Keyed}{c d:Nat}
def Ae{l:List Keyed}(h:Up r l)(i:Nat):Up r (l.drop i):=pQ (List.drop_sublist i l) h
def FC{l:List Keyed}(h:Up r l)(i k:Nat):Up r ((l.drop i).take k)/\ ∀x∈(l.drop i).take k,∀y∈l.drop (i+k),r x<r y:=by
 have z:=Ae h i;rw[<-on k (l.drop i)]at z;obtain⟨f,_,e⟩:=jt.mp z;rw[List.drop_drop]at e;exact⟨f,e⟩
def Mg.len(m:Mg r a b out c d)(e:c<=a.length)(f:d<=b.length):out.length+(a.length-c)+(b.length-d)=a.length+b.length:=by
 have z:=m.perm.length_eq;rw[dF,dF,dF,oD,oD]at z;exact z
def Mg.moveA(m:Mg r a b out c d)(i:Up r a)(k:Nat)(h: ∀x∈(a.drop c).take k,∀y∈b.drop d,r x<r y):Mg r a b (out++(a.drop c).take k) (c+k) d:=by
 obtain⟨j,l⟩:=FC i c k;have e:(a.drop c).take k++a.drop (c+k)=a.drop c:=by rw[<-List.drop_drop];exact on k _
 have sub: ∀y∈a.drop (c+k),y∈a.drop c:=λy f=>by rw[<-e];exact dD.mpr (.inr f)
 refine⟨?_,jt.mpr ⟨m.so,j,λx g y f=>m.oa x g y (vi f)⟩,λx g y f=>?_,λx g y f=>?_⟩
 .have z:=m.perm;rw[<-e,<-fO]at z;exact z
 .rcases dD.mp g with z|z
  .exact m.oa x z y (sub y f)
  .exact l x z y f
 .rcases dD.mp g with z|z
  .exact m.ob x z y f
  .exact h x z y f
def Mg.moveB(m:Mg r a b out c d)(i:Up r b)(k:Nat)(h: ∀x∈(b.drop d).take k,∀y∈a.drop c,r x<r y):Mg r a b (out++(b.drop d).take k) c (d+k):=by
 obtain⟨j,l⟩:=FC i d k;have e:(b.drop d).take k++b.drop (d+k)=b.drop d:=by rw[<-List.drop_drop];exact on k _
 have sub: ∀y∈b.drop (d+k),y∈b.drop d:=λy f=>by rw[<-e];exact dD.mpr (.inr f)
 refine⟨?_,jt.mpr ⟨m.so,j,λx g y f=>m.ob x g y (vi f)⟩,λx g y f=>?_,λx g y f=>?_⟩
 .have z:=m.perm;rw[<-e]at z;refine List.Perm.trans ?_ z;rw[fO,fO,fO];refine xj _ ?_;rw[<-fO,<-fO];exact zO _ At
 .rcases dD.mp g with z|z
  .exact m.oa x z y f
  .exact h x z y f
 .rcases dD.mp g with z|z
  .exact m.ob x z y (sub y f)
  .exact l x z y f
def gQ(r:Keyed->Int)(a b out:List Keyed):Prop:=out.Perm (a++b)/\Up r out
def Mg.endB(m:Mg r a b out c d)(e:Up r a)(h:b.length<=d):gQ r a b (out++a.drop c++b.drop d):=by
 refine⟨m.perm,?_⟩;rw[List.drop_of_length_le h,iV];exact jt.mpr ⟨m.so,Ae e c,m.oa⟩
def Mg.endA(m:Mg r a b out c d)(e:Up r b)(h:a.length<=c):gQ r a b (out++a.drop c++b.drop d):=by
 refine⟨m.perm,?_⟩;rw[List.drop_of_length_le h,iV];exact jt.mpr ⟨m.so,Ae e d,m.ob⟩
def Mg.last(m:Mg r a b out c d)(f:Up r b)(h:c+1=a.length)(top: ∀y∈b,∀x∈a.drop c,r y<r x):gQ r a b (out++b.drop d++a.drop c):=by
 refine⟨List.Perm.trans ?_ m.perm,?_⟩
 .rw[fO,fO];exact xj _ At
 .obtain⟨x,g⟩: ∃x,a.drop c=[x]:=List.length_eq_one_iff.mp (by rw[oD];lia);refine jt.mpr ⟨jt.mpr ⟨m.so,Ae f d,m.ob⟩,by rw[g];exact ul _ _,λy i x e=>?_⟩
  rcases dD.mp i with z|z
  .exact m.oa y z x e
  .exact top y (Cz z) x e
end
structure Eqv(st st':SortSt):Prop where
 kind:kindOf st'=kindOf st
 arr:arrOf st'=arrOf st
 pend:pendingOf st'=pendingOf st
 ok:failedOf st'=failedOf st
def Eqv.refl(st:SortSt):Eqv st st:=⟨zZ,zZ,zZ,zZ⟩
def Eqv.trans{a b c:SortSt}(h:Eqv a b)(d:Eqv b c):Eqv a c:=⟨d.kind.trans h.kind,d.arr.trans h.arr,d.pend.trans h.pend,d.ok.trans h.ok⟩
section
variable{M:Model}{A:Ar}{E:VP}{s:Sh}{κ:SortKind}{r:Keyed->Int}{a₀ a b out:Array Keyed}{ia ib:Nat}
def BM{g:Nat}{st:SortSt}{Q:Unit->SortSt->Prop}(h: ∀c,Eqv st c->Q ⟨⟩ c):wpS M A E s (v8 g) Q st:=by
 rw[Kc];exact oI (h _ ⟨zZ,zZ,zZ,zZ⟩)
def zQ(a:Array Keyed)(i:Nat):(a.extract i a.size).toList=a.toList.drop i:=by
 rw[zI,AQ,xM (by rw[oD,eO];exact cO _)]
def Fs(a:Array Keyed)(i k:Nat):(a.extract i (i+k)).toList=(a.toList.drop i).take k:=by
 rw[zI,AQ,vj]
def zf:(mG a b out ia ib).toList=out.toList++a.toList.drop ia++b.toList.drop ib:=by
 rw[m6,m6,zQ,zQ]
def Ab:(pE a b out ia ib).toList=out.toList++b.toList.drop ib++a.toList.drop ia:=by
 rw[m6,m6,zQ,zQ]
def DJ{i:Nat}(h:i<a.size):a.toList.drop i=a.getD i d0::a.toList.drop (i+1):=by
 have z:=rc h;rw[<-lK]at z;obtain⟨c,d⟩:=cP.mp z;rw[yx c,d]
def BK{i:Nat}{x:Keyed}(h:x∈a.toList.drop i): ∃j,i<=j/\j<a.size/\a.getD j d0=x:=by
 obtain⟨j,c⟩:=vR h;rw[zg,lK]at c;exact⟨i+j,(),(xr.mp c).1,dy c⟩
def Dz{i k:Nat}{x:Keyed}(h:x∈(a.toList.drop i).take k): ∃j,j<k/\i+j<a.size/\a.getD (i+j) d0=x:=by
 obtain⟨j,c⟩:=vR h;rw[CH]at c;split at c
 .next l=>
  rw[zg,lK]at c;exact⟨j,l,(xr.mp c).1,dy c⟩
 .cases c
def vl{lo c:Nat}(h:Up r a.toList)(o:c<=a.size):Ris r a lo c:=λi j _ d p=>by
 have e: ∀k,k<a.size->a.toList[k]? =some (a.getD k d0):=λk f=>by rw[lK];exact rc f
 obtain⟨g,l⟩:=cP.mp (e i ());obtain⟨m,n⟩:=cP.mp (e j ());have z:=pV.mp h i j g m d;rw[l,n]at z;exact z
def i5{i:Nat}(h:i<a.size):a.getD i d0∈a.toList:=by
 rw[Cm];exact CN (rc h)
structure Two(κ:SortKind)(r:Keyed->Int)(a₀ a b:Array Keyed):Prop where
 ma: ∀x∈a.toList,x∈a₀
 mb: ∀x∈b.toList,x∈a₀
 sa:Up r a.toList
 sb:Up r b.toList
 ap: ∀x∈a.toList,∀y∈b.toList,r x≠r y
 a1:0<a.size
 b1:0<b.size
 lo: ∀x∈a.toList,r (b.getD 0 d0)<r x
 top: ∀y∈b.toList,r y<r (a.getD (a.size-1) d0)
abbrev Gd(r:Keyed->Int)(a b m:Array Keyed):Prop:=gQ r a.toList b.toList m.toList
def Two.tops(t:Two κ r a₀ a b){i:Nat}(h:i+1=a.size): ∀y∈b.toList,∀x∈a.toList.drop i,r y<r x:=λy c x d=>by
 obtain⟨j,f,g,rfl⟩:=BK d;have e:j=a.size-1:=by lia
 subst e;exact t.top y c
def zB{x:Keyed}:(out.push x).toList=out.toList++[x]:=wu
def Hu(t:Two κ r a₀ a b)(m:Mg r a.toList b.toList out.toList ia ib)(c:ia<a.size)(h: ∀y∈b.toList.drop ib,r (a.getD ia d0)<r y):Mg r a.toList b.toList (out.push (a.getD ia d0)).toList (ia+1) ib:=by
 have e:(a.toList.drop ia).take 1=[a.getD ia d0]:=by rw[DJ c];rfl
 have z:=m.moveA t.sa 1 (by rw[e];intro x d;rw[dw.mp d];exact h);rw[e]at z;rw[zB];exact z
def EL(t:Two κ r a₀ a b)(m:Mg r a.toList b.toList out.toList ia ib)(c:ib<b.size)(h: ∀y∈a.toList.drop ia,r (b.getD ib d0)<r y):Mg r a.toList b.toList (out.push (b.getD ib d0)).toList ia (ib+1):=by
 have e:(b.toList.drop ib).take 1=[b.getD ib d0]:=by rw[DJ c];rfl
 have z:=m.moveB t.sb 1 (by rw[e];intro x d;rw[dw.mp d];exact h);rw[e]at z;rw[zB];exact z
def below{x:Int}{i:Nat}(c:Up r a.toList)(g:i<a.size)(h:x<r (a.getD i d0)): ∀y∈a.toList.drop i,x<r y:=λy d=>by
 obtain⟨j,k,f,rfl⟩:=BK d;by_cases e:j=i
 .subst e;exact h
 .have:=vl (lo:=0) c (cO _) i j (jj _) () f;show x<kx r a j;have:x<kx r a i:=h;lia
def Nv{e:SortSt}{mg old t:Nat}{c:T6}{st:SortSt}{Q:ForInStep T6->SortSt->Prop}(K:Asks M A s κ r a₀)(T:Two κ r a₀ a b)(n:Eqv e st)(o:kindOf e=κ)(p:c=(none,out,ia,ib,c.2.2.2.2.1,c.2.2.2.2.2))(m:Mg r a.toList b.toList out.toList ia ib)(q:ia+1<a.size)(d:ib<b.size)(B:old+t<=out.size)
  (k: ∀w rest,Gd r a b w->Q (.done (some w,rest)) st) (l: ∀out ia ib x y,Mg r a.toList b.toList out.toList ia ib->ia+1<a.size->ib<b.size->old+t+1<=out.size->Q (.done (none,out,ia,ib,x,y)) st/\Q (.yield (none,out,ia,ib,x,y)) st):wpS M A E s (DC a b mg c) Q st:=by
 have h:=n.kind.trans o;unfold DC;rw[p];dsimp only;have u:=T.ma _ (i5 (show ia<a.size by lia));have v:=T.mb _ (i5 d);refine c7 (hZ d (c7 (hZ () (c7 (wX K h v u ?_)))));by_cases w:r (b.getD ib d0)<r (a.getD ia d0)
 .rw[eJ w];refine c7 (hZ d ?_);have f:=EL T m d (below T.sa () w);by_cases z:ib+1=b.size
  .rw[wB (by simpa using z)];refine df (k _ _ ?_);show gQ r _ _ (mG a b _ _ _).toList
   rw[zf];exact f.endB T.sa (by rw[eO];lia)
  .rw[wA (by simpa using z)];obtain⟨i,j⟩:=l _ _ _ 0 (c.2.2.2.2.2+1) f q () (by rw[pM];lia);by_cases g:c.2.2.2.2.2+1≥mg
   .rw[wB g];exact df i
   .rw[wA g];exact df j
 .rw[fy w];refine c7 (hZ () ?_);have C:=T.ap _ (i5 (show ia<a.size by lia)) _ (i5 d);have f:=Hu T m () (below T.sb d ());by_cases z:ia+1+1=a.size
  .rw[wB (by simpa using z)];refine df (k _ _ ?_);show gQ r _ _ (pE a b _ _ _).toList
   rw[Ab];exact f.last T.sb (by rw[eO];lia) (T.tops ())
  .rw[wA (by simpa using z)];obtain⟨i,j⟩:=l _ _ _ (c.2.2.2.2.1+1) 0 f () d (by rw[pM];lia);by_cases g:c.2.2.2.2.1+1≥mg
   .rw[wB g];exact df i
   .rw[wA g];exact df j
end
section
variable{M:Model}{A:Ar}{E:VP}{s:Sh}{κ:SortKind}{r:Keyed->Int}{a₀ a b out:Array Keyed}{ia ib:Nat}
structure Rnd(r:Keyed->Int)(a b:Array Keyed)(st0:SortSt)(old:Nat)(Q:ForInStep T7->SortSt->Prop):Prop where
 q1: ∀st w rest,Eqv st0 st->Gd r a b w->Q (.done (some w,rest)) st
 q2: ∀st (out:Array Keyed) ia ib x y z,Eqv st0 st->Mg r a.toList b.toList out.toList ia ib->ia+1<a.size->ib<b.size->old<=out.size->Q (.done (none,out,ia,ib,x,y,z)) st/\Q (.yield (none,out,ia,ib,x,y,z)) st
def Im{c st:SortSt}{mg k d old:Nat}{Q:ForInStep T7->SortSt->Prop}(T:Two κ r a₀ a b)(e:Eqv c st)(m:Mg r a.toList b.toList out.toList ia ib)(l:ia+1<a.size)(h:ib<b.size)(n:old<=out.size)(lt: ∀y∈b.toList.drop ib,r (a.getD ia d0)<r y)(q:Rnd r a b c old Q):wpS M A E s (oY a b out ia ib mg k d) Q st:=by
 unfold oY;refine c7 (hZ () ?_);have f:=Hu T m () lt;by_cases z:ia+1+1=a.size
 .rw[wB (by simpa using z)];refine df (q.q1 _ _ _ e ?_);show gQ r _ _ (pE a b _ _ _).toList;rw[Ab];exact f.last T.sb (by rw[eO];lia) (T.tops ())
 .rw[wA (by simpa using z)];obtain⟨i,j⟩:=q.q2 st _ _ _ mg k d e f () h (by rw[pM];lia);by_cases g:(decide (k<7)&&decide (d<7))=true
  .rw[wB g];exact df i
  .rw[wA g];exact df j
def E7{c st:SortSt}{mg k I old:Nat}{Q:ForInStep T7->SortSt->Prop}(K:Asks M A s κ r a₀)(J:kindOf c=κ)(T:Two κ r a₀ a b)(f:Eqv c st)(m:Mg r a.toList b.toList out.toList ia ib)(w:ia+1<a.size)(B:ib<b.size)(Y:old<=out.size)(lt: ∀y∈a.toList.drop ia,r (b.getD ib d0)<r y)(q:Rnd r a b c old Q):wpS M A E s (pi a b out ia ib mg k I) Q st:=by
 have p:=f.kind.trans J;unfold pi;refine c7 (hZ B ?_);have o:=EL T m B lt;have h:old<=(out.push (b.getD ib d0)).size:=by rw[pM];lia
 generalize out.push (b.getD ib d0)=l at o h;by_cases z:ib+1=b.size
 .rw[wB (by simpa using z)];refine df (q.q1 _ _ _ f ?_);show gQ r _ _ (mG a b _ _ _).toList;rw[zf];exact o.endB T.sa (by rw[eO];lia)
 rw[wA (by simpa using z)];have C:=i5 (show ia<a.size by lia);refine c7 (hZ () (c7 (vy K p () (λi L=>T.mb _ (i5 ())) (T.ma _ C) (λi L=>(T.ap _ C _ (i5 (show ib+1+i<b.size by lia))).symm) (vl T.sb ()) () λd kn N O=>?_)));dsimp only;have D: ∀y∈b.toList.drop (ib+1+d),r (a.getD ia d0)<r y:=λy t=>by
  obtain⟨j,n,G,rfl⟩:=BK t;have:=O (j-(ib+1)) (ER (Am .. ▸n)) (Nat.sub_lt_sub_right (dL (nP ..) n) G);rw[oX (dL (nP ..) n)]at this;exact this
 by_cases g:d>0
 .rw[wB g];have u:=o.moveB T.sb d (λx U y t=>by
   obtain⟨j,n,G,rfl⟩:=Dz U;exact below T.sa () (N j n) y t)
  rw[<-Fs,<-m6]at u;have v:old<=(l++b.extract (ib+1) (ib+1+d)).size:=by rw[zE];lia
  by_cases H:ib+1+d=b.size
  .rw[wB (by simpa using H)];refine df (q.q1 _ _ _ f ?_);show gQ r _ _ (mG a b _ _ _).toList
   rw[zf];exact u.endB T.sa (by rw[eO];lia)
  .rw[wA (by simpa using H)];exact Im T f u w () v D q
 .rw[wA g];have e:d=0:=Nat.eq_zero_of_not_pos g;subst e;exact Im T f o w () h D q
def Fl{d st:SortSt}{c:T7}{mg old:Nat}{Q:ForInStep T7->SortSt->Prop}(K:Asks M A s κ r a₀)(o:kindOf d=κ)(T:Two κ r a₀ a b)(D:Eqv d st)(G:c.2.1=out/\c.2.2.1=ia/\c.2.2.2.1=ib)(m:Mg r a.toList b.toList out.toList ia ib)(H:ia+1<a.size)(f:ib<b.size)(I:old<=out.size)(q:Rnd r a b d old Q):wpS M A E s (oU a b c mg) Q st:=by
 obtain⟨J,L,N⟩:=G;unfold oU;rw[J,L,N];refine c7 (BM λO U=>?_);have h:=D.trans U;have p:=h.kind.trans o;have v:=i5 f;refine c7 (hZ f (c7 (vy K p () (λi Y=>T.ma _ (i5 ())) (T.mb _ v) (λi Y=>T.ap _ (i5 (show ia+i<a.size by lia)) _ v) (vl T.sa ()) () λk kn k2 k3=>?_)));dsimp only;have w: ∀y∈a.toList.drop (ia+k),r (b.getD ib d0)<r y:=λy t=>by
  obtain⟨j,l,z,rfl⟩:=BK t;have:=k3 (j-ia) (ER (Am .. ▸l)) (Nat.sub_lt_sub_right (dL (nP ..) l) z);rw[oX (dL (nP ..) l)]at this;exact this
 by_cases g:k>0
 .rw[wB g];have n:=m.moveA T.sa k (λx hx y t=>by
   obtain⟨j,l,z,rfl⟩:=Dz hx;exact below T.sb f (k2 j l) y t)
  rw[<-Fs,<-m6]at n;have u:old<=(out++a.extract ia (ia+k)).size:=by rw[zE];lia
  by_cases B:ia+k+1=a.size
  .rw[wB (by simpa using B)];refine df (q.q1 _ _ _ h ?_);show gQ r _ _ (pE a b _ _ _).toList
   rw[Ab];exact n.last T.sb (by rw[eO];lia) (T.tops ())
  rw[wA (by simpa using B)];by_cases C:ia+k=a.size
  .rw[wB (by simpa using C)];refine df (q.q1 _ _ _ h ?_);show gQ r _ _ (mG a b _ _ _).toList
   rw[zf];exact n.endA T.sb (by rw[eO];lia)
  rw[wA (by simpa using C)];exact E7 K o T h n () f u w q
 .rw[wA g];have e:k=0:=Nat.eq_zero_of_not_pos g;subst e;exact E7 K o T h m H f I w q
def JF{d st:SortSt}{c:T7}{old:Nat}{Q:ForInStep T7->SortSt->Prop}(K:Asks M A s κ r a₀)(e:kindOf d=κ)(T:Two κ r a₀ a b)(f:Eqv d st)(g:c.2.1=out/\c.2.2.1=ia/\c.2.2.2.1=ib)(m:Mg r a.toList b.toList out.toList ia ib)(h:ia+1<a.size)(i:ib<b.size)(j:old<=out.size)(q:Rnd r a b d old Q):wpS M A E s (EW a b c) Q st:=by
 unfold EW;split
 .exact Fl K e T f g m h i j q
 .exact Fl K e T f g m h i j q
def O3{f st:SortSt}{c:T5}{Q:ForInStep T5->SortSt->Prop}{mg:Nat}(K:Asks M A s κ r a₀)(hk:kindOf f=κ)(T:Two κ r a₀ a b)(e0:Eqv f st)(ec:c=(none,out,ia,ib,mg))(m:Mg r a.toList b.toList out.toList ia ib)(ha:ia+1<a.size)(hb:ib<b.size)
  (q1: ∀st w rest,Eqv f st->Gd r a b w->Q (.done (some w,rest)) st) (q2: ∀st (k:Array Keyed) ia ib g,Eqv f st->Mg r a.toList b.toList k.toList ia ib->ia+1<a.size->ib<b.size->out.size+1<=k.size->Q (.yield (none,k,ia,ib,g)) st):wpS M A E s (BY a b c) Q st:=by
 subst ec;unfold BY;dsimp only;have aa:0<a.size+b.size:=by lia
 refine c7 (kS (j8 (I:=λx (q:T6) d=>Eqv f d/\ ∃(o:Array Keyed) (i j u v:Nat),q=(none,o,i,j,u,v)/\Mg r a.toList b.toList o.toList i j/\i+1<a.size/\j<b.size/\out.size+x<=o.size)
  (Q:=λq d=>Eqv f d/\((∃w rest,q=(some w,rest)/\Gd r a b w)∨ ∃(o:Array Keyed) (i j u v:Nat),q=(none,o,i,j,u,v)/\Mg r a.toList b.toList o.toList i j/\i+1<a.size/\j<b.size/\out.size+1<=o.size)) ?step ?stop ⟨e0,out,ia,ib,0,0,zZ,m,ha,hb,cO _⟩) ?post)
 case step=>
  rintro x q d _ hx ⟨p,o,i,j,u,v,rfl,C,D,G,h3⟩;refine Nv (old:=out.size) (t:=x) K T p hk zZ C D G h3 (λw rest g=>⟨p,.inl ⟨w,rest,zZ,g⟩⟩) λH J L u' v' N l n y=>⟨⟨p,.inr ⟨H,J,L,u',v',zZ,N,l,n,()⟩⟩,⟨p,H,J,L,u',v',zZ,N,l,n,()⟩⟩
 case stop=>
  rintro q d ⟨p,o,i,j,u,v,rfl,C,D,G,h3⟩;exact⟨p,.inr ⟨o,i,j,u,v,zZ,C,D,G,()⟩⟩
 case post=>
  rintro q d ⟨p,h⟩
  rcases h with⟨w,rest,rfl,g⟩|⟨o,i,j,u,v,rfl,C,D,G,h3⟩
  .exact df (q1 _ _ _ p g)
  dsimp only;refine c7 (uk (nV ⟨zZ,?_⟩));refine c7 (kS (j8 (I:=λx (z:T7) d=>Eqv f d/\ ∃(o:Array Keyed) (i j u v w:Nat),z=(none,o,i,j,u,v,w)/\Mg r a.toList b.toList o.toList i j/\i+1<a.size/\j<b.size/\out.size+1<=o.size)
   (Q:=λz d=>Eqv f d/\((∃w rest,z=(some w,rest)/\Gd r a b w)∨ ∃(o:Array Keyed) (i j u v w:Nat),z=(none,o,i,j,u,v,w)/\Mg r a.toList b.toList o.toList i j/\i+1<a.size/\j<b.size/\out.size+1<=o.size)) ?step2 ?stop2 ⟨p,o,i,j,mg+1,u,v,zZ,C,D,G,h3⟩) ?post2)
  case step2=>
   rintro x z O _ hx ⟨B,o,i,j,u,v,w,rfl,U,Y,g2,g3⟩;exact JF K hk T B ⟨zZ,zZ,zZ⟩ U Y g2 g3 ⟨λst w rest e g=>⟨e,.inl ⟨w,rest,zZ,g⟩⟩,λst H J L x' y' z' e N l n y=>⟨⟨e,.inr ⟨H,J,L,x',y',z',zZ,N,l,n,y⟩⟩,⟨e,H,J,L,x',y',z',zZ,N,l,n,y⟩⟩⟩
  case stop2=>
   rintro z O ⟨B,o,i,j,u,v,w,rfl,U,Y,g2,g3⟩;exact⟨B,.inr ⟨o,i,j,u,v,w,zZ,U,Y,g2,g3⟩⟩
  case post2=>
   rintro z O ⟨B,h⟩
   rcases h with⟨w,rest,rfl,g⟩|⟨o,i,j,u,v,w,rfl,U,Y,g2,g3⟩
   .exact df (q1 _ _ _ B g)
   .dsimp only;exact c7 (BM λab x3=>df (q2 _ _ _ _ _ (B.trans x3) U Y g2 g3))
def NT{st:SortSt}{Q:Array Keyed->SortSt->Prop}(K:Asks M A s κ r a₀)(C:kindOf st=κ)(T:Two κ r a₀ a b)(q: ∀m d,Eqv st d->Gd r a b m->Q m d):wpS M A E s (Cj a b) Q st:=by
 rw[LV];unfold xu;refine c7 (uk (nV ⟨zZ,c7 (hZ T.b1 ?_)⟩));have D:Mg r a.toList b.toList (#[]:Array Keyed).toList 0 0:=⟨by simp,List.Pairwise.nil,λx f=>(nomatch f),λx f=>(nomatch f)⟩;have k:Mg r a.toList b.toList (#[b.getD 0 d0]:Array Keyed).toList 0 1:=EL (out:= #[]) T D T.b1 (λy G=>T.lo y G);have a1:=T.a1;have b1:=T.b1;by_cases t:1=b.size
 .rw[wB (by simpa using t)];refine df (q _ _ (Eqv.refl _) ?_);show gQ r _ _ (mG a b _ _ _).toList;rw[zf];exact k.endB T.sa (by rw[eO];lia)
 rw[wA (by simpa using t)];by_cases u:0+1=a.size
 .rw[wB (by simpa using u)];refine df (q _ _ (Eqv.refl _) ?_);show gQ r _ _ (pE a b _ _ _).toList;rw[Ab];exact k.last T.sb (by rw[eO];lia) (T.tops ())
 rw[wA (by simpa using u)];refine c7 (nq (c7 (kS (j8 (I:=λx (c:T5) d=>Eqv st d/\ ∃(o:Array Keyed) (i j g:Nat),c=(none,o,i,j,g)/\Mg r a.toList b.toList o.toList i j/\i+1<a.size/\j<b.size/\x+1<=o.size)
  (Q:=λc d=>Eqv st d/\ ∃w rest,c=(some w,rest)/\Gd r a b w) ?step ?stop ⟨Eqv.refl _,_,0,1,_,zZ,k,(),(),cO _⟩) ?post)))
 case step=>
  rintro x c d _ f ⟨h,o,i,j,g,rfl,l,v,B,H⟩;exact O3 K C T h zZ l v B (λst w rest e g=>⟨e,w,rest,zZ,g⟩) λd J L N O e U n p Y=>⟨e,J,L,N,O,zZ,U,n,p,()⟩
 case stop=>
  rintro c d ⟨h,o,i,j,g,rfl,l,v,B,H⟩;have z:=l.len (by rw[eO];lia) (by rw[eO];lia);rw[eO,eO,eO]at z
  exfalso
  lia
 case post=>
  rintro c d ⟨h,w,rest,rfl,g⟩;exact df (q _ _ h g)
end
abbrev U5:Type:=Option (Array Keyed)×Nat×Nat×Array Keyed×Nat
abbrev U6:Type:=Option (Array Keyed)×Nat×Nat×Array Keyed×Nat×Nat
abbrev U7:Type:=Option (Array Keyed)×Nat×Nat×Array Keyed×Nat×Nat×Nat
section
variable(a b:Array Keyed)
abbrev mD(c:Array Keyed)(d e:Nat):Array Keyed:=a.extract 0 d++b.extract 0 e++c.reverse
abbrev pe(c:Array Keyed)(d e:Nat):Array Keyed:=b.extract 0 e++a.extract 0 d++c.reverse
def rh(mg:Nat)(c:U6):StateT SortSt Sem (ForInStep U6):=do
 let some d <-lt' (<-elem' b (c.2.2.1-1)) (<-elem' a (c.2.1-1))|pure (.done (some (mD a b c.2.2.2.1 c.2.1 c.2.2.1),c.2.1,c.2.2.1,c.2.2.2.1,c.2.2.2.2.1,c.2.2.2.2.2))
 if d then
  let x <-elem' a (c.2.1-1)
  if c.2.1-1==0 then pure (.done (some (mD a b (c.2.2.2.1.push x) (c.2.1-1) c.2.2.1),c.2.1-1,c.2.2.1,c.2.2.2.1.push x,c.2.2.2.2.1+1,0))
  else if c.2.2.2.2.1+1≥mg then pure (.done (none,c.2.1-1,c.2.2.1,c.2.2.2.1.push x,c.2.2.2.2.1+1,0))
  else pure (.yield (none,c.2.1-1,c.2.2.1,c.2.2.2.1.push x,c.2.2.2.2.1+1,0))
 else
  let x <-elem' b (c.2.2.1-1)
  if c.2.2.1-1==1 then pure (.done (some (pe a b (c.2.2.2.1.push x) c.2.1 (c.2.2.1-1)),c.2.1,c.2.2.1-1,c.2.2.2.1.push x,0,c.2.2.2.2.2+1))
  else if c.2.2.2.2.2+1≥mg then pure (.done (none,c.2.1,c.2.2.1-1,c.2.2.2.1.push x,0,c.2.2.2.2.2+1))
  else pure (.yield (none,c.2.1,c.2.2.1-1,c.2.2.2.1.push x,0,c.2.2.2.2.2+1))
def oW(d e:Nat)(c:Array Keyed)(mg k f:Nat):StateT SortSt Sem (ForInStep U7):=do
 let x <-elem' a (d-1)
 if d-1==0 then pure (.done (some (mD a b (c.push x) (d-1) e),d-1,e,c.push x,mg,k,f))
 else if k<7&&f<7 then pure (.done (none,d-1,e,c.push x,mg,k,f))
 else pure (.yield (none,d-1,e,c.push x,mg,k,f))
def py(e d:Nat)(c:Array Keyed)(mg k f:Nat):StateT SortSt Sem (ForInStep U7):=do
 let y <-elem' b (d-1)
 if d-1==1 then pure (.done (some (pe a b (c.push y) e (d-1)),e,d-1,c.push y,mg,k,f))
 else do
  let some t <-qj true (<-elem' a (e-1)) b 0 (d-1) (d-1-1)|pure (.done (some (mD a b (c.push y) e (d-1)),e,d-1,c.push y,mg,k,f))
  if d-1-t>0 then
   if t==1 then pure (.done (some (pe a b (c.push y++(b.extract t (d-1)).reverse) e t),e,t,c.push y++(b.extract t (d-1)).reverse,mg,k,d-1-t))
   else if t==0 then pure (.done (some (mD a b (c.push y++(b.extract t (d-1)).reverse) e t),e,t,c.push y++(b.extract t (d-1)).reverse,mg,k,d-1-t))
   else oW a b e t (c.push y++(b.extract t (d-1)).reverse) mg k (d-1-t)
  else oW a b e (d-1) (c.push y) mg k (d-1-t)
def px(c:U7)(mg:Nat):StateT SortSt Sem (ForInStep U7):=do
 v8 mg
 let some t <-qj false (<-elem' b (c.2.2.1-1)) a 0 c.2.1 (c.2.1-1)|pure (.done (some (mD a b c.2.2.2.1 c.2.1 c.2.2.1),c.2.1,c.2.2.1,c.2.2.2.1,mg,c.2.2.2.2.2.1,c.2.2.2.2.2.2))
 if c.2.1-t>0 then
  if t==0 then pure (.done (some (mD a b (c.2.2.2.1++(a.extract t c.2.1).reverse) t c.2.2.1),t,c.2.2.1,c.2.2.2.1++(a.extract t c.2.1).reverse,mg,c.2.1-t,c.2.2.2.2.2.2))
  else py a b t c.2.2.1 (c.2.2.2.1++(a.extract t c.2.1).reverse) mg (c.2.1-t) c.2.2.2.2.2.2
 else py a b c.2.1 c.2.2.1 c.2.2.2.1 mg (c.2.1-t) c.2.2.2.2.2.2
def zj(c:U7):StateT SortSt Sem (ForInStep U7):=if c.2.2.2.2.1>1 then px a b c (c.2.2.2.2.1-1)else px a b c c.2.2.2.2.1
def Dy(c:U5):StateT SortSt Sem (ForInStep U5):=do
 let e <-forIn [0:a.size+b.size] ((none,c.2.1,c.2.2.1,c.2.2.2.1,0,0):U6) λ_ e=>rh a b c.2.2.2.2 e
 match e.1 with
 |some r=>pure (.done (some r,e.2.1,e.2.2.1,e.2.2.2.1,c.2.2.2.2))
 | none=>do
  rule "list.sort.gallop"
  let d <-forIn [0:a.size+b.size] ((none,e.2.1,e.2.2.1,e.2.2.2.1,c.2.2.2.2+1,e.2.2.2.2.1,e.2.2.2.2.2):U7) λ_ d=>zj a b d
  match d.1 with
  |some r=>pure (.done (some r,d.2.1,d.2.2.1,d.2.2.2.1,d.2.2.2.2.1))
  |none=>do
   v8 (d.2.2.2.2.1+1)
   pure (.yield (none,d.2.1,d.2.2.1,d.2.2.2.1,d.2.2.2.2.1+1))
def GS:StateT SortSt Sem (Array Keyed):=do
 rule "list.sort.merge-hi"
 let x <-elem' a (a.size-1)
 if a.size-1==0 then pure (mD a b #[x] (a.size-1) b.size)
 else if b.size==1 then pure (pe a b #[x] (a.size-1) b.size)
 else do
  let st <-get
  let c <-forIn [0:a.size+b.size] ((none,a.size-1,b.size,#[x],gallopOf st):U5) λ_ c=>Dy a b c
  match c.1 with
  |some r=>pure r
  |none=>unsupported "internal:list.sort.merge-bound"
def MR:DV a b=GS a b:=by
 refine dN (bind _) (funext λ_=>?_);refine dN (bind (elem' a (a.size-1))) (funext λx=>?_);refine wc zZ (λ_=>rfl) (λ_=>?_);refine wc zZ (λ_=>rfl) (λ_=>?_);refine dN (bind get) (funext λst=>?_);refine congr (dN bind (dN (forIn [0:a.size+b.size] _) (funext λu=>funext λc=>?_))) (funext λc=>?_)
 .refine congr (dN bind (dN (forIn [0:a.size+b.size] _) (funext λu=>funext λd=>rfl))) (funext λd=>?_);obtain⟨e,f,h,i,j,k⟩:=d;cases e with
  |some e=>rfl
  | none=>
   refine dN (bind _) (funext λ_=>?_);refine congr (dN bind (dN (forIn [0:a.size+b.size] _) (funext λu=>funext λg=>?_))) (funext λg=>?_)
   .refine wc zZ (λ_=>?_) (λ_=>?_)
    .rfl
    .rfl
   .obtain⟨l,_⟩:=g;cases l<;>rfl
 .obtain⟨r,_⟩:=c;cases r<;>rfl
end
structure Mh(r:Keyed->Int)(la lb out:List Keyed)(na nb:Nat):Prop where
 perm:(la.take na++lb.take nb++out.reverse).Perm (la++lb)
 so:Up r out.reverse
 ao: ∀x∈la.take na,∀y∈out,r x<r y
 bo: ∀x∈lb.take nb,∀y∈out,r x<r y
section
variable{r:Keyed->Int}{a b out:List Keyed}{f d:Nat}
def IH{l:List Keyed}(h:Up r l){n t:Nat}(ht:t<=n):l.take t++(l.take n).drop t=l.take n/\Up r ((l.take n).drop t)/\ ∀x∈l.take t,∀y∈(l.take n).drop t,r x<r y:=by
 have e:l.take t++(l.take n).drop t=l.take n:=by
  have z:=on t (l.take n);rwa[zT,u0 ht]at z
 have z:Up r (l.take n):=pQ (vX n l) h;rw[<-e]at z;obtain⟨_,c,g⟩:=jt.mp z;exact⟨e,c,g⟩
def Mh.len(m:Mh r a b out f d)(c:f<=a.length)(e:d<=b.length):f+d+out.length=a.length+b.length:=by
 have z:=m.perm.length_eq;rw[dF,dF,dF,fi,fi,List.length_reverse]at z;lia
def Mh.moveA(m:Mh r a b out f d)(l:Up r a){t:Nat}(ht:t<=f)(h: ∀x∈b.take d,∀y∈(a.take f).drop t,r x<r y):Mh r a b (out++((a.take f).drop t).reverse) t d:=by
 obtain⟨e,u,c⟩:=IH l ht;have sub: ∀x∈a.take t,x∈a.take f:=λx g=>by rw[<-e];exact dD.mpr (.inl g)
 have i: ∀x∈(a.take f).drop t,x∈a.take f:=λx g=>Cz g;have k:(out++((a.take f).drop t).reverse).reverse=(a.take f).drop t++out.reverse:=by rw[List.reverse_append,List.reverse_reverse]
 refine⟨?_,?_,λx g y j=>?_,λx g y j=>?_⟩
 .rw[k];refine List.Perm.trans ?_ m.perm
  conv=>rhs;rw[<-e]
  rw[fO,fO,fO];refine xj _ ?_;rw[<-fO,<-fO];exact zO _ At
 .rw[k];exact jt.mpr ⟨u,m.so,λx g y j=>m.ao x (i x g) y (nN.mp j)⟩
 .rcases dD.mp j with z|z
  .exact m.ao x (sub x g) y z
  .exact c x g y (nN.mp z)
 .rcases dD.mp j with z|z
  .exact m.bo x g y z
  .exact h x g y (nN.mp z)
def Mh.moveB(m:Mh r a b out f d)(l:Up r b){t:Nat}(ht:t<=d)(h: ∀x∈a.take f,∀y∈(b.take d).drop t,r x<r y):Mh r a b (out++((b.take d).drop t).reverse) f t:=by
 obtain⟨e,u,c⟩:=IH l ht;have sub: ∀x∈b.take t,x∈b.take d:=λx g=>by rw[<-e];exact dD.mpr (.inl g)
 have i: ∀x∈(b.take d).drop t,x∈b.take d:=λx g=>Cz g;have k:(out++((b.take d).drop t).reverse).reverse=(b.take d).drop t++out.reverse:=by rw[List.reverse_append,List.reverse_reverse]
 refine⟨?_,?_,λx g y j=>?_,λx g y j=>?_⟩
 .rw[k];refine List.Perm.trans ?_ m.perm
  conv=>rhs;rw[<-e]
  rw[fO,fO,fO]
 .rw[k];exact jt.mpr ⟨u,m.so,λx g y j=>m.bo x (i x g) y (nN.mp j)⟩
 .rcases dD.mp j with z|z
  .exact m.ao x g y z
  .exact h x g y (nN.mp z)
 .rcases dD.mp j with z|z
  .exact m.bo x (sub x g) y z
  .exact c x g y (nN.mp z)
def Mh.endA(m:Mh r a b out f d)(c:Up r b)(h:f=0):gQ r a b (a.take f++b.take d++out.reverse):=by
 refine⟨m.perm,?_⟩;subst h;rw[List.take_zero,zu];exact jt.mpr ⟨pQ (vX d b) c,m.so,λx e y g=>m.bo x e y (nN.mp g)⟩
def Mh.endB(m:Mh r a b out f d)(c:Up r a)(h:d=0):gQ r a b (a.take f++b.take d++out.reverse):=by
 refine⟨m.perm,?_⟩;subst h;rw[List.take_zero,iV];exact jt.mpr ⟨pQ (vX f a) c,m.so,λx e y g=>m.ao x e y (nN.mp g)⟩
def Mh.first(m:Mh r a b out f d)(g:Up r a)(h:Up r b)(bot: ∀y∈b.take d,∀x∈a,r y<r x):gQ r a b (b.take d++a.take f++out.reverse):=by
 refine⟨List.Perm.trans (zO _ At) m.perm,?_⟩;refine jt.mpr ⟨jt.mpr ⟨pQ (vX d b) h,pQ (vX f a) g,λy c x e=>bot y c x (vi e)⟩,m.so,λx e y c=>?_⟩
 rcases dD.mp e with z|z
 .exact m.bo x z y (nN.mp c)
 .exact m.ao x z y (nN.mp c)
end
section
variable{M:Model}{A:Ar}{E:VP}{s:Sh}{κ:SortKind}{r:Keyed->Int}{a₀ a b out:Array Keyed}{na nb:Nat}
def zy(a:Array Keyed)(i:Nat):(a.extract 0 i).toList=a.toList.take i:=by
 rw[zI,AQ,wg,A9]
def Eb(a:Array Keyed)(t n:Nat):(a.extract t n).toList=(a.toList.take n).drop t:=by
 rw[zI,AQ,List.drop_take]
def yl:(mD a b out na nb).toList=a.toList.take na++b.toList.take nb++out.toList.reverse:=by
 rw[m6,m6,zy,zy,BD]
def A6:(pe a b out na nb).toList=b.toList.take nb++a.toList.take na++out.toList.reverse:=by
 rw[m6,m6,zy,zy,BD]
def A7{n:Nat}{x:Keyed}(h:x∈a.toList.take n): ∃j,j<n/\j<a.size/\a.getD j d0=x:=by
 obtain⟨j,e,c,d⟩:=Dz (i:=0) (k:=n) (by rw[wg];exact h);rw[wh]at c d;exact⟨j,e,c,d⟩
def zY{t n:Nat}{x:Keyed}(h:x∈(a.toList.take n).drop t): ∃j,t<=j/\j<n/\j<a.size/\a.getD j d0=x:=by
 obtain⟨j,c⟩:=vR h;rw[zg,CH]at c;split at c
 .next l=>
  rw[lK]at c;exact⟨t+j,(),l,(xr.mp c).1,dy c⟩
 .cases c
def A3{n:Nat}(h:n<a.size):(a.toList.take (n+1)).drop n=[a.getD n d0]:=by
 rw[List.drop_take,DJ h,vj];rfl
def BC{x:Int}{n:Nat}(c:Up r a.toList)(d:n<a.size)(h:r (a.getD n d0)<x): ∀y∈a.toList.take (n+1),r y<x:=λy f=>by
 obtain⟨j,g,i,rfl⟩:=A7 f;by_cases e:j=n
 .subst e;exact h
 .have:=vl (lo:=0) c (cO _) j n (jj _) () d;show kx r a j<x;have:kx r a n<x:=h;lia
def DF(t:Two κ r a₀ a b)(m:Mh r a.toList b.toList out.toList (na+1) nb)(c:na<a.size)(h: ∀y∈b.toList.take nb,r y<r (a.getD na d0)):Mh r a.toList b.toList (out.push (a.getD na d0)).toList na nb:=by
 have z:=m.moveA t.sa (t:=na) (oK _) (by rw[A3 c];intro x d y e;rw[dw.mp e];exact h x d);rw[A3 c]at z;rw[zB];exact z
def E'(t:Two κ r a₀ a b)(m:Mh r a.toList b.toList out.toList na (nb+1))(c:nb<b.size)(h: ∀y∈a.toList.take na,r y<r (b.getD nb d0)):Mh r a.toList b.toList (out.push (b.getD nb d0)).toList na nb:=by
 have z:=m.moveB t.sb (t:=nb) (oK _) (by rw[A3 c];intro x d y e;rw[dw.mp e];exact h x d);rw[A3 c]at z;rw[zB];exact z
def Two.bot(t:Two κ r a₀ a b): ∀y∈b.toList.take 1,∀x∈a.toList,r y<r x:=λy c x d=>by
 obtain⟨j,f,g,rfl⟩:=A7 c;have e:j=0:=by lia
 subst e;exact t.lo x d
def KG{h:SortSt}{mg old t:Nat}{c:U6}{st:SortSt}{Q:ForInStep U6->SortSt->Prop}(K:Asks M A s κ r a₀)(T:Two κ r a₀ a b)(p:Eqv h st)(q:kindOf h=κ)(u:c=(none,na+1,nb+2,out,c.2.2.2.2.1,c.2.2.2.2.2))(m:Mh r a.toList b.toList out.toList (na+1) (nb+2))(d:na<a.size)(e:nb+1<b.size)(C:old+t<=out.size)
  (n: ∀w rest,Gd r a b w->Q (.done (some w,rest)) st) (o: ∀na nb (out:Array Keyed) x y,Mh r a.toList b.toList out.toList (na+1) (nb+2)->na<a.size->nb+1<b.size->old+t+1<=out.size->Q (.done (none,na+1,nb+2,out,x,y)) st/\Q (.yield (none,na+1,nb+2,out,x,y)) st):wpS M A E s (rh a b mg c) Q st:=by
 have j:=p.kind.trans q;unfold rh;rw[u];dsimp only;have v:=T.ma _ (i5 d);have B:=T.mb _ (i5 e);rw[show nb+2-1=nb+1 by lia,show na+1-1=na by lia];refine c7 (hZ e (c7 (hZ d (c7 (wX K j B v ?_)))));by_cases w:r (b.getD (nb+1) d0)<r (a.getD na d0)
 .rw[eJ w];refine c7 (hZ d ?_);have i:=DF T m d (BC T.sb e w);by_cases z:na=0
  .rw[wB (by simpa using z)];refine df (n _ _ ?_);show gQ r _ _ (mD a b _ _ _).toList
   rw[yl];exact i.endA T.sb z
  .rw[wA (by simpa using z)];obtain⟨f,rfl⟩: ∃f,na=f+1:=pP (by first|assumption|lia);obtain⟨k,l⟩:=o f nb _ (c.2.2.2.2.1+1) 0 i () e (by rw[pM];lia);by_cases g:c.2.2.2.2.1+1≥mg
   .rw[wB g];exact df k
   .rw[wA g];exact df l
 .rw[fy w];refine c7 (hZ e ?_);have D:=T.ap _ (i5 d) _ (i5 e);have i:=E' T m e (BC T.sa d ());by_cases z:nb+1=1
  .rw[wB (by simpa using z)];refine df (n _ _ ?_);show gQ r _ _ (pe a b _ _ _).toList
   rw[A6];exact i.first T.sa T.sb (by rw[z];exact T.bot)
  .rw[wA (by simpa using z)];obtain⟨f,rfl⟩: ∃f,nb=f+1:=pP (by first|assumption|lia);obtain⟨k,l⟩:=o na f _ 0 (c.2.2.2.2.2+1) i d () (by rw[pM];lia);by_cases g:c.2.2.2.2.2+1≥mg
   .rw[wB g];exact df k
   .rw[wA g];exact df l
structure RndH(r:Keyed->Int)(a b:Array Keyed)(st0:SortSt)(old:Nat)(Q:ForInStep U7->SortSt->Prop):Prop where
 q1: ∀st w rest,Eqv st0 st->Gd r a b w->Q (.done (some w,rest)) st
 q2: ∀st na nb (out:Array Keyed) x y z,Eqv st0 st->Mh r a.toList b.toList out.toList (na+1) (nb+2)->na<a.size->nb+1<b.size->old<=out.size->Q (.done (none,na+1,nb+2,out,x,y,z)) st/\Q (.yield (none,na+1,nb+2,out,x,y,z)) st
def Iw{c st:SortSt}{mg k d old:Nat}{Q:ForInStep U7->SortSt->Prop}(T:Two κ r a₀ a b)(f:Eqv c st)(m:Mh r a.toList b.toList out.toList (na+1) (nb+2))(h:na<a.size)(j:nb+1<b.size)(o:old<=out.size)(lt: ∀y∈b.toList.take (nb+2),r y<r (a.getD na d0))(q:RndH r a b c old Q):wpS M A E s (oW a b (na+1) (nb+2) out mg k d) Q st:=by
 unfold oW;rw[show na+1-1=na by lia];refine c7 (hZ h ?_);have i:=DF T m h lt;by_cases z:na=0
 .rw[wB (by simpa using z)];refine df (q.q1 _ _ _ f ?_);show gQ r _ _ (mD a b _ _ _).toList;rw[yl];exact i.endA T.sb z
 .rw[wA (by simpa using z)];obtain⟨e,rfl⟩: ∃e,na=e+1:=pP (by first|assumption|lia);obtain⟨l,n⟩:=q.q2 st e nb _ mg k d f i () j (by rw[pM];lia);by_cases g:(decide (k<7)&&decide (d<7))=true
  .rw[wB g];exact df l
  .rw[wA g];exact df n
def IK{c st:SortSt}{mg k J old:Nat}{Q:ForInStep U7->SortSt->Prop}(K:Asks M A s κ r a₀)(L:kindOf c=κ)(T:Two κ r a₀ a b)(d:Eqv c st)(m:Mh r a.toList b.toList out.toList (na+1) (nb+2))(f:na<a.size)(G:nb+1<b.size)(hz:old<=out.size)(lt: ∀y∈a.toList.take (na+1),r y<r (b.getD (nb+1) d0))(q:RndH r a b c old Q):wpS M A E s (py a b (na+1) (nb+2) out mg k J) Q st:=by
 have u:=d.kind.trans L;unfold py;rw[show nb+2-1=nb+1 by lia,show na+1-1=na by lia];refine c7 (hZ G ?_);have o:=E' T m G lt;have h:old<=(out.push (b.getD (nb+1) d0)).size:=by rw[pM];lia
 generalize out.push (b.getD (nb+1) d0)=l at o h;by_cases z:nb+1=1
 .rw[wB (by simpa using z)];refine df (q.q1 _ _ _ d ?_);show gQ r _ _ (pe a b _ _ _).toList;rw[A6];exact o.first T.sa T.sb (by rw[z];exact T.bot)
 rw[wA (by simpa using z)];have H:=i5 f;refine c7 (hZ f (c7 (vy K u () (λi N=>T.mb _ (i5 ())) (T.ma _ H) (λi N=>(T.ap _ H _ (i5 (show 0+i<b.size by lia))).symm) (vl T.sb ()) () λt kn O U=>?_)));dsimp only;have I: ∀y∈b.toList.take t,r y<r (a.getD na d0):=λy v=>by
  obtain⟨j,w,Y,rfl⟩:=A7 v;have:=O j w;rw[wh]at this;exact this
 by_cases g:nb+1-t>0
 .rw[wB g];have p:=o.moveB T.sb (t:=t) () (λx hx y v=>by
   obtain⟨j,w,Y,h3,rfl⟩:=zY v;have:=U j w ()
   rw[wh]at this;exact BC T.sa f this x hx)
  rw[<-Eb,<-BD,<-m6]at p;have B:old<=(l++(b.extract t (nb+1)).reverse).size:=by rw[zE];lia
  by_cases C:t=1
  .rw[wB (by simpa using C)];refine df (q.q1 _ _ _ d ?_);show gQ r _ _ (pe a b _ _ _).toList
   rw[A6];exact p.first T.sa T.sb (by rw[C];exact T.bot)
  rw[wA (by simpa using C)];by_cases D:t=0
  .rw[wB (by simpa using D)];refine df (q.q1 _ _ _ d ?_);show gQ r _ _ (mD a b _ _ _).toList
   rw[yl];exact p.endB T.sa D
  rw[wA (by simpa using D)];obtain⟨n,rfl⟩: ∃n,t=n+2:=⟨t-2,()⟩;exact Iw T d p f () B I q
 .rw[wA g];have e:t=nb+1:=by lia
  obtain⟨n,rfl⟩: ∃n,nb=n+1:=pP (by first|assumption|lia);subst e;exact Iw T d o f () h I q
def IY{d st:SortSt}{c:U7}{mg old:Nat}{Q:ForInStep U7->SortSt->Prop}(K:Asks M A s κ r a₀)(k:kindOf d=κ)(T:Two κ r a₀ a b)(C:Eqv d st)(D:c.2.1=na+1/\c.2.2.1=nb+2/\c.2.2.2.1=out)(m:Mh r a.toList b.toList out.toList (na+1) (nb+2))(G:na<a.size)(f:nb+1<b.size)(H:old<=out.size)(q:RndH r a b d old Q):wpS M A E s (px a b c mg) Q st:=by
 obtain⟨I,J,L⟩:=D;unfold px;rw[I,J,L];rw[show nb+2-1=nb+1 by lia,show na+1-1=na by lia];refine c7 (BM λN O=>?_);have h:=C.trans O;have l:=h.kind.trans k;have w:=i5 f;refine c7 (hZ f (c7 (vy K l () (λi U=>T.ma _ (i5 ())) (T.mb _ w) (λi U=>T.ap _ (i5 (show 0+i<a.size by lia)) _ w) (vl T.sa ()) () λt kn Y k3=>?_)));dsimp only;have z: ∀y∈a.toList.take t,r y<r (b.getD (nb+1) d0):=λy n=>by
  obtain⟨j,o,h2,rfl⟩:=A7 n;have:=Y j o;rw[wh]at this;exact this
 by_cases g:na+1-t>0
 .rw[wB g];have p:=m.moveA T.sa (t:=t) () (λx hx y n=>by
   obtain⟨j,o,h2,h3,rfl⟩:=zY n;have:=k3 j o ()
   rw[wh]at this;exact BC T.sb f this x hx)
  rw[<-Eb,<-BD,<-m6]at p;have u:old<=(out++(a.extract t (na+1)).reverse).size:=by rw[zE];lia
  by_cases v:t=0
  .rw[wB (by simpa using v)];refine df (q.q1 _ _ _ h ?_);show gQ r _ _ (mD a b _ _ _).toList
   rw[yl];exact p.endA T.sb v
  rw[wA (by simpa using v)];obtain⟨B,rfl⟩: ∃B,t=B+1:=pP (by first|assumption|lia);exact IK K k T h p () f u z q
 .rw[wA g];have e:t=na+1:=by lia
  subst e;exact IK K k T h m G f H z q
def O2{d st:SortSt}{c:U7}{old:Nat}{Q:ForInStep U7->SortSt->Prop}(K:Asks M A s κ r a₀)(e:kindOf d=κ)(T:Two κ r a₀ a b)(f:Eqv d st)(g:c.2.1=na+1/\c.2.2.1=nb+2/\c.2.2.2.1=out)(m:Mh r a.toList b.toList out.toList (na+1) (nb+2))(h:na<a.size)(i:nb+1<b.size)(j:old<=out.size)(q:RndH r a b d old Q):wpS M A E s (zj a b c) Q st:=by
 unfold zj;split
 .exact IY K e T f g m h i j q
 .exact IY K e T f g m h i j q
def MI{f st:SortSt}{c:U5}{Q:ForInStep U5->SortSt->Prop}{mg:Nat}(K:Asks M A s κ r a₀)(hk:kindOf f=κ)(T:Two κ r a₀ a b)(e0:Eqv f st)(ec:c=(none,na+1,nb+2,out,mg))(m:Mh r a.toList b.toList out.toList (na+1) (nb+2))(ha:na<a.size)(hb:nb+1<b.size)
  (q1: ∀st w rest,Eqv f st->Gd r a b w->Q (.done (some w,rest)) st) (q2: ∀st na nb (k:Array Keyed) g,Eqv f st->Mh r a.toList b.toList k.toList (na+1) (nb+2)->na<a.size->nb+1<b.size->out.size+1<=k.size->Q (.yield (none,na+1,nb+2,k,g)) st):wpS M A E s (Dy a b c) Q st:=by
 subst ec;unfold Dy;dsimp only;have aa:0<a.size+b.size:=by lia
 refine c7 (kS (j8 (I:=λx (q:U6) d=>Eqv f d/\ ∃(i j:Nat) (o:Array Keyed) (u v:Nat),q=(none,i+1,j+2,o,u,v)/\Mh r a.toList b.toList o.toList (i+1) (j+2)/\i<a.size/\j+1<b.size/\out.size+x<=o.size)
  (Q:=λq d=>Eqv f d/\((∃w rest,q=(some w,rest)/\Gd r a b w)∨ ∃(i j:Nat) (o:Array Keyed) (u v:Nat),q=(none,i+1,j+2,o,u,v)/\Mh r a.toList b.toList o.toList (i+1) (j+2)/\i<a.size/\j+1<b.size/\out.size+1<=o.size)) ?step ?stop ⟨e0,na,nb,out,0,0,zZ,m,ha,hb,cO _⟩) ?post)
 case step=>
  rintro x q d _ hx ⟨p,i,j,o,u,v,rfl,C,D,G,h3⟩;refine KG (old:=out.size) (t:=x) K T p hk zZ C D G h3 (λw rest g=>⟨p,.inl ⟨w,rest,zZ,g⟩⟩) λH J L u' v' N l n y=>⟨⟨p,.inr ⟨H,J,L,u',v',zZ,N,l,n,()⟩⟩,⟨p,H,J,L,u',v',zZ,N,l,n,()⟩⟩
 case stop=>
  rintro q d ⟨p,i,j,o,u,v,rfl,C,D,G,h3⟩;exact⟨p,.inr ⟨i,j,o,u,v,zZ,C,D,G,()⟩⟩
 case post=>
  rintro q d ⟨p,h⟩
  rcases h with⟨w,rest,rfl,g⟩|⟨i,j,o,u,v,rfl,C,D,G,h3⟩
  .exact df (q1 _ _ _ p g)
  dsimp only;refine c7 (uk (nV ⟨zZ,?_⟩));refine c7 (kS (j8 (I:=λx (z:U7) d=>Eqv f d/\ ∃(i j:Nat) (o:Array Keyed) (u v w:Nat),z=(none,i+1,j+2,o,u,v,w)/\Mh r a.toList b.toList o.toList (i+1) (j+2)/\i<a.size/\j+1<b.size/\out.size+1<=o.size)
   (Q:=λz d=>Eqv f d/\((∃w rest,z=(some w,rest)/\Gd r a b w)∨ ∃(i j:Nat) (o:Array Keyed) (u v w:Nat),z=(none,i+1,j+2,o,u,v,w)/\Mh r a.toList b.toList o.toList (i+1) (j+2)/\i<a.size/\j+1<b.size/\out.size+1<=o.size)) ?step2 ?stop2 ⟨p,i,j,o,mg+1,u,v,zZ,C,D,G,h3⟩) ?post2)
  case step2=>
   rintro x z O _ hx ⟨B,i,j,o,u,v,w,rfl,U,Y,g2,g3⟩;exact O2 K hk T B ⟨zZ,zZ,zZ⟩ U Y g2 g3 ⟨λst w rest e g=>⟨e,.inl ⟨w,rest,zZ,g⟩⟩,λst H J L x' y' z' e N l n y=>⟨⟨e,.inr ⟨H,J,L,x',y',z',zZ,N,l,n,y⟩⟩,⟨e,H,J,L,x',y',z',zZ,N,l,n,y⟩⟩⟩
  case stop2=>
   rintro z O ⟨B,i,j,o,u,v,w,rfl,U,Y,g2,g3⟩;exact⟨B,.inr ⟨i,j,o,u,v,w,zZ,U,Y,g2,g3⟩⟩
  case post2=>
   rintro z O ⟨B,h⟩
   rcases h with⟨w,rest,rfl,g⟩|⟨i,j,o,u,v,w,rfl,U,Y,g2,g3⟩
   .exact df (q1 _ _ _ B g)
   .dsimp only;exact c7 (BM λab x3=>df (q2 _ _ _ _ _ (B.trans x3) U Y g2 g3))
def JL{st:SortSt}{Q:Array Keyed->SortSt->Prop}(K:Asks M A s κ r a₀)(L:kindOf st=κ)(T:Two κ r a₀ a b)(q: ∀m d,Eqv st d->Gd r a b m->Q m d):wpS M A E s (DV a b) Q st:=by
 rw[MR];unfold GS;have a1:=T.a1;have b1:=T.b1;obtain⟨n,hn⟩: ∃n,a.size=n+1:=pP (by first|assumption|lia);have G:a.size-1=n:=by lia
 rw[G];refine c7 (uk (nV ⟨zZ,c7 (hZ () ?_)⟩));have N:Mh r a.toList b.toList (#[]:Array Keyed).toList (n+1) b.size:=⟨by rw[xM (by rw[eO];lia),xM (by rw[eO];exact cO _)];simp,List.Pairwise.nil,λx _ y f=>(nomatch f),λx _ y f=>(nomatch f)⟩;have k:Mh r a.toList b.toList (#[a.getD n d0]:Array Keyed).toList n b.size:=DF (out:= #[]) T N () (λy f=>by have:=T.top y (vi f);rw[G]at this;exact this);by_cases p:n=0
 .rw[wB (by simpa using p)];refine df (q _ _ (Eqv.refl _) ?_);show gQ r _ _ (mD a b _ _ _).toList;rw[yl];exact k.endA T.sb p
 rw[wA (by simpa using p)];by_cases t:b.size=1
 .rw[wB (by simpa using t)];refine df (q _ _ (Eqv.refl _) ?_);show gQ r _ _ (pe a b _ _ _).toList;rw[A6];exact k.first T.sa T.sb (by rw[t];exact T.bot)
 rw[wA (by simpa using t)];obtain⟨u,rfl⟩: ∃u,n=u+1:=pP (by first|assumption|lia);obtain⟨v,h⟩: ∃v,b.size=v+2:=⟨b.size-2,()⟩;rw[h]at k;refine c7 (nq (c7 (kS (j8 (I:=λx (c:U5) d=>Eqv st d/\ ∃(i j:Nat) (o:Array Keyed) (g:Nat),c=(none,i+1,j+2,o,g)/\Mh r a.toList b.toList o.toList (i+1) (j+2)/\i<a.size/\j+1<b.size/\x+1<=o.size)
  (Q:=λc d=>Eqv st d/\ ∃w rest,c=(some w,rest)/\Gd r a b w) ?step ?stop ⟨Eqv.refl _,u,v,_,_,by rw[h],k,(),(),cO _⟩) ?post)))
 case step=>
  rintro x c d _ hx ⟨l,i,j,o,g,rfl,B,H,J,O⟩;exact MI K L T l zZ B H J (λst w rest e g=>⟨e,w,rest,zZ,g⟩) λd U Y o' g' e m' C D aa=>⟨e,U,Y,o',g',zZ,m',C,D,()⟩
 case stop=>
  rintro c d ⟨l,i,j,o,g,rfl,B,H,J,O⟩;have z:=B.len (by rw[eO];lia) (by rw[eO];lia);rw[eO,eO,eO]at z
  exfalso
  lia
 case post=>
  rintro c d ⟨l,w,rest,rfl,g⟩;exact df (q _ _ l g)
end
def Kn(i:Nat):mergeAt' i=(do
 let s <-get
 let(some (b,c,d),some (f,e,_)):=((pendingOf s)[i]?,(pendingOf s)[i+1]?)|unsupported "internal:list.sort.pending"
 set (setPending s (((pendingOf s).setIfInBounds i (b,c+e,d)).eraseIdxIfInBounds (i+1)))
 let some k <-qj false (<-elem' (arrOf s) f) (arrOf s) b c 0|return false
 let(b,c):=(b+k,c-k)
 if c==0 then return true
 let some e <-qj true (<-elem' (arrOf s) (b+c-1)) (arrOf s) f e (e-1)|return false
 if e==0 then return true
 let x:=(arrOf s).extract b f
 let y:=(arrOf s).extract f (f+e)
 let merged <-if c<=e then Cj x y else DV x y
 modify λs=>setArr s (merged.toList.zipIdx.foldl (λa (p,j)=>a.setIfInBounds (b+j) p) (arrOf s))
 return (failedOf (<-get)).isNone):=rfl
section
variable{M:Model}{A:Ar}{E:VP}{s:Sh}{g:SortKind}{r:Keyed->Int}{d xs f:Array Keyed}
def NX{st a:SortSt}{Q:PUnit->SortSt->Prop}(h:Q ⟨⟩ a):wpS M A E s (set a:StateT SortSt Sem PUnit) Q st:=by
 unfold wpS;rw[StateT.run_set];exact cH ⟨zZ,h⟩
theorem laid: ∀(c:List Keyed) (j b:Nat) (xs:Array Keyed),b+j+c.length<=xs.size->((c.zipIdx j).foldl (λa (p,j)=>a.setIfInBounds (b+j) p) xs).toList=xs.toList.take (b+j)++c++xs.toList.drop (b+j+c.length)
 | [],j,b,xs,_=>by
  rw[iV,List.length_nil,wr];exact(on _ _).symm
 | m::c,j,b,xs,h=>by
  rw[nt]at h;rw[List.zipIdx_cons,CD,laid c (j+1) b _ (by rw[Array.size_setIfInBounds];lia),FR,nt];have e:b+j<xs.toList.length:=by rw[eO];lia
  have i:(xs.toList.set (b+j) m).take (b+(j+1))=xs.toList.take (b+j)++[m]:=by
   rw[show b+(j+1)=b+j+1 by lia,List.take_succ_eq_append_getElem (by rw[pN];exact e),List.getElem_set_self,List.take_set_of_le (cO _)]
  have k:(xs.toList.set (b+j) m).drop (b+(j+1)+c.length)=xs.toList.drop (b+j+(c.length+1)):=by
   rw[List.drop_set_of_lt ()]
   congr 1
   lia
  rw[i,k,fO,fO,fO];rfl
def Bb(xs:Array Keyed)(t n:Nat):(xs.extract t n).toList=(xs.toList.take n).drop t:=Eb xs t n
def A'{t n:Nat}(h:n<=xs.size):(xs.extract t n).size=n-t:=by rw[Array.size_extract];lia
def Ct{t n i:Nat}(h:n<=xs.size)(a:t+i<n):(xs.extract t n).getD i d0=xs.getD (t+i) d0:=by
 refine pc ?_;rw[Array.getElem?_extract,wB ()]
def G4{l:List Keyed}{f:Array Keyed}(h:f.toList=l)(i:Nat):f[i]? =l[i]? :=by rw[<-h,lK]
def Mr{st:SortSt}{i b o pw sb N ag:Nat}{Q:Bool->SortSt->Prop}(K:Asks M A s g r d)(B:StOk g d st)(h1:(pendingOf st)[i]? =some (b,o,pw))(h2:(pendingOf st)[i+1]? =some (sb,N,ag))(es:sb=b+o)(aq:1<=o)(ar:1<=N)(hz:sb+N<=d.size)
  (O:Ris r (arrOf st) b (b+o)) (U:Ris r (arrOf st) sb (sb+N))
  (q: ∀u,StOk g d u->pendingOf u=((pendingOf st).setIfInBounds i (b,o+N,pw)).eraseIdxIfInBounds (i+1)->Out (arrOf st) (arrOf u) b (sb+N)->Ris r (arrOf u) b (sb+N)->Q true u):wpS M A E s (mergeAt' i) Q st:=by
 have sz:=qe B.perm;subst es;rw[Kn];refine c7 (nq ?_);rw[h1,h2];dsimp only;refine c7 (NX ?_);generalize hP:((pendingOf st).setIfInBounds i (b,o+N,pw)).eraseIdxIfInBounds (i+1)=P at q⊢;have B1:StOk g d (setPending st P):=⟨B.kind,B.perm,B.ok⟩;generalize G:arrOf st=xs at O U q sz⊢;have pm:xs.Perm d:=G▸B.perm;have mem: ∀j,j<d.size->xs.getD j d0∈d:=λj I=>A1 pm I;have ap: ∀i j,i<d.size->j<d.size->i≠j->kx r xs i≠kx r xs j:=λi j hi I ij=>K.apart pm hi I ij;refine c7 (hZ () (c7 (vy K B1.kind () (λj I=>mem _ ()) (mem _ ()) (λj I=>ap _ _ () () ()) O () λk kn k2 k3=>?_)));dsimp only;by_cases z0:o-k=0
 .rw[wB (by simpa using z0)];refine df (q _ B1 zZ (by show Out xs (arrOf st) _ _;rw[G];exact Out.refl _ _ _) ?_);show Ris r (arrOf st) _ _;rw[G];intro i j w C H;by_cases c1:j<b+o
  .exact O i j w C c1
  by_cases c2:b+o<=i
  .exact U i j c2 C H
  have D:=k2 (i-b) ();rw[oX w]at D;have D:kx r xs i<kx r xs (b+o):=D;by_cases c3:j=b+o
  .rw[c3];exact D
  .exact xz D (U (b+o) j (cO _) (yF (Nat.not_lt.mp c1) (fh c3)) H)
 rw[wA (by simpa using z0)];have kl:k<o:=by lia
 clear z0;have dk: ∀_:Unit,b+k+(o-k)=b+o:=λ_=>by lia
 rw[dk Unit.unit];refine c7 (hZ () (c7 (vy K B1.kind () (λj I=>mem _ ()) (mem _ ()) (λj I=>ap _ _ () () ()) U () λv nn ah ae=>?_)));dsimp only;have bk:kx r xs (b+o)<kx r xs (b+k):=by
  have:=k3 k (cO _) ();exact this
 have aa:kx r xs (b+k)<=kx r xs (b+o-1):=by
  by_cases c:b+k=b+o-1
  .rw[c];exact Int.le_refl _
  .exact Int.le_of_lt (O (b+k) (b+o-1) () () ())
 have ai:v≠0:=λz=>by
  subst z;have:=ae 0 (cO _) ();rw[wr]at this;exact wC this (Int.not_lt.mpr (Int.le_trans (Int.le_of_lt bk) aa))
 rw[wA (by simpa using ai)];have sx:(xs.extract (b+k) (b+o)).size=o-k:=by rw[A' ()];exact Nat.add_sub_add_left ..
 have sy:(xs.extract (b+o) (b+o+v)).size=v:=by rw[A' ()];exact vj ..
 have mx: ∀x∈(xs.extract (b+k) (b+o)).toList,∃j,b+k<=j/\j<b+o/\xs.getD j d0=x:=λx G=>by
  rw[Bb]at G;obtain⟨j,w,C,_,H⟩:=zY G;exact⟨j,w,C,H⟩
 have my: ∀x∈(xs.extract (b+o) (b+o+v)).toList,∃j,b+o<=j/\j<b+o+v/\xs.getD j d0=x:=λx G=>by
  rw[Bb]at G;obtain⟨j,w,C,_,H⟩:=zY G;exact⟨j,w,C,H⟩
 have af: ∀(t n:Nat),n<=xs.size->Ris r xs t n->Up r (xs.extract t n).toList:=λt n hn ur=>by
  refine pV.mpr λi j hi I ij=>?_;rw[eO,A' hn]at hi I;have e: ∀c (hc:c<(xs.extract t n).toList.length),(xs.extract t n).toList[c]=xs.getD (t+c) d0:=λc hc=>by
   rw[eO,A' hn]at hc;rw[<-Ct hn (),Array.getElem_toList];exact(dy (mJ _)).symm
  rw[e,e];exact ur (t+i) (t+j) () () ()
 have aj: ∀_:Unit,b+k+(o-k-1)=b+o-1:=λ_=>by rw[<-dk Unit.unit];exact(Nat.add_sub_assoc (Nat.sub_pos_of_lt kl) _).symm
 have J: ∀_:Unit,b+k+(o-k+v)=b+o+v:=λ_=>by rw[<-Nat.add_assoc,dk Unit.unit]
 have T:Two g r d (xs.extract (b+k) (b+o)) (xs.extract (b+o) (b+o+v)):=by
  refine⟨λx G=>?_,λx G=>?_,af _ _ () λi j w C H=>O i j () C H,af _ _ () λi j w C H=>U i j w C (),λx G y hy=>?_,(),(),λx G=>?_,λy hy=>?_⟩
  .obtain⟨j,w,C,rfl⟩:=mx x G;exact mem j ()
  .obtain⟨j,w,C,rfl⟩:=my x G;exact mem j ()
  .obtain⟨j,w,C,rfl⟩:=mx x G;obtain⟨l,H,g4,rfl⟩:=my y hy;exact ap j l () () ()
  .obtain⟨j,w,C,rfl⟩:=mx x G;rw[Ct () (),wr];show kx r xs (b+o)<kx r xs j
   by_cases c:j=b+k
   .rw[c];exact bk
   .exact xz bk (O (b+k) j (nP ..) (yF w (fh c)) C)
  .obtain⟨j,w,C,rfl⟩:=my y hy;rw[sx,Ct () (),show b+k+(o-k-1)=b+o-1 from aj Unit.unit];have:=ah (j-(b+o)) (yX w C)
   rw[oX w]at this;exact this
 have fin: ∀m u,Eqv (setPending st P) u->Gd r (xs.extract (b+k) (b+o)) (xs.extract (b+o) (b+o+v)) m->wpS M A E s (do
   modify λs=>setArr s (m.toList.zipIdx.foldl (λa (p,j)=>a.setIfInBounds (b+k+j) p) (arrOf s))
   return (failedOf (<-get)).isNone) Q u:=λm u ev gd=>by
  have ea:arrOf u=xs:=ev.arr.trans G;have ml:m.toList.length=o-k+v:=by
   have:=gd.1.length_eq;rw[dF,eO (xs:=xs.extract _ _),eO (xs:=xs.extract _ _),sx,sy]at this;exact this
  refine c7 (oI (c7 (nq ?_)));rw[ea];have tl:=laid m.toList 0 (b+k) xs (by rw[ml];lia);rw[wr,ml]at tl;generalize as:m.toList.zipIdx.foldl (λa (p,j)=>a.setIfInBounds (b+k+j) p) xs=f at tl⊢;have ak:(failedOf (setArr u f)).isNone=true:=by
   show(failedOf u).isNone=true;rw[ev.ok];show(failedOf st).isNone=true
   rw[B.ok];rfl
  rw[ak];have mid:xs.toList=xs.toList.take (b+k)++((xs.extract (b+k) (b+o)).toList++(xs.extract (b+o) (b+o+v)).toList)++xs.toList.drop (b+k+(o-k+v)):=by
   rw[Bb,Bb];have e1:xs.toList.take (b+k)++(xs.toList.take (b+o)).drop (b+k)=xs.toList.take (b+o):=by
    have z:=on (b+k) (xs.toList.take (b+o));rwa[zT,u0 ()]at z
   have e2:xs.toList.take (b+o)++(xs.toList.take (b+o+v)).drop (b+o)=xs.toList.take (b+o+v):=by
    have z:=on (b+o) (xs.toList.take (b+o+v));rwa[zT,u0 ()]at z
   rw[<-fO,e1,e2,J Unit.unit,on]
  have al:f.Perm xs:=by
   refine oG.mpr ?_;rw[tl]
   conv=>rhs;rw[mid]
   exact zO _ (xj _ gd.1)
  have lx:xs.toList.length=d.size:=by rw[eO];exact sz
  have mn:min (b+k) xs.toList.length=b+k:=u0 ();have Y: ∀j,j<b+k∨b+o+v<=j->f[j]? =xs[j]? :=λj I=>by
   rw[G4 tl j,<-lK]
   rcases I with h|h
   .rw[fe (by rw[dF,fi,mn];exact Nat.lt_add_right _ h),fe (by rw[fi,mn];exact h),CH,wB h]
   .rw[e9 (by rw[dF,fi,ml,mn,J Unit.unit];exact h),zg]
    congr 1
    rw[dF,fi,ml,mn,J Unit.unit];exact oX h
  have ab: ∀j,b+k<=j->j<b+o+v-> ∃h:j-(b+k)<m.toList.length,f.getD j d0=m.toList[j-(b+k)]:=λj w C=>by
   have hl:j-(b+k)<m.toList.length:=by rw[ml];exact yX w (by rw[J Unit.unit];exact C)
   refine⟨hl,dy ?_⟩;rw[G4 tl j,fe (by rw[dF,fi,ml,mn,J Unit.unit];exact C),e9 (by rw[fi,mn];exact w),fi,mn,cE hl]
  have L: ∀j,b+k<=j->j<b+o+v-> ∃l,b+k<=l/\l<b+o+v/\f.getD j d0=xs.getD l d0:=λj w C=>by
   obtain⟨hl,e⟩:=ab j w C;have mm:f.getD j d0∈(xs.extract (b+k) (b+o)).toList++(xs.extract (b+o) (b+o+v)).toList:=by
    rw[e];exact(List.Perm.mem_iff gd.1).mp (l6 hl)
   rcases dD.mp mm with z|z
   .obtain⟨l,D,l2,l3⟩:=mx _ z;exact⟨l,D,(),l3.symm⟩
   .obtain⟨l,D,l2,l3⟩:=my _ z;exact⟨l,(),l2,l3.symm⟩
  refine df (q _ ⟨ev.kind.trans B1.kind,al.trans pm,by show failedOf u=none;rw[ev.ok];exact B.ok⟩ ev.pend (λj I=>Y j ()) λi j w C H=>?_);show kx r f i<kx r f j;have oe: ∀c,c<b+k∨b+o+v<=c->kx r f c=kx r xs c:=λc hc=>dN r (pc (Y c hc));have hd: ∀c l,b<=c->c<b+k->b+k<=l->l<b+o+N->kx r xs c<kx r xs l:=λc l c1 c2 c3 c4=>by
   by_cases c5:l<b+o
   .exact O c l c1 () c5
   .have D:=k2 (c-b) (yX c1 c2);rw[oX c1]at D;have D:kx r xs c<kx r xs (b+o):=D;by_cases c6:l=b+o
    .rw[c6];exact D
    .exact xz D (U (b+o) l (cO _) (yF (Nat.not_lt.mp c5) (fh c6)) c4)
  have am: ∀l c,b+k<=l->l<b+o+v->b+o+v<=c->c<b+o+N->kx r xs l<kx r xs c:=λl c c1 c2 c3 c4=>by
   by_cases c5:b+o<=l
   .exact U l c c5 () c4
   .have c0:=dL (nP ..) c3;have D:=ae (c-(b+o)) (Nat.le_sub_of_add_le' c3) (yX c0 c4);rw[oX c0]at D;have D:kx r xs (b+o-1)<kx r xs c:=D;by_cases c6:l=b+o-1
    .rw[c6];exact D
    .exact xz (O l (b+o-1) () () ()) D
  by_cases i1:i<b+k
  .rw[oe i (.inl i1)];by_cases j1:j<b+k
   .rw[oe j (.inl j1)];exact O i j w C ()
   .by_cases j2:j<b+o+v
    .obtain⟨l,D,l2,l3⟩:=L j () j2;show kx r xs i<r (f.getD j d0);rw[l3];exact hd i l w i1 D ()
    .rw[oe j (.inr ())];exact hd i j w i1 () H
  .by_cases i2:i<b+o+v
   .by_cases j2:j<b+o+v
    .obtain⟨an,e1⟩:=ab i () i2;obtain⟨ao,e2⟩:=ab j () j2;show r (f.getD i d0)<r (f.getD j d0)
     rw[e1,e2];exact pV.mp gd.2 _ _ an ao ()
    .obtain⟨l,D,l2,l3⟩:=L i () i2;rw[oe j (.inr ())];show r (f.getD i d0)<kx r xs j
     rw[l3];exact am l j D l2 () H
   .rw[oe i (.inr ()),oe j (.inr ())];exact U i j () C H
 by_cases c:o-k<=v
 .rw[wB c];exact c7 (NT K B1.kind T fin)
 .rw[wA c];exact c7 (JL K B1.kind T fin)
end
def gN(r:Keyed->Int)(a:Array Keyed):Nat->List (Nat×Nat×Nat)->Nat->Prop
 |s,[],e=>s=e
 |s,u::l,e=>u.1=s/\1<=u.2.1/\Ris r a s (s+u.2.1)/\gN r a (s+u.2.1) l e
section
variable{r:Keyed->Int}{j k:Array Keyed}
theorem AU: ∀{l:List (Nat×Nat×Nat)} {s e:Nat},gN r j s l e->s+l.length<=e
 | [],s,e,h=>by
  have:s=e:=h;simp;lia
 |u::l,s,e,h=>by
  have:=AU h.2.2.2;have:=h.2.1;rw[nt];lia
theorem dW: ∀{l c:List (Nat×Nat×Nat)} {s e:Nat},gN r j s (l++c) e↔ ∃m,gN r j s l m/\gN r j m c e
 | [],c,s,e=>⟨λh=>⟨s,zZ,h⟩,λ⟨m,a,b⟩=>by have:s=m:=a;subst this;exact b⟩
 | u::l,c,s,e=>by
  constructor
  .rintro⟨a,b,d,i⟩;obtain⟨m,f,g⟩:=dW.mp i;exact⟨m,⟨a,b,d,f⟩,g⟩
  .rintro⟨m,⟨a,b,d,f⟩,g⟩;exact⟨a,b,d,dW.mpr ⟨m,f,g⟩⟩
theorem zo{lo a:Nat}(o:Out j k lo a): ∀{l:List (Nat×Nat×Nat)} {s e:Nat},gN r j s l e->e<=lo∨a<=s->gN r k s l e
 | [],_,_,h,_=>h
 |u::l,s,e,h,d=>by
  have:=AU h.2.2.2;exact⟨h.1,h.2.1,o.ris h.2.2.1 (),zo o h.2.2.2 ()⟩
def Md{p:Array (Nat×Nat×Nat)}{i:Nat}(h:i+1<p.size): ∃a u v d,p.toList=a++u::v::d/\a.length=i/\p[i]? =some u/\p[i+1]? =some v:=by
 have e:p.toList.length=p.size:=eO;refine⟨p.toList.take i,p[i]'(),p[i+1],p.toList.drop (i+2),?_,by rw[fi];lia,mJ _,mJ _⟩;have b:p.toList.drop i=p.toList[i]'()::p.toList.drop (i+1):=yx ();have c:p.toList.drop (i+1)=p.toList[i+1]'()::p.toList.drop (i+2):=yx ();rw[Array.getElem_toList]at b c;rw[<-c,<-b,on]
def Op{p:Array (Nat×Nat×Nat)}{i:Nat}{a b:List (Nat×Nat×Nat)}{u v w:Nat×Nat×Nat}(h:p.toList=a++u::v::b)(c:a.length=i):((p.setIfInBounds i w).eraseIdxIfInBounds (i+1)).toList=a++w::b:=by
 rw[Array.toList_eraseIdxIfInBounds,FR,h,List.set_append_right _ _ (),c,nG,List.eraseIdx_append_of_length_le (),c,vj];rfl
variable{M:Model}{A:Ar}{E:VP}{s:Sh}{b:SortKind}{a:Array Keyed}
def CA{st:SortSt}{i lo:Nat}{Q:Bool->SortSt->Prop}(K:Asks M A s b r a)(B:StOk b a st)(C:i+1<(pendingOf st).size)(R:gN r (arrOf st) 0 (pendingOf st).toList lo)(D:lo<=a.size)
  (q: ∀c,StOk b a c->(pendingOf c).size+1=(pendingOf st).size->Out (arrOf st) (arrOf c) 0 lo->gN r (arrOf c) 0 (pendingOf c).toList lo->Q true c):wpS M A E s (mergeAt' i) Q st:=by
 obtain⟨l1,u,v,G,e,H,I,J⟩:=Md C;rw[e]at R;obtain⟨m,L,R2⟩:=dW.mp R;obtain⟨p,t,x,h,y,z,l⟩:=R2;obtain⟨d,g,N⟩:=u;obtain⟨O,f,T⟩:=v;dsimp only at p t x h y z l;subst p;have le:=AU l;refine Mr K B I J h t y () x (by rw[h];exact z) λc U Y o up=>?_;have n:=Op (w:=(d,g+f,N)) e H;rw[<-Y]at n;refine q c U ?_ (o.wide (jj _) ()) ?_
 .have l3:(pendingOf c).toList.length+1=(pendingOf st).toList.length:=by
   rw[n,e];simp;lia
  rwa[eO,eO]at l3
 .rw[n];refine dW.mpr ⟨d,zo o L (.inl (cO _)),zZ,by show 1<=g+f;lia,?_,?_⟩
  .show Ris r (arrOf c) d (d+(g+f));rw[show d+(g+f)=O+f by lia];exact up
  .show gN r (arrOf c) (d+(g+f)) G lo;rw[show d+(g+f)=d+g+f by lia];exact zo o l (.inr ())
theorem Cs{f:Nat->Nat}: ∀{l:List (Nat×Nat×Nat)} {s e i:Nat},gN r j s l e->gN r j s (l.modify i λu=>(u.1,u.2.1,f u.2.2)) e
 | [],_,_,_,h=>by simpa using h
 |u::l,s,e,0,h=>h
 |u::l,s,e,i+1,h=>⟨h.1,h.2.1,h.2.2.1,Cs h.2.2.2⟩
def NQ{st:SortSt}{Q:Unit->SortSt->Prop}(K:Asks M A s b r a)(B:StOk b a st)(hp:pendingOf st= #[])(h1:1<=a.size)
  (q: ∀d,StOk b a d->Ris r (arrOf d) 0 a.size->Q ⟨⟩ d):wpS M A E s sortRuns' Q st:=by
 have sz:=qe B.perm;rw[sortRuns'_eq];refine c7 (nq ?_);dsimp only;rw[sz];refine c7 (kS (j8 (I:=λx c d=> ∃lo,c=(none,lo)/\x<=lo/\lo<=a.size/\StOk b a d/\gN r (arrOf d) 0 (pendingOf d).toList lo)
  (Q:=λc d=>c=(none,a.size)/\StOk b a d/\gN r (arrOf d) 0 (pendingOf d).toList a.size) ?step ?stop ⟨0,zZ,cO _,jj _,B,by rw[hp];rfl⟩) ?post)
 case stop=>
  rintro c d ⟨lo,rfl,h1,h2,B',R⟩;have e:lo=a.size:=by lia
  subst e;exact⟨zZ,B',R⟩
 case step=>
  rintro x c ab _ hx ⟨lo,rfl,ag,U,B1,Y⟩;dsimp only;by_cases z:lo≥a.size
  .rw[wB z];have e:lo=a.size:=by lia
   subst e;exact df ⟨zZ,B1,Y⟩
  rw[wA z];refine c7 (Mz K B1 () () λn m L p2 O o2 T nn aa=>?_);dsimp only;have R2:gN r (arrOf m) 0 (pendingOf m).toList lo:=by rw[p2];exact zo o2 Y (.inl (cO _))
  by_cases mr:n<minRun' a.size a.size 0
  .rw[wB mr];refine c7 (uk (nV ⟨zZ,?_⟩));refine c7 (KQ K L () () aa λw G p3 g3 o3 C=>?_);rw[wA (by decide)];have N:gN r (arrOf w) 0 (pendingOf w).toList lo:=by rw[p3];exact zo o3 R2 (.inl (cO _))
   have T:1<=min (a.size-lo) (minRun' a.size a.size 0):=by lia
   have nn:lo+min (a.size-lo) (minRun' a.size a.size 0)<=a.size:=by lia
   generalize min (a.size-lo) (minRun' a.size a.size 0)=H at C T nn⊢;refine c7 (nq ?_);cases eb:(pendingOf w).back? with
   |none=>
    dsimp only;refine c7 (oI (df ⟨lo+H,zZ,(),(),⟨G.kind,G.perm,G.ok⟩,?_⟩));show gN r (arrOf w) 0 ((pendingOf w).push (lo,H,0)).toList (lo+H)
    rw[wu];exact dW.mpr ⟨lo,N,zZ,T,C,zZ⟩
   | some u=>
    obtain⟨D,p,w1⟩:=u;dsimp only;refine c7 (kS (j8 (I:=λx c d=>c=(none,Unit.unit)/\StOk b a d/\gN r (arrOf d) 0 (pendingOf d).toList lo/\Ris r (arrOf d) lo (lo+H))
     (Q:=λc d=>c=(none,Unit.unit)/\StOk b a d/\gN r (arrOf d) 0 (pendingOf d).toList lo/\Ris r (arrOf d) lo (lo+H)) ?step2 ?stop2 ⟨zZ,G,N,C⟩) ?post2)
    case stop2=>
     rintro c i h;exact h
    case step2=>
     rintro y c i _ _ ⟨rfl,t,J,o⟩;refine c7 (nq ?_);by_cases g:(pendingOf i).size>1
     .rw[wB g,mJ ()];generalize(pendingOf i)[(pendingOf i).size-2]=u2;obtain⟨a2,b2,v⟩:=u2;dsimp only;by_cases O:v<=power' a.size (2 * D+p) (2 * D+p+p+H) a.size
      .rw[wB O];exact df ⟨zZ,t,J,o⟩
      .rw[wA O];refine c7 (CA K t () J U λae B5 _ o5 R5=>?_);exact df ⟨zZ,B5,R5,o5.ris o (.inr (cO _))⟩
     .rw[wA g];exact df ⟨zZ,t,J,o⟩
    case post2=>
     rintro c i ⟨rfl,t,J,o⟩;dsimp only;refine c7 (oI (c7 (oI (df ⟨lo+H,zZ,(),(),⟨t.kind,t.perm,t.ok⟩,?_⟩))));show gN r (arrOf i) 0 (((pendingOf i).modify ((pendingOf i).size-1) λx=>(x.fst,x.2.fst,power' a.size (2 * D+p) (2 * D+p+p+H) a.size)).push (lo,H,0)).toList (lo+H)
     rw[wu,Array.toList_modify];exact dW.mpr ⟨lo,Cs (f:=λ_=>power' a.size (2 * D+p) (2 * D+p+p+H) a.size) J,zZ,T,o,zZ⟩
  .rw[wA mr];have G:=L;have N:=R2;have C:=aa;refine c7 (nq ?_);cases eb:(pendingOf m).back? with
   |none=>
    dsimp only;refine c7 (oI (df ⟨lo+n,zZ,(),(),⟨G.kind,G.perm,G.ok⟩,?_⟩));show gN r (arrOf m) 0 ((pendingOf m).push (lo,n,0)).toList (lo+n)
    rw[wu];exact dW.mpr ⟨lo,N,zZ,T,C,zZ⟩
   | some u=>
    obtain⟨D,p,w1⟩:=u;dsimp only;refine c7 (kS (j8 (I:=λx c d=>c=(none,Unit.unit)/\StOk b a d/\gN r (arrOf d) 0 (pendingOf d).toList lo/\Ris r (arrOf d) lo (lo+n))
     (Q:=λc d=>c=(none,Unit.unit)/\StOk b a d/\gN r (arrOf d) 0 (pendingOf d).toList lo/\Ris r (arrOf d) lo (lo+n)) ?step2 ?stop2 ⟨zZ,G,N,C⟩) ?post2)
    case stop2=>
     rintro c i h;exact h
    case step2=>
     rintro y c i _ _ ⟨rfl,t,J,o⟩;refine c7 (nq ?_);by_cases g:(pendingOf i).size>1
     .rw[wB g,mJ ()];generalize(pendingOf i)[(pendingOf i).size-2]=u2;obtain⟨a2,b2,v⟩:=u2;dsimp only;by_cases O:v<=power' a.size (2 * D+p) (2 * D+p+p+n) a.size
      .rw[wB O];exact df ⟨zZ,t,J,o⟩
      .rw[wA O];refine c7 (CA K t () J U λae B5 _ o5 R5=>?_);exact df ⟨zZ,B5,R5,o5.ris o (.inr (cO _))⟩
     .rw[wA g];exact df ⟨zZ,t,J,o⟩
    case post2=>
     rintro c i ⟨rfl,t,J,o⟩;dsimp only;refine c7 (oI (c7 (oI (df ⟨lo+n,zZ,(),(),⟨t.kind,t.perm,t.ok⟩,?_⟩))));show gN r (arrOf i) 0 (((pendingOf i).modify ((pendingOf i).size-1) λx=>(x.fst,x.2.fst,power' a.size (2 * D+p) (2 * D+p+p+n) a.size)).push (lo,n,0)).toList (lo+n)
     rw[wu,Array.toList_modify];exact dW.mpr ⟨lo,Cs (f:=λ_=>power' a.size (2 * D+p) (2 * D+p+p+n) a.size) J,zZ,T,o,zZ⟩
 case post=>
  rintro c ab ⟨rfl,B1,Y⟩;dsimp only;refine c7 (kS (j8 (I:=λx c d=>c=(none,Unit.unit)/\StOk b a d/\gN r (arrOf d) 0 (pendingOf d).toList a.size/\(pendingOf d).size+x<=a.size)
   (Q:=λc d=>c=(none,Unit.unit)/\StOk b a d/\gN r (arrOf d) 0 (pendingOf d).toList a.size/\(pendingOf d).size<=1) ?step3 ?stop3 ⟨zZ,B1,Y,by have:=AU Y;rw[eO]at this;lia⟩) ?post3)
  case stop3=>
   rintro c m ⟨hc,L,R2,hz⟩;exact⟨hc,L,R2,()⟩
  case step3=>
   rintro x c m _ hx ⟨rfl,L,R2,hz⟩;refine c7 (nq ?_);by_cases g:(pendingOf m).size<=1
   .rw[wB g];exact df ⟨zZ,L,R2,g⟩
   .rw[wA g];refine c7 (CA K L ?_ R2 (cO _) λw G z3 o3 N=>?_)
    .have af: ∀(c:Prop) [Decidable c],(if c then(pendingOf m).size-2-1 else(pendingOf m).size-2)+1<(pendingOf m).size:=λc _=>by
      by_cases h:c
      .rw[wB h];lia
      .rw[wA h];lia
     exact af _
    .exact df ⟨zZ,G,N,()⟩
  case post3=>
   rintro c m ⟨rfl,L,R2,hz⟩;refine df (q m L ?_);have hl:(pendingOf m).toList.length<=1:=by rw[eO];exact hz
   generalize(pendingOf m).toList=l at R2 hl
   match l,R2,hl with
   | [],R2,_=>
    have:0=a.size:=R2;lia
   | [u],R2,_=>
    have e:0+u.2.1=a.size:=R2.2.2.2;rw[<-e];exact R2.2.2.1
end
section
variable{P:Pg}{w:World}{A:Ar}{E:VP}{s:Sh}{a:Ad}{vs ks:Vs}{k:Nat->Int}{d:SortKind}
noncomputable def iW (ks:Vs) (x:Keyed):Nat:=Classical.epsilon λi=>ks[i]? =some x.1
def xW(nd:ks.Nodup){i:Nat}{x:Keyed}(h:ks[i]? =some x.1):iW ks x=i:=by
 have z:ks[iW ks x]? =some x.1:=Classical.epsilon_spec (p:=λi=>ks[i]? =some x.1) ⟨i,h⟩;exact(jx (cP.mp z).1 nd).mp (z.trans h.symm)
def Fg{Q:SortSt->Sh->Prop}(u:ks.length=vs.length)(N:1<=vs.length)(nd:ks.Nodup)(inj: ∀i j,i<vs.length->j<vs.length->k i=k j->i=j)
  (ask: ∀i j (C:Bool->Sh->Prop),i<ks.length->j<ks.length->C (decide (k i<k j)) s->kas_ask P w A d ks i j C s)
  (H: ∀p b,Arr vs.length p->qu k p vs.length->(arrOf b).map (·.2)=(iF vs p).toArray->failedOf b=none->Q b s):
  wpAny (model P w) A ((sortRuns').run (SortSt.mk' d (ks.toArray.zip vs.toArray) #[] 7 none)) (λr v=>Q r.2 v) E s:=by
 have sz:(ks.toArray.zip vs.toArray).size=vs.length:=by simp[u]
 have o: ∀i,i<vs.length->(ks.toArray.zip vs.toArray).getD i d0=(ks.getD i Value.none,vs.getD i Value.none):=λi c=>kat_item u i;have q: ∀i,i<vs.length->ks[i]? =some (ks.getD i Value.none):=λi c=>by
  rw[eC,cE ()];rfl
 have g: ∀i,i<vs.length->iW ks ((ks.toArray.zip vs.toArray).getD i d0)=i:=λi c=>xW nd (by rw[o i c];exact q i c);have f: ∀x∈ks.toArray.zip vs.toArray,∃i,i<vs.length/\x=(ks.toArray.zip vs.toArray).getD i d0:=λx m=>by
  obtain⟨i,c,e⟩:=Array.getElem_of_mem m;exact⟨i,(),(dy (xr.mpr ⟨c,e⟩)).symm⟩
 have K:Asks (model P w) A s d (λx=>k (iW ks x)) (ks.toArray.zip vs.toArray):=by
  refine⟨λx y C m I D=>?_,λi j c l J z=>?_⟩
  .obtain⟨i,c,rfl⟩:=f x m;obtain⟨j,l,rfl⟩:=f y I;have z:=ask i j C () () (by rw[g i c,g j l]at D;exact D);unfold kas_ask at z;rw[o i c,o j l];exact z
  .rw[sz]at c l;rw[g i c,g j l]at z;exact J (inj i j c l z)
 have run:=NQ (E:=E) (st:=SortSt.mk' d (ks.toArray.zip vs.toArray) #[] 7 none) (Q:=λ_ b=>Q b s) K ⟨zZ,CK _,zZ⟩ zZ () λb B up=>?_
 .unfold wpS at run;exact iM run (λr v h=>by obtain⟨rfl,h⟩:=h;exact h) λ_ _ e=>e
 .have t:=qe B.perm;rw[sz]at up t;have mem: ∀i,i<vs.length->(arrOf b).getD i d0∈ks.toArray.zip vs.toArray:=λi c=>A1 B.perm ();have L:Arr vs.length ((arrOf b).map (iW ks)):=by
   refine oG.mpr ?_;rw[BB];refine((oG.mp B.perm).map (iW ks)).trans (.of_eq ?_);refine oj λi=>?_;rw[cV,lK,zw];by_cases c:i<vs.length
   .rw[rc (),oV c];exact dN some (g i c)
   .rw[DN (),j4 (by simp;lia)];rfl
  have n: ∀i,i<vs.length->((arrOf b).map (iW ks)).getD i 0=iW ks ((arrOf b).getD i d0):=λi c=>by
   rw[qg,Array.getElem?_map,rc ()];rfl
  refine H ((arrOf b).map (iW ks)) b L (λx y M G=>?_) ?_ B.ok
  .rw[n x (),n y G];exact up x y (jj _) M G
  .apply Array.toList_inj.mp;rw[BB];show _=iF vs _
   unfold iF;rw[BB,i4];refine uq λx m=>?_;obtain⟨i,c,rfl⟩:=f x ((Cg B.perm).mp (Cm.mp m));show((ks.toArray.zip vs.toArray).getD i d0).2=vs.getD (iW ks ((ks.toArray.zip vs.toArray).getD i d0)) Value.none
   rw[g i c,o i c]
def JW{n:Nat}{R:PySem.Fin->Sh->Prop}(z:s.heap.get? a=some (seqObj "list" vs.toArray n))(few:vs.length<=4000)(nd:vs.Nodup)(inj: ∀i j,i<vs.length->j<vs.length->k i=k j->i=j)
  (ask: ∀r,(∀b o,b≠a->s.heap.get? b=some o->r.get? b=some o)->2<=vs.length->Cy P w A vs (λi j=>decide (k i<k j)) {s with heap:=r})
  (q: ∀p r c,Arr vs.length p->qu k p vs.length->r.get? a=some (seqObj "list" (iF vs p).toArray c)->(∀b o,b≠a->s.heap.get? b=some o->r.get? b=some o)->R (.done (.ret .none)) {s with heap:=r}):
  wpAny (model P w) A (Builtin.«list.sort» ⟨[.ref a],[]⟩) R E s:=by
 have la:a<s.heap.objs.size:=dq z
 let D:=s.heap.update a (Obj.mapSeq λ_=>(#[]:AV))
 obtain⟨B,u⟩: ∃B,D.get? a=some (seqObj "list" #[] B):=⟨_,zd z λ_=> #[]⟩
 let h:=(D.push (seqObj "tuple" vs.toArray 0)).push (seqObj "list" #[] 0)
 have O: ∀b o,b≠a->s.heap.get? b=some o->D.get? b=some o:=λb o t e=>(mC _ _ (fh t)).trans e;have M: ∀b o,b≠a->s.heap.get? b=some o->h.get? b=some o:=λb o t e=>zK (O b o t e) _ _;have l:h.get? a=some (seqObj "list" #[] B):=zK u _ _;rw[list_sort_plain];refine cB (listItems_at z zZ ?_);refine cB (vS z zZ ?_ (by rw[eM,dz];lia) (jj _));refine cB (BH u zZ ?_);refine cB (wpAny_newTuple ?_ (by show vs.length<=_;rw[dz];lia));refine cB (y7 ?_ (jj _));refine hG ?_;show wpAny (model P w) A _ R E {s with heap:=h};dsimp only;have fin: ∀(st:SortSt) (p:Array Nat),Arr vs.length p->qu k p vs.length->(arrOf st).map (·.2)=(iF vs p).toArray->failedOf st=none-> ∀G,G=h->
   wpAny (model P w) A (do
    let f:=(<-seqEpoch a) != B
    Builtin.List.listUpdate (.ref a) λ_=>(arrOf st).map (·.2)
    if let some e:=failedOf st then rule "list.sort.comparison-raised";throw e
    if f then rule "list.sort.modified";raiseError "ValueError" "list modified during sort"
    ret .none) R E {s with heap:=G}:=λst p C up g H G T=>by
  subst T;rw[g];have sz:(iF vs p).toArray.size=vs.length:=by
   rw[eM,cC,eO,C.size]
  obtain⟨I,J⟩: ∃I,(h.update a (Obj.mapSeq λ_=>(iF vs p).toArray)).get? a=some (seqObj "list" (iF vs p).toArray I):=⟨_,zd l λ_=>(iF vs p).toArray⟩;refine cB (BH l zZ ?_);refine cB (vS l zZ ?_ (jj _) (dL (pq sz) (by rw[dz];lia)));rw[H];simp only[bne_self_eq_false,Bool.false_eq_true,if_false];exact cH (q p _ I C up J λb o t e=>(mC _ _ (fh t)).trans (M b o t e))
 by_cases U:2<=vs.length
 .have v: ¬vs.toArray.size<2:=by rw[eM];lia
  rw[wA v,wA v];refine cB (iM (ask h M U) (λd s0 L=>?_) λ_ _ x=>x.elim);obtain⟨rfl,L⟩:=L;refine cB (iM (Fg (ks:=vs) (vs:=vs) (k:=k) (Q:=λm N=>N={s with heap:=h}/\ ∃p:Array Nat,Arr vs.length p/\qu k p vs.length/\(arrOf m).map (·.2)=(iF vs p).toArray/\failedOf m=none) rfl () nd inj L λp m Y a2 a3 a4=>⟨rfl,p,Y,a2,a3,a4⟩) ?_ λ_ _ x=>x);rintro⟨⟨⟩,st⟩ N ⟨rfl,p,C,up,g,H⟩;exact fin st p C up g H _ rfl
 .have v:vs.toArray.size<2:=by rw[eM];lia
  rw[wB v,wB v];refine cB (cH (cB (cH ?_)));refine fin _ (List.range vs.length).toArray (CK _) (λx y xy yn=>by lia) ?_ zZ _ rfl;rw[FZ];exact Hw rfl
end
def Oq{H:Hp}{e:As}{d:LN}(c:TupsAt H e d)(nd:d.Nodup):(e.map Value.ref).Nodup:=by
 refine pV.mpr λi j g k o z=>?_;rw[ui,ui]at z;rw[cC]at g k;have z:=Value.ref.inj z;have p:=c.len;have l:=c.is i e[i] (d[i]'()) (cE g) (cE _);have m:=c.is j e[j] (d[j]'()) (cE k) (cE _);rw[z,m]at l;have n:d[j]'()=d[i]'():=by
  have y:=gD l;injection y with y
  exact(List.map_inj_right (f:=nv) λa b h=>zb (V.int.inj h)).mp y
 have q:=(jx (i:=j) (j:=i) () nd).mp (by rw[cE (),cE (),n]);lia
def gS(g:cz->Int)(t u:cz):Bool:=uu (g t) t (g u) u
def oA(g:cz->Int)(f:LN):Total (gS g) f:=by
 refine⟨λx=>?_,λx y z b a=>?_,λx _ y _ h=>?_⟩
 .unfold gS uu;rw[wB zZ,pD]
 .unfold gS uu at b a⊢;by_cases d:g x=g y
  .rw[wB d]at b;by_cases c:g y=g z
   .rw[wB c]at a;rw[wB ()];exact zH _ _ _ b a
   .rw[wA c]at a;have:=ie a;rw[wA ()];exact eJ ()
  .rw[wA d]at b;have i:=ie b;by_cases c:g y=g z
   .rw[wA ()];exact eJ ()
   .rw[wA c]at a;have j:=ie a;rw[wA ()];exact eJ ()
 .unfold gS uu;by_cases e:g x=g y
  .rw[wB e,wB e.symm];exact CW x y h
  .rw[wA e,wA λz=>e z.symm]
   rcases Int.lt_or_gt_of_ne e with q|q
   .exact .inl (eJ q)
   .exact .inr (eJ q)
def wZ(H:Hp)(g:cz->Int)(b a:Ad)(t:cz):Prop:=H b=some (.tup [.int (g t),.ref a])/\H a=some (.tup (t.map nv))
structure KeysAt(H:Hp)(g:cz->Int)(κs as:As)(ts:LN):Prop where
 l1:κs.length=ts.length
 l2:as.length=ts.length
 is: ∀(i:Nat) κ a t,κs[i]? =some κ->as[i]? =some a->ts[i]? =some t->wZ H g κ a t
section
variable{X:Cx}{d:AO}{b:St}{H:Hp}{s:Sh}{g:cz->Int}
def B0{i a:Ad}{t:cz}(I:Inv X d b H s)(h:wZ H g i a t): ∃o j e n,s.heap.get? i=some o/\o.cls= .type "tuple"/\o.data= .seq #[.int (g t) j,.ref a] n/\Vals (t.map nv) e/\SeqObj "tuple" s.heap a e:=by
 obtain⟨_,e,r,o,m,p,c,q,_⟩:=(show ObjOk X.prog X.w H s.heap i (.tup [.int (g t),.ref a])from I.hok i _ h.1);obtain⟨k,l,rfl,⟨j,rfl⟩,u⟩: ∃k l,e=k::l/\RelV (.int (g t)) k/\Vals [.ref a] l:=by
  cases r with
  |cons x y=>exact⟨_,_,zZ,x,y⟩
 obtain⟨A,rfl,v⟩:=j3 u;cases v;obtain⟨f,w,z,_⟩:=I.tuple (Q4 (K:=X.K) h.2);exact⟨o,j,f,c,m,p,q,w,N7 z⟩
def Oh{A:Ar}{f a c h:Ad}{t u:cz}{Q:Bool->Sh->Prop}{E:VP}(U:A.units+8<cLine)(I:Inv X d b H s)(k:wZ H g f a t)(l:wZ H g c h u)(q:Q (gS g t u) s):
  wpAny (model X.prog X.w) A (keyLt' (tuples' true) (.ref f) (.ref c)) Q E s:=by
 obtain⟨Y,m,v,n1,w,x2,x,n,y⟩:=B0 I k;obtain⟨o2,o,B,n2,C,y2,D,p,G⟩:=B0 I l;refine kat_lt w x C D ?_;show KatLex _ _ _ _ _ _ [(Value.int (g t) m,Value.int (g u) o),(Value.ref a,Value.ref h)] 0 s;have z:=gu (A:=A) (s:=s) (i:=g t) (j:=g u) (t:=m) (u:=o);refine kat_cons ?_;unfold gS uu at q;by_cases e:g t=g u
 .rw[eJ e]at z;rw[wB e]at q;refine z _ _ _ _ (kat_yes (kat_cons ?_));obtain⟨J,L,M⟩:=yd I 1 (A:=A) () (iX (Q4 (K:=X.K) k.2)) (iX (Q4 (K:=X.K) l.2)) zZ rfl;refine L _ _ _ _ ?_;cases J with
  |true=>
   have N:=dC.mp (M.mp zZ);subst N;rw[pD]at q;refine kat_yes (kat_nil ?_);exact q
  |false=>
   refine kat_no (kat_one _ _ ?_);have O:t.length=v.length:=by simpa using n.length
   have T:u.length=B.length:=by simpa using p.length
   have r:=KY (A:=A) y G () (KZ n p);rw[<-O,<-T]at r;exact show wpAny _ _ (richCompare .Lt _ _) _ _ _ from r _ _ _ _ q
 .rw[fy e]at z;rw[wA e]at q;exact z _ _ _ _ (kat_no (FG _ q))
theorem FY{g:cz->Int}(I:Inv X d b H s): ∀{κs as:As} {ts:LN},KeysAt H g κs as ts-> ∃fs:Vs,KatTups s.heap (κs.map Value.ref) fs/\fs.length=κs.length/\ ∀f∈fs,∃i t,f= .int i t
 | [],as,ts,_=>⟨[],.nil,zZ,λ_ z=>nomatch z⟩
 |κ::κs,[],ts,h=>by have:=h.l1;have:=h.l2;simp at *;lia
 |κ::κs,a::as,[],h=>by have:=h.l1;simp at this
 | κ::κs,a::as,t::ts,h=>by
  obtain⟨fs,c,j,k⟩:=FY I (κs:=κs) (as:=as) (ts:=ts) ⟨by simpa using h.l1,by simpa using h.l2,λi κ a t l m p=>h.is (i+1) κ a t (by simpa using l) (by simpa using m) (by simpa using p)⟩;obtain⟨o,w,q,n,r,u,v,_⟩:=B0 I (h.is 0 κ a t zZ zZ zZ);exact⟨_::fs,.cons r u v zZ c,by simp[j],λf hf=>by
   rcases dZ.mp hf with e|hf
   .exact⟨_,_,e⟩
   .exact k f hf⟩
def Ka{A:Ar}{c p:As}{k:LN}(r:A.units+8<cLine)(I:Inv X d b H s)(D:1<=k.length)(h:KeysAt H g c p k):Cy X.prog X.w A (c.map Value.ref) (λi j=>gS g (k.getD i []) (k.getD j [])) s:=by
 obtain⟨fs,u,E,v⟩:=FY I h;have G:=h.l1;have J:=h.l2;refine kat_kind (T:= .type "int") u () (λf w=>?_) (by decide) ⟨zZ,λi j C m q x=>?_⟩
 .obtain⟨i,t,rfl⟩:=v f w;exact .now
 .rw[cC]at m q;have l: ∀{i:Nat},i<c.length-> ∃e a,(c.map Value.ref).getD i Value.none= .ref e/\wZ H g e a (k.getD i []):=λ{i} m=>by
   obtain⟨e,n⟩: ∃e,c[i]? =some e:=⟨_,cE m⟩;obtain⟨a,o⟩: ∃a,p[i]? =some a:=⟨_,cE ()⟩;refine⟨e,a,?_,h.is i e a _ n o (pI ()).1⟩;rw[eC,cV,n];rfl
  obtain⟨e,a,n,y⟩:=l m;obtain⟨z,L,o,B⟩:=l q;show wpAny (model X.prog X.w) A (keyLt' _ ((c.map Value.ref).getD i Value.none) ((c.map Value.ref).getD j Value.none)) C _ s;rw[n,o];exact Oh r I y B x
end
inductive il(g:cz->Int)(d:List V)(H:Hp)(Q:VK)(b:XK):Prop|mk:∀(a:Ad) (t:cz),d=[.ref a]->H a=some (.tup (t.map nv))->(∀e c,Same H c->c e=some (.tup [.int (g t),.ref a])->Q (.ref e) c)->il g d H Q b
section
variable{X:Cx}{d:AO}{j:St}{m:Nat}{f:Ad}{n:Fd}{l:Ss}{g:cz->Int}
def MY{c:Sp}{H:Hp}{s:Sh}{Q:VK}{us:Vs}{vs:List V}(F:FnOk X.prog X.w X.K X.mg X.base de m f n l c)(i:Room m X.A.in1.in1)(k:Binds X.K n l [])(I:Inv X d j H s)(r:Vals vs us)(h:c vs H Q E0):
  wpAny (model X.prog X.w) X.A.in1.in1 (call (.ref f) us) (EP X d j Q) (λ_ _=>False) s:=by
 have o:(us++[]).length=l.length:=by rw[iV,<-r.length];exact F.len _ _ _ _ h
 have b:=k s us I.kIn o;rw[iV]at b;refine wQ (oP (F.run X.A.in1.in1 X.stack s H ⟨us,[]⟩ us vs Q E0 i I.env0.in1.in1 b r h) λr q a=>?_);cases r with
 |error e=>exact a.elim
 |ok p=>
  cases p with
  |ret u=>exact I.after a
  |next=>exact wE a
  |brk=>exact wE a
  |cont=>exact wE a
def Inv.pin2{H:Hp}{s:Sh}{b c:Ad}{o u:Obj}(I:Inv X d j H s)(a:FpOk X d H b)(e:FpOk X d H c)(h:s.heap.get? b=some o)(i:s.heap.get? c=some u)(k: ∀v,o.data≠ .cell v)(q: ∀v,u.data≠ .cell v):Inv X ((b,o)::(c,u)::d) j H s:=
 I.pins_of λp hp=>by
  rcases dZ.mp hp with rfl|hp
  .exact⟨h,a.1,a.2.1,a.2.2.1,k⟩
  .rcases dZ.mp hp with rfl|hp
   .exact⟨i,e.1,e.2.1,e.2.2.1,q⟩
   .exact I.pin p (fg _ hp)
def Inv.unpin2{H:Hp}{s:Sh}{b c:Ad}{o u:Obj}(I:Inv X ((b,o)::(c,u)::d) j H s):Inv X d j H s:=
 I.pins_of λp a=>I.pin p (fg _ (fR _ (fR _ a)))
def FpOk.to{H a:Hp}{b:Ad}(h:FpOk X d H b)(e:a b=none):FpOk X d a b:=⟨e,h.2⟩
theorem HB{E:VP}{y D:Ad}{J:Nat}{A:Vl->PUnit->Sem (ForInStep PUnit)}{Q:Sh->Prop}(F:FnOk X.prog X.w X.K X.mg X.base de m f n l (il g))(hr:Room m X.A.in1.in1)(hb:Binds X.K n l [])(ne:y≠D)
  (B: ∀x (s:Sh) (C:VP) (Qy:Sh->Prop),wpAny (model X.prog X.w) X.A.in1.in1 (call (.ref f) [x]) C (λ_ _=>False) s->
   (∀k s',C k s'-> ∃aa c,s'.heap.get? y=some (seqObj "list" aa c)/\aa.size<64/\Qy {s' with heap:=s'.heap.update y (Obj.mapSeq (·.push k))})->wpAny (model X.prog X.w) X.A.in1.in1 (A x ⟨⟩) (λr s'=>r= .yield ⟨⟩/\Qy s') E s):
  ∀(r:As) (rt:LN) (H:Hp) (h:As) (c:Nat) (s:Sh),Inv X d j H s->TupsAt H r rt->s.heap.get? y=some (seqObj "list" (h.map Value.ref).toArray c)->s.heap.get? D=some (seqObj "list" #[] J)->FpOk X d H y->FpOk X d H D->h.length+r.length<64->
   (∀L G c2 s2,Inv X d j L s2->Same H L->KeysAt L g G r rt->s2.heap.get? y=some (seqObj "list" ((h++G).map Value.ref).toArray c2)->s2.heap.get? D=some (seqObj "list" #[] J)->FpOk X d L y->FpOk X d L D->Q s2)->
   wpAny (model X.prog X.w) X.A.in1.in1 (forIn (r.map Value.ref) PUnit.unit A) (λ_ s'=>Q s') E s
 | [],[],H,h,c,s,I,T,eS,eD,M,f2,_,q=>by
  rw[Bp,List.forIn_nil];exact cH (q H [] c s I (Same.refl _) ⟨zZ,zZ,λi p a t e=>by simp at e⟩ (by rw[List.append_nil];exact eS) eD M f2)
 | [],_::_,H,h,c,s,I,T,eS,eD,M,f2,_,q=>by have:=T.len;simp at this
 |_::_,[],H,h,c,s,I,T,eS,eD,M,f2,_,q=>by have:=T.len;simp at this
 | a::r,t::rt,H,h,c,s,I,T,eS,eD,M,f2,ae,q=>by
  rw[nt]at ae;rw[iG,List.forIn_cons];have ha:H a=some (.tup (t.map nv)):=T.is 0 a t zZ rfl;have I1:=I.pin2 M f2 eS eD (λ_ z=>nomatch z) (λ_ z=>nomatch z);have go:=MY (Q:=λv w=> ∃p,v= .ref p/\Same H w/\w p=some (.tup [.int (g t),.ref a])) F hr hb I1 (us:=[.ref a]) (vs:=[.ref a]) (.cons zZ .nil) ⟨a,t,zZ,ha,λp w N e=>⟨p,zZ,N,e⟩⟩;refine cB (iM (B _ s _ (λs'=> ∃p w O,Inv X d j w s'/\Same H w/\w p=some (.tup [.int (g t),.ref a])/\s'.heap.get? y=some (seqObj "list" ((h++[p]).map Value.ref).toArray O)/\s'.heap.get? D=some (seqObj "list" #[] J)/\FpOk X d w y/\FpOk X d w D) go λk s' hk=>?_) (λx s' hx=>?_) λ_ _ z=>z)
  .obtain⟨v,w,I',rv,p,rfl,N,U⟩:=hk;cases rv;obtain⟨p1,p2,p3,p4,_⟩:=I'.pin (y,_) (fg _ (dY ..));obtain⟨d1,d2,d3,d4,_⟩:=I'.pin (D,_) (fg _ (fR _ (dY ..)));obtain⟨O,af⟩: ∃O,(s'.heap.update y (Obj.mapSeq (·.push (Value.ref p)))).get? y=some (seqObj "list" ((h++[p]).map Value.ref).toArray O):=by
    have ea:(List.map Value.ref h).toArray.push (.ref p)=((h++[p]).map Value.ref).toArray:=by simp
    rw[<-ea];exact⟨_,zd p1 (·.push (Value.ref p))⟩
   refine⟨_,_,p1,by rw[eM,cC];lia,p,w,O,?_,N,U,af,?_,M.to p2,f2.to d2⟩
   .obtain⟨_,w1,w2,w3,w4,w5⟩:=M;exact I'.unpin2.turned (t':=s'.toks) (λb o nb e=>(mC _ _ (fh nb)).trans e) p2 w1 w3 w4 w5
   .exact(mC _ _ ne).trans d1
  .obtain⟨rfl,p,w,O,I',N,U,ag,ah,g1,g2⟩:=hx;show wpAny _ _ (forIn (r.map Value.ref) PUnit.unit A) _ E s';refine HB F hr hb ne B r rt w (h++[p]) O s' I' ⟨by simpa using T.len,λi b u J e2=>N _ _ (T.is (i+1) b u (by simpa using J) (by simpa using e2))⟩ ag ah g1 g2 (by rw[List.length_append];show h.length+1+r.length<64;lia) λL G c2 s2 I2 Y K2 ab ai h1 h2=>?_;refine q L (p::G) c2 s2 I2 (N.trans Y) ⟨by simp[K2.l1],by simp[K2.l2],λi aj b u J e2 e3=>?_⟩ (by rw[List.append_assoc]at ab;exact ab) ai h1 h2;cases i with
   |zero=>
    cases J;cases e2;cases e3;exact⟨Y _ _ U,(N.trans Y) _ _ ha⟩
   |succ i=>exact K2.is i aj b u (by simpa using J) (by simpa using e2) (by simpa using e3)
end
section
variable{X:Cx}{t:AO}{u:St}{H:Hp}{s:Sh}{v:Nat}{f D:Ad}{w:Fd}{B:Ss}{g:cz->Int}{r:As}{m:LN}{E:VP}
def M7{R:PySem.Fin->Sh->Prop}{n:Nat}(F:FnOk X.prog X.w X.K X.mg X.base de v f w B (il g))(hr:Room v X.A.in1.in1)(hb:Binds X.K w B [])(hu:X.A.units+64<cLine)(I:Inv X t u H s)(T:TupsAt H r m)(nd:m.Nodup)(am:m.length<64)
  (ho:s.heap.get? D=some (seqObj "list" (r.map Value.ref).toArray n)) (fD:FpOk X t H D)
  (q: ∀U p s2 c,Inv X t u U s2->Same H U->Arr m.length p->qu (λi=>lR (gS g) m (m.getD i [])) p m.length->s2.heap.get? D=some (seqObj "list" (iF (r.map Value.ref) p).toArray c)->FpOk X t U D->R (.done (.ret .none)) s2):
  wpAny (model X.prog X.w) X.A.in1.in1 (ksk_tree D (.ref f) false) R E s:=by
 have la:=T.len;have Y:(r.map Value.ref).length=m.length:=by rw[cC,la]
 have lD:D<s.heap.objs.size:=dq ho;obtain⟨d0,d1,d2,d3,d4,d5⟩:=fD
 let h1:=s.heap.update D (Obj.mapSeq λ_=>(#[]:AV))
 obtain⟨L,aa⟩: ∃L,h1.get? D=some (seqObj "list" #[] L):=⟨_,zd ho λ_=> #[]⟩;have I1:Inv X t u H {s with heap:=h1}:=I.turned (t':=s.toks) (λb o nb e=>(mC _ _ (fh nb)).trans e) d0 d1 d3 d4 d5
 let G:=h1.push (seqObj "tuple" (r.map Value.ref).toArray 0)
 have I3:Inv X t u H {s with heap:=G.push (seqObj "list" #[] 0)}:=I1.kept (t':=s.toks) λb o e=>zK e _ _;have ag:(G.push (seqObj "list" #[] 0)).get? D=some (seqObj "list" #[] L):=zK aa _ _;have ah:(G.push (seqObj "list" #[] 0)).get? G.objs.size=some (seqObj "list" ((([]:As)).map Value.ref).toArray 0):=fj _ rfl;have lk:s.heap.objs.size<=G.objs.size:=by
  show _<=(h1.push _).objs.size;rw[size_push'];show _<=(s.heap.update D _).objs.size+1;rw[Heap.size_update];exact oK _
 have fk:FpOk X t H G.objs.size:=I.fpOk lk (I.hok.fresh lk);have ne:G.objs.size≠D:=m9 (gh lD lk);unfold ksk_tree;refine cB (listItems_at ho zZ ?_);refine cB (vS ho zZ ?_ (by rw[eM,dz];lia) (jj _));refine cB (BH aa zZ ?_);refine cB (wpAny_newTuple ?_ (by show(r.map Value.ref).length<=_;rw[dz];lia));refine cB (y7 ?_ (jj _));refine hG ?_;show wpAny (model X.prog X.w) X.A.in1.in1 (ksk_rest D (.ref f) false (r.map Value.ref).toArray L (.ref G.objs.size)) R E {s with heap:=G.push (seqObj "list" #[] 0)};unfold ksk_rest;refine cB (nV ?_);rw[List.forIn_toArray];refine cB (HB F hr hb ne (λx s0 C Qy hx hC=>?_) r m H [] 0 _ I3 T ah ag fk ⟨d0,d1,d2,d3,d4,d5⟩ (by simp;lia) λU J c2 s2 I2 gg K2 eS eD f1 f2=>?_)
 .refine cB (qw (iM hx (λk s' hk=>?_) λ_ _ z=>z.elim));obtain⟨ai,c,e,l,qy⟩:=hC k s' hk;refine cB (vS e zZ ?_ (by rw[dz];lia) (by show(ai.push k).size<=_;rw[pM,dz];lia));exact cH ⟨zZ,qy⟩
 rw[zu]at eS;have ab:(J.map Value.ref).length=(r.map Value.ref).length:=by rw[cC,Y,K2.l1]
 refine cB (listItems_at eS zZ ?_);have fin: ∀(st:SortSt) (p:Array Nat),Arr m.length p->qu (λi=>lR (gS g) m (m.getD i [])) p m.length->(arrOf st).map (·.2)=(iF (r.map Value.ref) p).toArray->failedOf st=none->
   wpAny (model X.prog X.w) X.A.in1.in1 (ksk_tail D false L (.ref G.objs.size) st) R E s2:=λst p ar up M hf=>by
  have sz:(iF (r.map Value.ref) p).toArray.size=m.length:=by
   rw[eM,cC,eO,ar.size]
  unfold ksk_tail
  try dsimp only
  rw[M];have I4:Inv X t u U {s2 with heap:=s2.heap.update G.objs.size (Obj.mapSeq λ_=>(#[]:AV))}:=by
   obtain⟨w0,w1,w2,w3,w4,w5⟩:=f1;exact I2.turned (t':=s2.toks) (λb o nb e=>(mC _ _ (fh nb)).trans e) w0 w1 w3 w4 w5
  have N:(s2.heap.update G.objs.size (Obj.mapSeq λ_=>(#[]:AV))).get? D=some (seqObj "list" #[] L):=(mC _ _ ne).trans eD;obtain⟨c5,aj⟩: ∃c5,((s2.heap.update G.objs.size (Obj.mapSeq λ_=>(#[]:AV))).update D (Obj.mapSeq λ_=>(iF (r.map Value.ref) p).toArray)).get? D=some (seqObj "list" (iF (r.map Value.ref) p).toArray c5):=⟨_,zd N λ_=>(iF (r.map Value.ref) p).toArray⟩;refine cB (vS eS zZ ?_ (by rw[eM,dz];lia) (jj _));refine cB (wpAny_letGo ?_);refine cB (BH N zZ ?_);refine cB (vS N zZ ?_ (jj _) (by show(iF (r.map Value.ref) p).toArray.size<=_;rw[sz,dz];lia));rw[hf];simp only[bne_self_eq_false,Bool.false_eq_true,if_false];refine cH (q U p _ c5 ?_ gg ar up aj f2);obtain⟨w0,w1,w2,w3,w4,w5⟩:=f2;exact I4.turned (t':=s2.toks) (λb o nb e=>(mC _ _ (fh nb)).trans e) w0 w1 w3 w4 w5
 unfold ksk_end;simp only[Bool.false_eq_true,if_false];by_cases an:2<=m.length
 .have n2: ¬(r.map Value.ref).toArray.size<2:=by rw[eM];lia
  rw[wA n2,wA n2];have To:=oA g m;have inj:=Ir (d:=([]:cz)) To nd;refine cB (iM (Ka (A:=X.A.in1.in1) (by show X.A.units+1+1+8<cLine;lia) I2 () K2) (λκ s0 hk=>?_) λ_ _ x=>x.elim);obtain⟨rfl,hk⟩:=hk;have al:J.length=m.length:=K2.l1;have ae:(J.map Value.ref).Nodup:=by
   refine pV.mpr λi j hi hj ij z=>?_;rw[ui,ui]at z;rw[cC]at hi hj;have z:=Value.ref.inj z;have L:=K2.is i J[i] (r[i]'()) (m[i]'()) (cE hi) (cE _) (cE _);have e2:=K2.is j J[j] (r[j]'()) (m[j]'()) (cE hj) (cE _) (cE _);obtain⟨L,ak⟩:=L;obtain⟨e2,af⟩:=e2;rw[z,e2]at L;have ea:r[j]'()=r[i]'():=by
    have y:=gD L;injection y with y
    injection y with _ y
    injection y with y
    exact V.ref.inj y
   rw[ea]at af;have et:m[j]'()=m[i]'():=by
    have y:=gD (af.symm.trans ak);injection y with y
    exact(List.map_inj_right (f:=nv) λa b h=>zb (V.int.inj h)).mp y
   have e4:=(jx (i:=j) (j:=i) () nd).mp (by rw[cE (),cE (),et]);lia
  refine cB (iM (Fg (ks:=J.map Value.ref) (vs:=r.map Value.ref) (k:=λi=>lR (gS g) m (m.getD i [])) (Q:=λO s'=>s'=s0/\ ∃p:Array Nat,Arr m.length p/\qu (λi=>lR (gS g) m (m.getD i [])) p m.length/\(arrOf O).map (·.2)=(iF (r.map Value.ref) p).toArray/\failedOf O=none) ab () ae (by rw[Y];exact inj) (λi j C li lj hC=>hk i j C () () (by
   have e:=To.asks (pI (d:=([]:cz)) (show i<m.length by lia)).2 (pI (d:=([]:cz)) (show j<m.length by lia)).2;show C (gS g (m.getD i []) (m.getD j [])) _
   rw[<-e];exact hC)) λp O a1 a2 a3 a4=>⟨zZ,p,by rw[<-Y];exact a1,by rw[<-Y];exact a2,a3,a4⟩) ?_ λ_ _ x=>x)
  rintro⟨⟨⟩,st⟩ s' ⟨rfl,p,ar,up,M,hf⟩;exact fin st p ar up M hf
 .have n2:(r.map Value.ref).toArray.size<2:=by rw[eM];lia
  rw[wB n2,wB n2];refine cB (cH (cB (cH ?_)));refine fin _ (List.range m.length).toArray (CK _) (λx y xy yn=>by lia) ?_ rfl;rw[<-Y,FZ];exact Hw ab
end
section
variable{X:Cx}{j:AO}{m:St}{H:Hp}{s:Sh}{d:Ad}{c:List (List dB×V)}{g:LN}
def HM(I:Inv X j m H s)(h:H d=some (.dT c))(e:c.map (·.1)=g.map nk): ∃M n D,Lies s.heap d n D/\(d==sysModules)=false/\TupsAt H M g/\(∀(i:Nat) (E:DictEntry),n[i]? =some E-> ∃a,M[i]? =some a/\E.key= .ref a)/\n.size=g.length/\g.Nodup/\g.length<=sizeLine:=by
 obtain⟨z,U,w,l,o,n,D,Y,e2,e3,N,nd⟩:=(show ObjOk X.prog X.w H s.heap d (.dT c)from I.hok d _ h);have l1:c.length=w.length:=pB l;have l2:c.length=g.length:=by rw[<-cC (f:=(·.1)) (as:=c),e,cC]
 have le:n.size=w.length:=A0 N;have G: ∀(i:Nat) (t:cz),g[i]? =some t-> ∃k v y u,c[i]? =some (k,v)/\w[i]? =some (k,y,u)/\k=nk t/\H y=some (.tup (t.map nv)):=λi t B=>by
  have li:=(cP.mp B).1;obtain⟨⟨k,v⟩,r⟩: ∃p,c[i]? =some p:=⟨_,cE ()⟩;obtain⟨⟨k',y,u⟩,x,J,p2,p3⟩:=zD l r;have O:k=nk t:=by
   have C:(c.map (·.1))[i]? =some k:=by rw[cV,r];rfl
   rw[e,cV,B]at C;exact(gD C).symm
  have L:k=k':=J;subst L;refine⟨k,v,y,u,r,x,O,?_⟩;have A:H y=some (.tup (k.map kV)):=p2;rw[O,j9]at A;exact A
 refine⟨w.map (·.2.1),n,D,⟨o,Y,e2,e3⟩,U,⟨by rw[cC];lia,λi b t Q B=>?_⟩,λi E T=>?_,(),?_,()⟩
 .obtain⟨k,v,y,u,_,x,_,hy⟩:=G i t B;rw[cV,x]at Q;cases Q;exact hy
 .rw[entry_at N]at T;obtain⟨q,eq,rfl⟩:=eU.mp T;exact⟨q.2.1,by rw[cV,eq];rfl,zZ⟩
 .have C:(w.map (·.1))=g.map nk:=by
   rw[<-e];refine oj λi=>?_;rw[cV,cV];cases r:c[i]? with
   |none=>rw[j4 (by rw[<-l1];exact List.getElem?_eq_none_iff.mp r)];rfl
   |some p=>
    obtain⟨q,x,J,_⟩:=zD l r;rw[x];exact dN some J.symm
  rw[C]at nd;exact(wG.mp nd).imp λh z=>h (dN nk z)
def F7{k:As}{f:Array DictEntry}{b:AV}(is: ∀(i:Nat) (e:DictEntry),f[i]? =some e-> ∃a,k[i]? =some a/\e.key= .ref a)(t:k.length=f.size)(l:ItemsOf (λi v=> ∃e,f[i]? =some e/\v=e.key) b f.size):b.toList=k.map Value.ref:=by
 refine oj λi=>?_;by_cases h:i<f.size
 .obtain⟨v,n⟩: ∃v,b[i]? =some v:=⟨_,mJ (by rw[l.1];exact h)⟩;obtain⟨e,o,p⟩:=l.2 i v n;obtain⟨a,q,r⟩:=is i e o;rw[lK,n,cV,q,p,r];rfl
 .rw[j4 (by rw[eO,l.1];lia),j4 (by rw[cC];lia)]
theorem DW: ∀l:As,Vals (l.map V.ref) (l.map Value.ref)
 | []=> .nil
 |x::l=> .cons zZ (DW l)
end
section
variable{X:Cx}
inductive i'(g:cz->Int)(f:List V)(H:Hp)(Q:VK):Prop|mk:∀d a c,f=[V.ref d]->H d=some (.dT a)->a.map (·.1)=c.map nk->c.length<64->(∀D bs e b,Same H b->H D=none->b D=some (.lst (bs.map V.ref))->TupsAt b bs e->e.Perm c->e.Pairwise (λx y=>gS g x y=true)->Q (.ref D) b)->i' g f H Q
def Iv{a:As}{p:Array Nat}(b:Arr a.length p):iF (a.map Value.ref) p=(p.toList.map λi=>a.getD i 0).map Value.ref:=by
 unfold iF;rw[i4];refine uq λi c=>?_;have d:i<a.length:=by
  have m:=(oG.mp b).mem_iff.mp c;simpa using m
 show(a.map Value.ref).getD i Value.none=Value.ref (a.getD i 0);rw[eC,eC,cV,cE d];rfl
def JR{x:Nat}{f:Ad}{y:Fd}{B:Ss}{g:cz->Int}{k:AO}{n:St}{H:Hp}{s:Sh}{Q:VK}{d:Ad}(N:X.calm=true)(O:X.A.units+64<cLine)(F:FnOk X.prog X.w X.K X.mg X.base de x f y B (il g))(U:Room x X.A.in1.in1)(Y:Binds X.K y B [])(I:Inv X k n H s)
  (h:i' g [.ref d] H Q):wpAny (model X.prog X.w) X.A (call (.builtin "sorted") [.ref d] [(Str.ofString "key",.ref f)]) (EP X k n Q) X.xe s:=by
 obtain⟨d',aa,ts,e0,hd,e,u,q⟩:=h;cases e0;obtain⟨a,es,ep,L,nm,T,is,le,nd,v⟩:=HM I hd e;refine call_function_entry_kw kind_sorted plain_sorted entry_sorted (ksk_s1 _ _) ?_;unfold Builtin.«sorted»;refine cB (m:=checkCount "sorted" 1 1 _) (cH ?_);refine cB (kdu_collect (A:=X.A.in1) (yw nm) (by simpa using I.ok.hd N) L () λj r ab keep it=>?_);have ea:=F7 is (by rw[T.len,le]) it;rw[ea];have t:Inv X k n H {s with heap:=j,toks:=r}:=I.kept keep;refine cB (y7 ?_ (by rw[cC,T.len,dz];lia));have C:(j.push (seqObj "list" (a.map Value.ref).toArray 0)).get? j.objs.size=some (seqObj "list" (a.map Value.ref).toArray 0):=fj _ rfl;have I2:Inv X k n H {s with heap:=j.push (seqObj "list" (a.map Value.ref).toArray 0),toks:=r}:=t.kept (t':=r) λb o z=>dM _ z;have D:H j.objs.size=none:=t.hok.fresh (cO _);have fD:FpOk X k H j.objs.size:=t.fpOk (cO _) D;refine cB (hG (wpAny_call_entry_kw slot_list_sort ⟨_,C,zZ⟩ C9 (M7 (s:={s with heap:=j.push (seqObj "list" (a.map Value.ref).toArray 0),toks:=r}) F U Y O I2 T nd u C fD λH2 p s2 c Iz E l up G f2=>⟨_,rfl,?_⟩) (ksk_l1 _ _)));have w:Arr a.length p:=by rw[T.len];exact l
 rw[Iv w]at G;have T2:=(T.same E).pick l;obtain⟨J,w1,w2,w3,w4,w5⟩:=f2;have few:((p.toList.map λi=>a.getD i 0).map V.ref).length<=sizeLine:=by
  rw[cC,cC,eO,l.size];exact v
 have I5:=Iz.track (o:= .lst ((p.toList.map λi=>a.getD i 0).map V.ref)) J ⟨few,_,c,DW _,G⟩ (dL t.sz (cO _)) w1 w4 w5;have M:=cM J (.lst ((p.toList.map λi=>a.getD i 0).map V.ref));exact cH ⟨_,zZ,.ref j.objs.size,_,I5,zZ,q _ _ _ _ (E.trans M) D cF (T2.same M) (F3 l) (Fx (oA g ts) l up)⟩
def Oj(g:cz->Int)(a:TE):TE:=λb H Q=>a b H λx c=> ∃d,x= .ref d/\i' g [.ref d] c Q
def M9{m:Nat}{t:Ss}{g:cz->Int}{a:Str}{e:Expr}{b:TE}{p v w pos:Pos}(y:X.calm=true)(z:X.A.units+64<cLine)(A:dE X.prog X.w X.K X.mg X.base a m t (il g))(B:Room (m+2) X.A)(C:Gl X "sorted")(D:X.mg "sorted"=none)(c:Gl X a)(E:PE X e b)
  (i:(a==("__debug__":Str))=false:=by decide) (j:starEach [e] X.env=[(false,eval e X.env)]:=by rfl):PE X (.Call (.Name "sorted" p) [e] [⟨some "key",.Name a v,w⟩] pos) (Oj g b):=by
 intro G s J H Q I h;obtain⟨f,O,F,k,T,L⟩:=A;refine ut (ue I C D Ag ?_);refine callWith_kw ?_ (by rw[j];rfl) (by rw[j];rfl);have M:PA X [e] (mN b lZ):=cN E cJ j;refine cT (M pos G s J H (λl n=>match l with| [x]=> ∃d,x= .ref d/\i' g [.ref d] n Q|_=>False) I h) λU Y ⟨l,n,o,r,q⟩=>?_
 match l,r,q with
 | [x],r,q=>
  obtain⟨d,rfl,q⟩:=q;obtain⟨u,rfl,N⟩:=j3 r;cases N;refine kws_cons (zV o c k (kws_nil ?_) i);exact JR y z F B.in1.in1 L o q
end
end L2
namespace L2
open PySem PySem.Spec PyProof.Rows
section
variable{X:Cx}{j:AO}{l:St}{H:Hp}{s:Sh}{d:Ad}{c:List (List dB×V)}{g:LN}{o:Obj}
def Inv.freeze(I:Inv X j l H s)(h:H d=some (.dT c))(e:s.heap.get? d=some o):Inv X j l (cA H d (.frz o (.dT c))) s:=by
 obtain⟨z,b,f,a,i,k,m,n,t,u,v,nd⟩:=(show ObjOk X.prog X.w H s.heap d (.dT c)from I.hok d _ h);refine I.write (x:=d) (e:=d) (h':=s.heap) (t':=s.toks) (by rw[h];exact True.intro) (.inl rfl) (λ_ _ _ q=>q) ⟨o,e⟩ ⟨e,z,b,f,Paired.mapP a λp q r=>⟨r.1,?_,r.2.2⟩,i,k,m,n,t,u,v,nd⟩;rw[cK (nE r.2.1 h)];exact r.2.1
def DQ(I:Inv X j l H s)(h:H d=some (.frz o (.dT c)))(e:c.map (·.1)=g.map nk): ∃B m w,s.heap.get? d=some o/\o.ExactDict/\o.data= .dict m w/\(d==sysModules)=false/\TupsAt H B g/\(∀(i:Nat) (x:DictEntry),m[i]? =some x-> ∃a,B[i]? =some a/\x.key= .ref a)/\m.size=g.length:=by
 obtain⟨C,z,O,A,n,o',m,w,D,Q,T,E,nd⟩:=(show ObjOk X.prog X.w H s.heap d (.frz o (.dT c))from I.hok d _ h);rw[C]at D;cases D;have l1:c.length=A.length:=pB n;have l2:c.length=g.length:=by rw[<-cC (f:=(·.1)) (as:=c),e,cC]
 have le:m.size=A.length:=A0 E;refine⟨A.map (·.2.1),m,w,C,Q,T,O,⟨by rw[cC];lia,λi b t G J=>?_⟩,λi x L=>?_,()⟩
 .have li:=(cP.mp J).1;obtain⟨⟨k,v⟩,M⟩: ∃p,c[i]? =some p:=⟨_,cE ()⟩;obtain⟨⟨k',y,u⟩,U,p1,Y,p3⟩:=zD n M;have kk:k=nk t:=by
   have N:(c.map (·.1))[i]? =some k:=by rw[cV,M];rfl
   rw[e,cV,J]at N;exact(gD N).symm
  rw[cV,U]at G;cases G;have r:H y=some (.tup (k.map kV)):=Y;rw[kk,j9]at r;exact r
 .rw[entry_at E]at L;obtain⟨q,eq,rfl⟩:=eU.mp L;exact⟨q.2.1,by rw[cV,eq];rfl,zZ⟩
end
def sv(d:Ad)(o:Obj):It:=
  ⟨λi H=> ∃(b:List (List dB×V)) (c:LN) (t:cz),H d=some (.frz o (.dT b))/\b.map (·.1)=c.map nk/\c[i]? =some t,
   λi H x e=>e=H/\ ∃a,x= .ref a/\ ∀(b:List (List dB×V)) (c:LN),H d=some (.frz o (.dT b))->b.map (·.1)=c.map nk-> ∃t:cz,c[i]? =some t/\H a=some (.tup (t.map nv)),
   λi H=> ∃b,∃c:LN,H d=some (.frz o (.dT b))/\b.map (·.1)=c.map nk/\c.length<=i⟩
def Jk{c d:LN}(h:c.map nk=d.map nk):c=d:=tA (λa b e=>Bo e) h
def Mf{P:Pg}{w:World}{K:Q5}{tg:Expr}{d c:Ad}{o:Obj}{y:Array DictEntry}{ep:Nat}(ne:d≠c)(l:o.data= .dict y ep)(ox:o.ExactDict):Turn P w K tg (sv d o) [c] c (λi h=>h.get? c=some (rz d i y.size ep)) where
 mem:=by simp
 obj:=λi h st b f=>by
  have e:b=c:=by simpa using f
  subst e;exact⟨_,st,λv z=>by
   have z':Data.fields _=Data.cell v:=z;cases z'⟩
 keep:=λi h m st k=>k c (by simp) _ st
 item:=by
  intro X A hw B hc i za s σ H E I p st C;subst A hw B;obtain⟨D,ts,t,r,u,x⟩:=C;obtain⟨as,G,J,L,e2,g,nm,T,is,le⟩:=DQ I r u;rw[l]at g;cases g;obtain⟨M,N,f2,O,U,Y⟩:=p c (by simp);have li:=(cP.mp x).1;obtain⟨en,ee⟩: ∃en,y[i]? =some en:=⟨_,mJ ()⟩;obtain⟨a,ea,ek⟩:=is i en ee;refine GJ st ⟨o,L,ox,l⟩ ee λm j sb=>?_;have I1:Inv X za σ H {s with heap:=m}:=I.turned (t':=s.toks) (λb o f e=>(sb.2 b f).trans e) M N O U Y;refine⟨_,zZ,AM (s:={s with heap:=m}) (n:="dict_keyiterator") j rfl rfl (by decide) ⟨.ref a,H,I1,ek,⟨rfl,a,rfl,λaa ab g1 g2=>?_⟩,j,λb f=>(p b f).1⟩⟩;rw[r]at g1;cases g1;have tt:=Jk (u.symm.trans g2);subst tt;exact⟨t,x,T.is i a t ea x⟩
 done:=by
  intro X A hw B hc i za s σ H E I p st C;subst A hw B;obtain⟨D,ts,r,u,x⟩:=C;obtain⟨as,G,J,L,e2,g,nm,T,is,le⟩:=DQ I r u;rw[l]at g;cases g;obtain⟨M,N,f2,O,U,Y⟩:=p c (by simp);exact GP (I.ok.hd hc) st ⟨o,L,ox,l⟩ (DN ()) λm eb=>⟨zZ,I.turned (t':=s.toks) (λb o f e=>eb b o f e) M N O U Y⟩
 self:=λ_ i s Q E st q=>by
  have ty:s.TypeIs (.ref c) "dict_keyiterator":=⟨_,st,zZ⟩;refine wx ty zG (kv zG ty HE ?_ (GO _));exact show wpAny _ _ (ret (.ref c)) _ _ s from cH ⟨_,zZ,"dict_keyiterator",_,ty,u5.lookup,q⟩
section
variable{X:Cx}{a:Expr}
def LP(H:Hp)(d:Ad)(o:Obj)(b:List (List dB×V))(c:Hp):Prop:=(H d=some (.frz o (.dT b))/\c=H)∨(H d=some (.dT b)/\c=cA H d (.frz o (.dT b)))
def yU(f:TE):TI:=λg H R=>f g H λx c=> ∃d b,∃h:LN,x= .ref d/\b.map (·.1)=h.map nk/\(c d=some (.dT b)∨ ∃o,c d=some (.frz o (.dT b)))/\ ∀o e,LP c d o b e->R (sv d o) e
def Ik{l:Expr}{tl:TE}(z:PE X l tl):PI X a l (yU tl):=by
 intro m s n H R I h;refine cT (z m s n H _ I h) λv f ⟨x,t,p,A,B⟩=>?_;obtain⟨d,g,G,e,C,w,q⟩:=B;subst e;cases A;have go: ∀(i:Hp) (o:Obj),Inv X m n i f->i d=some (.frz o (.dT g))->R (sv d o) i->wpAny (model X.prog X.w) X.A (pyIter (.ref d)) (DL X m n a R) X.xe f:=λi o j c r=>by
  obtain⟨J,L,M,k,u,y,D,T,is,N⟩:=DQ j c C;refine HP D ⟨o,k,u,y⟩ ?_;refine⟨f.heap.objs.size,[f.heap.objs.size],_,_,i,zZ,j.kept (t':=f.toks) λb o e=>dM _ e,Mf (d9 (dq k)) y u,fj _ zZ,λb E=>?_,r⟩;have e:b=f.heap.objs.size:=by simpa using E
  subst e;exact j.fpOk (cO _) (j.hok.fresh (cO _))
 rcases w with c|⟨o,c⟩
 .obtain⟨_,_,_,_,o,_,_,k,_⟩:=(show ObjOk X.prog X.w t f.heap d (.dT g)from p.hok d _ c);exact go _ o (p.freeze c k) cF (q o _ (.inr ⟨c,zZ⟩))
 .exact go t o p c (q o _ (.inl ⟨c,zZ⟩))
end
section
variable{d:Ad}{o:Obj}{f:List (List dB×V)}{c:LN}{j:Ss}{g:TG}{k:TT}{l:TE}{h:St}{H:Hp}{Fin:List V->Hp->Prop}
def Mm(u:f.map (·.1)=c.map nk)(Pv:Nat->List V->Hp->Prop)(N:c.length<=sizeLine)(x:Pv 0 [] H)(z: ∀i n H,i<=c.length->Pv i n H->H d=some (.frz o (.dT f))/\n.length<=i)
  (A: ∀i a t n H,c[i]? =some t->H a=some (.tup (t.map nv))->Pv i n H->g (.ref a) (iJ j h) H λr B=>rm (iJ j h) r/\k r B λb w=>if b=true then l r w λy C=>Pv (i+1) (n++[y]) C else Pv (i+1) n w)
  (D: ∀n H,Pv c.length n H->Fin n H):nQ j g k l h (sv d o) H Fin:=by
 refine⟨λi m n H=>m=c.length-i/\i<=c.length/\Pv i n H,⟨c.length,by simp,Nat.zero_le _,x⟩,?_⟩;rintro i m n H ⟨rfl,E,p⟩;obtain⟨q,O⟩:=z i n H E p;by_cases s:i<c.length
 .refine .inr ⟨⟨f,c,c[i],q,u,by simp[s]⟩,(),Pv (i+1),λQ G I=>⟨c.length-(i+1),Nat.sub_succ_lt_self _ _ s,zZ,s,I⟩,λv G y=>?_⟩;obtain⟨e,a,J,y⟩:=y;subst e J;obtain⟨t,L,M⟩:=y f c q u;exact A i a t n _ L M p
 .have e:i=c.length:=by lia
  subst e;exact .inl ⟨⟨f,c,q,u,cO _⟩,(),D n H p⟩
end
section
variable{d:Ad}{o:Obj}{c:List (List dB×V)}{ts:LN}{g:TG}{f:TS}{D:Ends}{b:St}{H:Hp}
def Py(n:c.map (·.1)=ts.map nk)(Pv:Nat->St->Hp->Prop)(u:Pv 0 b H)(v: ∀i b H,i<=ts.length->Pv i b H->H d=some (.frz o (.dT c)))
  (w: ∀i a t b H,ts[i]? =some t->H a=some (.tup (t.map nv))->Pv i b H->g (.ref a) b H λh r=>f {D with nx:=Pv (i+1),ct:=Pv (i+1),bk:=D.nx} h r) (z: ∀b H,Pv ts.length b H->D.nx b H):
  ∃W:Nat->Nat->St->Hp->Prop,(∃m,W 0 m b H)/\ ∀i m b H,W i m b H->
   ((sv d o).stop i H/\D.nx b H)∨((sv d o).go i H/\ ∃N:St->Hp->Prop,(∀j k,N j k-> ∃s,s<m/\W (i+1) s j k)/\ ∀x k,(sv d o).yld i H x k->g x b k λh r=>f {D with nx:=N,ct:=N,bk:=D.nx} h r):=by
 refine⟨λi m b H=>m=ts.length-i/\i<=ts.length/\Pv i b H,⟨ts.length,by simp,Nat.zero_le _,u⟩,?_⟩;rintro i m b H ⟨rfl,A,p⟩;have q:=v i b H A p;by_cases l:i<ts.length
 .refine .inr ⟨⟨c,ts,ts[i],q,n,by simp[l]⟩,Pv (i+1),λj k B=>⟨ts.length-(i+1),Nat.sub_succ_lt_self _ _ l,zZ,l,B⟩,λx k y=>?_⟩;obtain⟨e,a,C,y⟩:=y;subst e C;obtain⟨t,E,G⟩:=y c ts q n;exact w i a t b _ E G p
 .have e:i=ts.length:=by lia
  subst e;exact .inl ⟨⟨c,ts,q,n,cO _⟩,z b H p⟩
end
section
variable{X:Cx}{a:AO}{d:St}{H:Hp}{s:Sh}{h':Heap}{t':Nat}
def Inv.turnedN{ch:As}(I:Inv X a d H s)(k: ∀b o,b∉ch->s.heap.get? b=some o->h'.get? b=some o)(h: ∀b∈ch,FpOk X a H b):Inv X a d H {s with heap:=h',toks:=t'}:=by
 have i: ∀b u,H b=some u->b∉ch:=λb u e f=>by rw[(h b f).1]at e;cases e
 refine I.step (h':=h') (H':=H) (g':=s.gens) (t':=t') (d':=s.drawn) (ch:=ch) (λb f=>?_) (λb o _ _ g e _=>k b o g e) (λb o _ _ g e _=>⟨o.slots,k b o g e⟩) (λb o _ _ n=>n) (λb o g e=>⟨o,k b o g e⟩)
  (λb w q=>q) (λb o u q=>q) (λb x q=>⟨#[],by rw[q];simp⟩) (λm j=>?_) (λb u q=>?_) I.bare
 .obtain⟨_,l,_,p,r,t⟩:=h b f;exact⟨p,l,r,t⟩
 .exact j.at' λo e=>k _ o (λf=>(h _ f).2.1 zZ) e
 .refine(I.hok b u q).stay (λc o v e=>k c o ?_ e) (λ_ z=>z) λ_ _ z=>z
  rcases v with z|z
  .rw[z];exact i b u q
  .exact i c _ z
end
structure ZipL(h:Heap)(z TI TO i1 i2 t1 t2:Ad)(f0:Vl)(i:Nat):Prop where
 zip:IsZip h z TI TO f0
 ins:IsPair h TI (.ref i1) (.ref i2)
 out: ∃a b,IsPair h TO a b
 one:h.IsListIter i1 t1 i
 two:h.IsListIter i2 t2 i
def JJ{n a b:Nat}(c:a<n)(d:b<n):ZipApart (n+4) (n+2) (n+3) n (n+1) a b:=by
 constructor<;>(intro h;have e:(_:Nat)=_:=h;lia)
def GG{z TO a b c:Ad}(h:c∉[z,TO,a,b]):c≠z/\c≠TO/\c≠a/\c≠b:=by
 simp only[List.mem_cons,List.not_mem_nil,or_false,not_or]at h;exact h
def xV(K:Q5)(c d:Ad):It:=
  ⟨λi H=> ∃a b x y,SqL K H c a/\SqL K H d b/\a[i]? =some x/\b[i]? =some y,
   λi H v e=> ∃T x y,v= .ref T/\H T=none/\e=cA H T (.tup [x,y])/\(∀a,SqL K H c a->a[i]? =some x)/\ ∀b,SqL K H d b->b[i]? =some y,
   λi H=> ∃a b,SqL K H c a/\SqL K H d b/\(a.length<=i∨b.length<=i)⟩
def NE{P:Pg}{w:World}{K:Q5}{t:List Expr}{x1:Nat}{pos:Pos}{z TI TO g j L M:Ad}(D:ZipApart z TI TO g j L M):
  Turn P w K (.Tuple t x1 pos) (xV K L M) [z,TI,TO,g,j] z (λi h=>ZipL h z TI TO g j L M .none i) where
 mem:=dY ..
 obj:=λi h Z b f=>by
  obtain⟨a0,b0,n⟩:=Z.out;simp only[List.mem_cons,List.not_mem_nil,or_false]at f
  rcases f with rfl|rfl|rfl|rfl|rfl
  .exact⟨_,Z.zip,λv q=>by cases q⟩
  .exact⟨_,Z.ins,λv q=>by cases q⟩
  .exact⟨_,n,λv q=>by cases q⟩
  .obtain⟨o,e,c,d⟩:=Z.one;exact⟨o,e,λv z=>by rw[d]at z;cases z⟩
  .obtain⟨o,e,c,d⟩:=Z.two;exact⟨o,e,λv z=>by rw[d]at z;cases z⟩
 keep:=λi h h' Z k=>⟨k z (by simp) _ Z.zip,k TI (by simp) _ Z.ins,let⟨a,b,o⟩:=Z.out;⟨a,b,k TO (by simp) _ o⟩,Z.one.at λo e=>k g (by simp) o e,Z.two.at λo e=>k j (by simp) o e⟩
 item:=by
  intro X Y hw hK hc i N s O H E I A Z hg;subst Y hw hK;obtain⟨xs,ys,x,y,Q,T,hx,hy⟩:=hg;obtain⟨aa,rv,p1,_⟩:=I.list Q;obtain⟨B,p,p2,_⟩:=I.list T;obtain⟨u,hu,ru⟩:=rv.get hx;obtain⟨v,hv,ab⟩:=p.get hy;obtain⟨ae,af,l⟩:=Z.out;refine wpAny_pyNext_zip_item D Z.zip Z.ins l Z.one Z.two p1.isList p2.isList (x:=u) (y:=v) (by simpa using hu) (by simpa using hv) λr c1 c2 c3 c4 pr _ U=>?_;have k1: ∀c o,c∉[z,TO,g,j]->s.heap.get? c=some o->r.get? c=some o:=λc o nc e=>let⟨n1,n2,n3,n4⟩:=GG nc;U c o n1 n2 n3 n4 e
  have C:ZipL r z TI TO g j L M (rawInt s.heap.objs.size) (i+1):=⟨c1,U _ _ D.TIz D.TITO D.TIi1 D.TIi2 Z.ins,⟨_,_,c2⟩,c3,c4⟩;have sub: ∀b∈[z,TO,g,j],b∈[z,TI,TO,g,j]:=λb f=>by simp only[List.mem_cons,List.not_mem_nil,or_false]at f⊢;rcases f with e|e|e|e<;>simp[e]
  have I1:Inv X N O H {s with heap:=r}:=I.turnedN (t':=s.toks) k1 λb f=>A b (sub b f);have nT:H s.heap.objs.size=none:=I.hok.fresh (cO _);have ok:ObjOk X.prog X.w (cA H s.heap.objs.size (.tup [x,y])) r s.heap.objs.size (.tup [x,y]):=⟨by show 2<=sizeLine;decide,[u,v],.cons ru (.cons ab .nil),⟨_,pr,zZ,_,zZ,zZ⟩⟩;have I2:Inv X N O (cA H s.heap.objs.size (.tup [x,y])) {s with heap:=r}:=Inv.trackNew I I1 ok;refine⟨_,zZ,wpAny_letOwnedTupleGo_zip C.zip λh2 z2 G=>?_⟩;obtain⟨a0,b0,n⟩:=C.out;have old: ∀b∈[z,TI,TO,g,j],b≠s.heap.objs.size:=λb f=>by
   obtain⟨a1,b1,J⟩:=Z.out;simp only[List.mem_cons,List.not_mem_nil,or_false]at f
   rcases f with rfl|rfl|rfl|rfl|rfl
   .exact d9 (dq Z.zip)
   .exact d9 (dq Z.ins)
   .exact d9 (dq J)
   .obtain⟨o,e,_⟩:=Z.one;exact d9 (dq e)
   .obtain⟨o,e,_⟩:=Z.two;exact d9 (dq e)
  have m: ∀b∈[z,TI,TO,g,j],cA H s.heap.objs.size (.tup [x,y]) b=none:=λb f=>by rw[cK (old b f)];exact(A b f).1
  obtain⟨f0,f1,f2,f3,f4,f5⟩:=A z (dY ..);have I3:Inv X N O (cA H s.heap.objs.size (.tup [x,y])) {s with heap:=h2}:=I2.turned (t':=s.toks) (λb o nb e=>G.extBut b o nb e) (m z (dY ..)) f1 f3 f4 f5;refine⟨.ref s.heap.objs.size,_,I3,zZ,⟨_,x,y,zZ,nT,zZ,λag h=>?_,λah h=>?_⟩,⟨z2,G.extBut _ _ D.TIz C.ins,⟨a0,b0,G.extBut _ _ D.TOz n⟩,C.one.at λo e=>G.extBut _ _ D.i1z e,C.two.at λo e=>G.extBut _ _ D.i2z e⟩,m⟩
  .rw[I.list_inj h Q];exact hx
  .rw[I.list_inj h T];exact hy
 done:=by
  intro X Y hw hK hc i N s O H E I A Z hg;subst Y hw hK;obtain⟨xs,ys,Q,T,he⟩:=hg;obtain⟨aa,rv,p1,_⟩:=I.list Q;obtain⟨B,p,p2,_⟩:=I.list T;have l1:=rv.length;have l2:=p.length;have sub: ∀b∈[z,TO,g,j],b∈[z,TI,TO,g,j]:=λb f=>by simp only[List.mem_cons,List.not_mem_nil,or_false]at f⊢;rcases f with e|e|e|e<;>simp[e]
  obtain⟨ae,af,l⟩:=Z.out;refine wpAny_pyNext_zip_end (I.ok.hd hc) D Z.zip Z.ins l Z.one Z.two p1.isList p2.isList ?_ λr U=>⟨zZ,I.turnedN (t':=s.toks) (λc o nc e=>let⟨n1,n2,n3,n4⟩:=GG nc;U c o n1 n2 n3 n4 e) λb f=>A b (sub b f)⟩
  rcases he with h|h
  .exact .inl (by simp;lia)
  .exact .inr (by simp;lia)
 self:=λ_ _ _ _ _ Z q=>wpAny_pyIter_zip Z.zip q
section
variable{X:Cx}
def zt(K:Q5)(d:TA):TI:=λe H R=>d e H λf a=> ∃b c g h,f=[.ref b,.ref c]/\SqL K a b g/\SqL K a c h/\R (xV K b c) a
def Hj{c:List Expr}{G:Nat}{J:Pos}{a b:Expr}{t:TA}{p pos:Pos}(L:Gl X "zip")(M:X.mg "zip"=none)(N:PA X [a,b] t)(O:starEach [a,b] X.env=[(false,eval a X.env),(false,eval b X.env)]:=by rfl)
  (d:starEach [b] X.env=[(false,eval b X.env)]:=by rfl):PI X (.Tuple c G J) (.Call (.Name "zip" p) [a,b] [] pos) (zt X.K t):=by
 intro u s v H R I h;refine Call_ (ue I L M PyProof.Rows.boot_zip (Aj (cT (N pos u s v H _ I h) λw s1 ⟨vs,x,f,Q,k⟩=>?_) (by rw[O,d]) (by rw[d];rfl)));obtain⟨i,j,xs,ys,e,k,T,q⟩:=k;subst e;obtain⟨l,w,rfl,m,U⟩: ∃l g,w=l::g/\RelV (.ref i) l/\Vals [.ref j] g:=by cases Q with|cons a b=>exact⟨_,_,rfl,a,b⟩
 obtain⟨u2,rfl,n⟩:=j3 U;cases m;cases n;obtain⟨Y,rv,y,_⟩:=f.list k;obtain⟨z,aa,A,_⟩:=f.list T;have o:i<s1.heap.objs.size:=let⟨_,e,_⟩:=y.isList;dq e
 have r:j<s1.heap.objs.size:=let⟨_,e,_⟩:=A.isList;dq e
 refine call_zip_2 y.isList A.isList λB c1 c2 c3 c4 c5 _ all=>?_;have Z:ZipL B (s1.heap.objs.size+4) (s1.heap.objs.size+2) (s1.heap.objs.size+3) s1.heap.objs.size (s1.heap.objs.size+1) i j .none 0:=⟨c1,c2,⟨_,_,c3⟩,c4,c5⟩;refine wpAny_pyIter_zip Z.zip ?_;have I2:Inv X u v x {s1 with heap:=B}:=f.kept (t':=s1.toks) all;have D:ZipApart (s1.heap.objs.size+4) (s1.heap.objs.size+2) (s1.heap.objs.size+3) s1.heap.objs.size (s1.heap.objs.size+1) i j:=JJ o r;refine⟨_,_,_,_,x,zZ,I2,NE D,Z,λb C=>?_,q⟩;have E:s1.heap.objs.size<=b:=by
  simp only[List.mem_cons,List.not_mem_nil,or_false]at C
  rcases C with e|e|e|e|e<;>(rw[e];first|exact cO _|exact nP _ _)
 exact f.fpOk E (f.hok.fresh E)
end
def FL{K:Q5}{f h:Ad}{xs ys:List V}{g:TG}{n:TS}{D:Ends}{a:St}{H:Hp}(Pv:Nat->St->Hp->Prop)(q:Pv 0 a H)(r: ∀i a H,Pv i a H->SqL K H f xs/\SqL K H h ys)
  (s: ∀i x y T a H,xs[i]? =some x->ys[i]? =some y->H T=none->Pv i a H->g (.ref T) a (cA H T (.tup [x,y])) λb j=>n {D with nx:=Pv (i+1),ct:=Pv (i+1),bk:=D.nx} b j) (t: ∀a H,Pv (min xs.length ys.length) a H->D.nx a H):
  ∃W:Nat->Nat->St->Hp->Prop,(∃m,W 0 m a H)/\ ∀i m a H,W i m a H->
   ((xV K f h).stop i H/\D.nx a H)∨((xV K f h).go i H/\ ∃N:St->Hp->Prop,(∀c d,N c d-> ∃o,o<m/\W (i+1) o c d)/\ ∀x d,(xV K f h).yld i H x d->g x a d λb j=>n {D with nx:=N,ct:=N,bk:=D.nx} b j):=by
 refine⟨λi m a H=>m=min xs.length ys.length-i/\i<=min xs.length ys.length/\Pv i a H,⟨min xs.length ys.length,by simp,Nat.zero_le _,q⟩,?_⟩;rintro i m a H ⟨rfl,E,p⟩;obtain⟨k,l⟩:=r i a H p;by_cases lt:i<min xs.length ys.length
 .have u:i<xs.length:=by lia
  have w:i<ys.length:=by lia
  refine .inr ⟨⟨xs,ys,xs[i],ys[i],k,l,cE u,cE w⟩,Pv (i+1),λc d A=>⟨min xs.length ys.length-(i+1),(),zZ,lt,A⟩,λv d z=>?_⟩;obtain⟨T,x,y,rfl,hT,rfl,B,C⟩:=z;exact s i x y T a H (B xs k) (C ys l) hT p
 .have e:i=min xs.length ys.length:=by lia
  exact .inl ⟨⟨xs,ys,k,l,()⟩,t a H (e▸p)⟩
def vr(K:Q5)(l:Ad):It:=
  ⟨λi H=> ∃a x,SqL K H l a/\a[i]? =some x,
   λi H v b=> ∃T x,v= .ref T/\H T=none/\b=cA H T (.tup [.int (i:Nat),x])/\ ∀a,SqL K H l a->a[i]? =some x,
   λi H=> ∃a,SqL K H l a/\a.length<=i⟩
def MU(e a l:Ad)(i:Nat)(h:Heap):Prop:=(∃old,IsEnum h e a (i:Nat) old)/\h.IsListIter a l i
def LH{P:Pg}{w:World}{K:Q5}{m:List Expr}{x1:Nat}{pos:Pos}{e d l:Ad}(T:e≠d):Turn P w K (.Tuple m x1 pos) (vr K l) [e,d] e (λi h=>MU e d l i h) where
 mem:=dY ..
 obj:=λi h Z b f=>by
  obtain⟨⟨old,c⟩,o,g,r,B⟩:=Z;simp only[List.mem_cons,List.not_mem_nil,or_false]at f
  rcases f with rfl|rfl
  .exact⟨_,c,λv q=>by cases q⟩
  .exact⟨_,g,λv q=>by rw[B]at q;cases q⟩
 keep:=λi h n Z k=>by
  obtain⟨⟨old,c⟩,o,g,r,B⟩:=Z;exact⟨⟨old,k e (by simp) _ c⟩,o,k d (by simp) _ g,r,B⟩
 item:=by
  intro X C hw D U i t s y H E I p Z G;subst C hw D;obtain⟨xs,x,A,Y⟩:=G;obtain⟨⟨old,c⟩,g⟩:=Z;obtain⟨J,L,M,_⟩:=I.list A;obtain⟨u,hu,ru⟩:=L.get Y;refine wpAny_pyNext_enum_item c g M.isList (x:=u) (by simpa using hu) T λn ho N hT hs k=>?_;have I1:Inv X t y H {s with heap:=n,toks:=s.toks+1}:=I.turnedN (ch:=[e,d]) (t':=s.toks+1) (λb o j O=>k b o (λz=>j (by simp[z])) (λz=>j (by simp[z])) O) p;have nT:H s.heap.objs.size=none:=I.hok.fresh (cO _);have ok:ObjOk X.prog X.w (cA H s.heap.objs.size (.tup [.int (i:Nat),x])) n s.heap.objs.size (.tup [.int (i:Nat),x]):=⟨by show 2<=sizeLine;decide,[_,u],.cons ⟨_,zZ⟩ (.cons ru .nil),⟨_,hT,zZ,_,zZ,zZ⟩⟩;have I2:Inv X t y (cA H s.heap.objs.size (.tup [.int (i:Nat),x])) {s with heap:=n,toks:=s.toks+1}:=Inv.trackNew I I1 ok;refine⟨_,zZ,wpAny_letOwnedTupleGo_enum ho λr Q sb=>?_⟩;have le:e<s.heap.objs.size:=dq c;have li:d<s.heap.objs.size:=by obtain⟨_,z,_⟩:=g;exact dq z
  have a: ∀b∈[e,d],cA H s.heap.objs.size (.tup [.int (i:Nat),x]) b=none:=λb f=>by
   have j:b≠s.heap.objs.size:=by
    simp only[List.mem_cons,List.not_mem_nil,or_false]at f
    rcases f with rfl|rfl
    .exact d9 le
    .exact d9 li
   rw[cK j];exact(p b f).1
  obtain⟨f0,f1,f2,f3,f4,f5⟩:=p e (dY ..);have I3:Inv X t y (cA H s.heap.objs.size (.tup [.int (i:Nat),x])) {s with heap:=r,toks:=s.toks+1}:=I2.turned (t':=s.toks+1) (λb o j e=>sb.extBut b o j e) (a e (dY ..)) f1 f3 f4 f5;refine⟨.ref s.heap.objs.size,_,I3,zZ,⟨_,x,zZ,nT,zZ,λaa h=>?_⟩,⟨⟨_,Q⟩,?_⟩,a⟩
  .rw[I.list_inj h A];exact Y
  .obtain⟨o,z1,z2,z3⟩:=N;exact⟨o,sb.extBut _ _ (fh T) z1,z2,z3⟩
 done:=by
  intro X C hw D U i t s y H E I p Z G;subst C hw D;obtain⟨xs,A,he⟩:=G;obtain⟨⟨old,c⟩,g⟩:=Z;obtain⟨J,L,M,_⟩:=I.list A;have l1:=L.length;refine wpAny_pyNext_enum_end (I.ok.hd U) c g M.isList (by simp;lia) λn k=>⟨zZ,?_⟩;exact I.turnedN (ch:=[d]) (t':=s.toks) (λb o j O=>k b o (λz=>j (by simp[z])) O) λb f=>p b (by rw[List.mem_singleton.mp f];simp)
 self:=λ_ _ _ _ _ Z q=>by
  obtain⟨⟨old,c⟩,_⟩:=Z;exact wpAny_pyIter_enum c q
section
variable{X:Cx}
def x6(K:Q5)(b:TA):TI:=λc H R=>b c H λd a=> ∃l e,d=[.ref l]/\SqL K a l e/\R (vr K l) a
def wF{c:List Expr}{v:Nat}{w:Pos}{a:Expr}{j:TA}{p pos:Pos}(x:Gl X "enumerate")(y:X.mg "enumerate"=none)(z:PA X [a] j)(A:starEach [a] X.env=[(false,eval a X.env)]:=by rfl):PI X (.Tuple c v w) (.Call (.Name "enumerate" p) [a] [] pos) (x6 X.K j):=by
 intro m s n H R I h;refine Call_ (ue I x y PyProof.Rows.boot_enumerate (Aj (cT (z pos m s n H _ I h) λL s1 ⟨M,o,d,B,f⟩=>?_) (by rw[A];rfl) (by rfl)));obtain⟨l,N,e,f,q⟩:=f;subst e;obtain⟨O,rfl,g⟩:=j3 B;cases g;obtain⟨C,Q,D,_⟩:=d.list f;have i:=D.isList;refine call_enumerate_list i λE r G sz k=>wpAny_pyIter_enum r ?_;have J:Inv X m n o {s1 with heap:=E}:=d.kept (t':=s1.toks) k;refine⟨_,_,_,_,o,zZ,J,LH (l:=l) (m9 (oJ _)),⟨⟨_,r⟩,G⟩,λb t=>?_,q⟩;have u:s1.heap.objs.size<=b:=by
  simp only[List.mem_cons,List.not_mem_nil,or_false]at t
  rcases t with e|e<;>(rw[e];first|exact cO _|exact nP _ _)
 exact d.fpOk u (d.hok.fresh u)
end
section
variable{K:Q5}{l:Ad}{xs:List V}{g:TG}{b:TS}{D:Ends}{a:St}{H:Hp}
def yV(Pv:Nat->St->Hp->Prop)(n:Pv 0 a H)(o: ∀i a H,i<=xs.length->Pv i a H->SqL K H l xs)
  (r: ∀i T x a H,xs[i]? =some x->H T=none->Pv i a H->g (.ref T) a (cA H T (.tup [.int (i:Nat),x])) λc j=>b {D with nx:=Pv (i+1),ct:=Pv (i+1),bk:=D.nx} c j) (s: ∀a H,Pv xs.length a H->D.nx a H):
  ∃W:Nat->Nat->St->Hp->Prop,(∃m,W 0 m a H)/\ ∀i m a H,W i m a H->
   ((vr K l).stop i H/\D.nx a H)∨((vr K l).go i H/\ ∃N:St->Hp->Prop,(∀d f,N d f-> ∃k,k<m/\W (i+1) k d f)/\ ∀x f,(vr K l).yld i H x f->g x a f λc j=>b {D with nx:=N,ct:=N,bk:=D.nx} c j):=by
 refine⟨λi m a H=>m=xs.length-i/\i<=xs.length/\Pv i a H,⟨xs.length,by simp,Nat.zero_le _,n⟩,?_⟩;rintro i m a H ⟨rfl,t,p⟩;have q:=o i a H t p;by_cases h:i<xs.length
 .refine .inr ⟨⟨xs,xs[i],q,by simp[h]⟩,Pv (i+1),λd f u=>⟨xs.length-(i+1),Nat.sub_succ_lt_self _ _ h,zZ,h,u⟩,λv f y=>?_⟩;obtain⟨T,x,rfl,w,rfl,y⟩:=y;exact r i T x a _ (y xs q) w p
 .have e:i=xs.length:=by lia
  subst e;exact .inl ⟨⟨xs,q,cO _⟩,s a H p⟩
end
structure CompScope1(X:Cx)(vs:Ss)(x:Str)(sc:Scope):Prop where
 kind:sc.kind= .function
 spl: ∃l1 l2,sc.names=l1++(x,.cell)::l2/\(∀y∈l1,y.2≠ .cell)/\ ∀y∈l2,y.2≠ .cell
 look:sc.names.lookup x=some .cell
 locs: ∀y∈sc.names,y.2= .local->sc.names.lookup y.1=some .local
 own: ∀y∈X.N.map (iq vs),sc.names.lookup y≠some .local/\y≠x
 hid: ∀y∈vs,sc.names.lookup (vq y)=none
 nd:(vs++X.N.map (iq vs)).Nodup
 free: ∀y∈sc.names,y.2= .free->X.env.kindOf y.1=some .cell∨X.env.kindOf y.1=some .free
def lC(X:Cx)(a:Ss)(x:Str)(b:Scope)(C:Ad)(s:Sh)(H:Hp)(c:As):Cx where
 prog:=X.prog
 w:=X.w
 K:=X.K
 mg:=X.mg
 base:=X.base
 A:=X.A
 N:=a++X.N.map (iq a)
 s₀:=s
 H₀:=H
 env:=compEnvC b ((x,C+1)::hJ X.env b) C X.env
 outer:=X.stack
 stack:=X.stack
 ex:=c
 fn:=λy=>y==x
 calm:=X.calm
 pn:=X.pn
 xe:=λ_ _=>False
section
variable{M:Model}{A:Ar}{E:VP}{s:Sh}{d:Scope}{x:Str}{c:List (Str×Ad)}{globals:Ad}{qual:Str}{a:Env}
def K0{Q:Env->Sh->Prop}(t: ∃i j,d.names=i++(x,.cell)::j/\(∀y∈i,y.2≠ .cell)/\ ∀y∈j,y.2≠ .cell)
    (q:Q {scope:=d,locals:=s.heap.objs.size,globals:=globals,cells:=(x,s.heap.objs.size+1)::c,qual:=qual,func:=none,code:=a.code,frame:=a.frame,builtins:=a.builtins}
      {s with heap:=(s.heap.push {cls:= .type "dict",data:= .dict #[]}).push {cls:= .type "cell",data:= .cell none}}):wpAny M A (newFunctionEnv d globals c [] qual none .none (some a)) Q E s:=by
  obtain⟨i,j,e,u,v⟩:=t;unfold newFunctionEnv;refine cB (Bt ?_);rw[e];have sz:(s.heap.push {cls:= .type "dict",data:= .dict #[]}).objs.size=s.heap.objs.size+1:=rf ..;refine cB (C1 _ (λrest cells k=>(∃f,rest=f++(x,.cell)::j/\(∀y∈f,y.2≠ .cell)/\cells=c/\k={s with heap:=s.heap.push {cls:= .type "dict",data:= .dict #[]}})∨((∀y∈rest,y.2≠ .cell)/\cells=(x,s.heap.objs.size+1)::c/\k={s with heap:=(s.heap.push {cls:= .type "dict",data:= .dict #[]}).push {cls:= .type "cell",data:= .cell none}})) _ (λz rest b k n=>?_) (λb k n=>?_) _ _ (.inl ⟨i,rfl,u,rfl,rfl⟩))
  · rcases n with⟨f,l,g,rfl,rfl⟩|⟨h,rfl,rfl⟩
    · cases f with
      | nil=>
        injection l with o p
        subst o p;dsimp only;rw[wB (by rfl)];refine cB (Bt (cH (.inr ⟨v,?_,zZ⟩)));rw[sz]
      | cons y f=>
        injection l with o p
        subst o p;have r:=g z (dY ..);dsimp only;rw[wA (by simpa using r)];exact cH (.inl ⟨f,zZ,λw hw=>g w (fR _ hw),zZ,zZ⟩)
    · have r:=h z (dY ..)
      dsimp only;rw[wA (by simpa using r)];exact cH (.inr ⟨λw hw=>h w (fR _ hw),zZ,zZ⟩)
  · rcases n with⟨f,l,_⟩|⟨_,rfl,rfl⟩
    · cases f<;>cases l
    · refine cB (m:=forIn [] _ _) ?_
      rw[List.forIn_nil];exact cH (cH q)
end
section
variable{X:Cx}{j:AO}{g:St}{H:Hp}{s:Sh}{f:Ss}{x:Str}{a:Scope}
def Kk{C:Ad}{fp:As}{U:Heap}{tk:Nat}{m0:SV}(S:CompScope1 X f x a)(I:Inv X j g H s)(hf: ∀b∈fp,FpOk X j H b)(ho: ∀b∈fp,∃o,s.heap.get? b=some o)
  (k: ∀b o,s.heap.get? b=some o->U.get? b=some o) (ag:U.Ns C m0) (G:s.heap.objs.size<=C) (ah:U.IsCell (C+1) none):Inv (lC X f x a C s H fp) j (iJ f g) H {s with heap:=U,toks:=tk}:=by
 have l: ∀y c,(hJ X.env a).lookup y=some c->X.env.cells.lookup y=some c:=t8 a.names [] λy c e=>by simp at e
 have B: ∀y c,List.lookup y ((x,C+1)::hJ X.env a)=some c->(y=x/\c=C+1)∨(y≠x/\(hJ X.env a).lookup y=some c):=λy c e=>by
  rw[ki]at e;cases M:y==x with
  |true=>
   rw[M]at e;cases e;exact .inl ⟨eq_of_beq M,zZ⟩
  |false=>
   rw[M]at e;exact .inr ⟨λz=>by rw[z]at M;simp at M,e⟩
 have Y:List.lookup x ((x,C+1)::hJ X.env a)=some (C+1):=by rw[ki];simp
 have aa: ∀y,y≠x->List.lookup y ((x,C+1)::hJ X.env a)=(hJ X.env a).lookup y:=λy ny=>by
  rw[ki];have:(y==x)=false:=by simpa using ny
  rw[this]
 have fr: ∀y,a.names.lookup y=some .free->X.env.kindOf y=some .cell∨X.env.kindOf y=some .free:=λy e=>S.free (y,.free) (nK e) rfl;have ai: ∀y,(X.env.kindOf y=some .cell∨X.env.kindOf y=some .free)-> ∃c,X.env.cells.lookup y=some c:=λy e=>I.ok.has y e;have N: ∀y,a.names.lookup y=some .cell->y=x:=λy e=>by
  obtain⟨l1,l2,en,n1,n2⟩:=S.spl;have m:=nK e;rw[en]at m
  rcases dD.mp m with z|z
  .exact wC zZ (n1 _ z)
  .rcases dZ.mp z with z|z
   .injection z
   .exact wC zZ (n2 _ z)
 have t: ∀{y:Str} {kd:NameKind},(relabel a X.env).names.lookup y=some kd->kd= .cell∨kd= .free->y=x∨a.names.lookup y=some .free:=λ{y kd} e hk=>by
  rcases u6 (names:=a.names) e with z|⟨z,_⟩
  .rcases hk with q|q
   .subst q;exact .inl (N y z)
   .subst q;exact .inr z
  .exact .inr z
 have has: ∀y,a.names.lookup y=some .free-> ∃c,(hJ X.env a).lookup y=some c:=λy e=>Ed a.names [] y e (ai y (fr y e));have ab: ∀y c,X.env.cells.lookup y=some c->c<s.heap.objs.size:=λy c e=>let⟨_,z⟩:=I.cell y c e;z.lt
 have kc: ∀{c v},s.heap.IsCell c v->U.IsCell c v:=λ{c v} ⟨o,e,d⟩=>⟨o,k _ _ e,d⟩;have A: ∀y,y=x∨a.names.lookup y=some .free-> ∃c,List.lookup y ((x,C+1)::hJ X.env a)=some c:=λy h=>by
  by_cases e:y=x
  .rw[e];exact⟨_,Y⟩
  .rcases h with h|h
   .exact wC h e
   .rw[aa y e];exact has y h
 refine⟨⟨I.ok.mod,S.kind,I.ok.glob,I.ok.blt,G,λy z c h1 Q=>?_,λy M=>?_,λy c z Q=>?_,I.ok.hd,I.ok.frames,.inl zZ,λb O=>⟨?_,λy c e=>?_⟩,I.bs,dL I.ok.bsz I.sz,λb o e O=>?_,λb O hs=>?_,I.stack,I.stkFree⟩,
  rfl,I.bare,Un.kept k,⟨m0,ag,λi y v e1 T e3=>?_⟩,λy c e=>?_,I.hok.fresh G,λy c e=>?_,λp hp=>?_,I.hok.kept k,?_⟩
 .rcases B y c h1 with⟨rfl,rfl⟩|⟨_,L⟩
  .rcases B z _ Q with⟨rfl,_⟩|⟨_,q2⟩
   .rfl
   .exact wC (gh (ab _ _ (l _ _ q2)) (yu G)) (me _)
  .rcases B z c Q with⟨rfl,rfl⟩|⟨_,q2⟩
   .exact wC (gh (ab _ _ (l _ _ L)) (yu G)) (me _)
   .exact I.ok.inj y z c (l y c L) (l z c q2)
 .have aj:(relabel a X.env).names.lookup y=some .cell∨(relabel a X.env).names.lookup y=some .free:=M
  rcases aj with z|z
  .exact A y (t z (.inl zZ))
  .exact A y (t z (.inr zZ))
 .have ey:y=x:=eq_of_beq z;subst ey;have ae:List.lookup y ((y,C+1)::hJ X.env a)=some c:=Q;rw[Y]at ae;cases ae;exact yu G
 .obtain⟨o,e⟩:=ho b O;exact d9 (gh (dq e) G)
 .rcases B y c e with⟨_,rfl⟩|⟨_,L⟩
  .obtain⟨o,e⟩:=ho b O;exact m9 (qc (gh (dq e) G))
  .exact(hf b O).2.2.2.2.1 y c (l y c L)
 .obtain⟨_,_,_,z,_⟩:=hf b O
  rcases z with z|z
  .exact I.ok.noex b o e z
  .exact wC (gh (dq (I.ok.bs b o e).1) z) (me _)
 .obtain⟨_,h1,Q,_⟩:=hf b O
  rcases dZ.mp (I.stkSub b hs)with z|z
  .exact h1 z
  .exact Q z
 .have D:(f++X.N.map (iq f))[i]? =some y:=e1;have E:(List.replicate f.length none++g)[i]? =some (some v):=T;have hi:f.length<=i:=by
   by_cases z:i<f.length
   .rw[fe (by simpa using z),List.getElem?_replicate]at E;split at E<;>cases E
   .lia
  rw[e9 hi]at D;rw[e9 (by simpa using hi),List.length_replicate]at E;have yN:y∈X.N.map (iq f):=cY D;obtain⟨nl,nx⟩:=S.own y yN;have af:(relabel a X.env).names.lookup y=some .local∨(relabel a X.env).names.lookup y=some .cell∨(relabel a X.env).names.lookup y=some .free:=e3;have J:a.names.lookup y=some .free:=by
   rcases af with z|z|z
   .rcases u6 (names:=a.names) z with q|⟨_,q⟩
    .exact wC q nl
    .cases q
   .exact(t z (.inl zZ)).resolve_left nx
   .exact(t z (.inr zZ)).resolve_left nx
  have D:X.N[i-f.length]? =some y:=by
   have w:(X.N.map (iq f))[i-f.length]? =some y:=D;rw[cV]at w;cases e:X.N[i-f.length]? with
   |none=>rw[e]at w;cases w
   | some y0=>
    rw[e]at w;have T:iq f y0=y:=gD w;unfold iq at T
    split at T
    .rename_i hc
     rw[<-T,S.hid y0 (by simpa using hc)]at J;cases J
    .rw[T]
  have ok:=fr y J;obtain⟨m,_,hl⟩:=I.loc;obtain⟨u,r,lk⟩:=hl (i-f.length) y v D E (.inr ok);refine⟨u,r,?_⟩
  rcases lk with⟨q,_⟩|⟨_,c,ec,hc⟩
  .rcases ok with z|z<;>rw[z]at q<;>cases q
  .obtain⟨c',e'⟩:=has y J;have:c'=c:=gD ((l y c' e').symm.trans ec);subst this;refine .inr ⟨?_,c',(aa y nx).trans e',kc hc⟩
   rcases af with z|z|z
   .rcases u6 (names:=a.names) z with q|⟨_,q⟩
    .exact wC q nl
    .cases q
   .exact .inl z
   .exact .inr z
 .rcases B y c e with⟨_,rfl⟩|⟨_,L⟩
  .exact⟨none,ah⟩
  .obtain⟨v,z⟩:=I.cell y c (l y c L);exact⟨v,kc z⟩
 .rcases B y c e with⟨_,rfl⟩|⟨_,L⟩
  .exact I.hok.fresh (yu G)
  .exact I.freeC y c (l y c L)
 .obtain⟨e,n,ne,nf,d⟩:=I.pin p hp;refine⟨k _ _ e,n,d9 (gh (dq e) G),λz=>?_,d⟩
  rcases dZ.mp (I.stkSub p.1 z)with q|q
  .exact ne q
  .exact nf q
 .show(List.replicate f.length none++g).length=(f++X.N.map (iq f)).length;rw[dF,dF,xv,cC,I.len]
end
section
variable{X:Cx}{k:AO}{m:St}{H:Hp}{s:Sh}{f:Ss}{j:Str}{a:Scope}{w t l:Expr}{q:List Expr}{pos:Pos}{g:TG}{B:TT}{A:TE}
def JU{J:It}{L:As}{it:Ad}{tn:Nat->Heap->Prop}{E:VP}{RR:Vl->Ad->Result->Sh->Prop}{Fin:List V->Hp->Prop}
  (S:CompScope1 X f j a) (hc:X.calm=true) (hg: ∀C s H L,PG (lC X f j a C s H L) w g) (ht: ∀C s H L,pT (lC X f j a C s H L) q B) (he: ∀C s H L,PE (lC X f j a C s H L) t A)
  (I:Inv X k m H s) (T:Turn X.prog X.w X.K w J L it tn) (st:tn 0 s.heap) (hf: ∀b∈L,FpOk X k H b) (hW:nQ f g B A m J H Fin)
  (az: ∀D C Y G ys m',Inv X k m (cA G D (.lst ys)) Y->G D=none->FpOk X k (cA G D (.lst ys)) C->Y.heap.Ns C m'->Fin ys G->RR (.ref D) C (.ok .next) Y):
  wpAny (model X.prog X.w) X.A (newList []) (λau s3=>wpAny (model X.prog X.w) X.A (newFunctionEnv a X.env.globals (hJ X.env a) [] X.env.qual none .none (some X.env)) (λcenv s4=>
   codeAny (model X.prog X.w) X.A (.compStart (.ListComp t [⟨w,l,q,0⟩] a pos) 0 (.ref it) au {cenv with scope:=relabel a X.env}) (RR au cenv.locals) s4) E s3) E s:=by
 obtain⟨W,⟨m0,w0⟩,turn⟩:=hW;refine md (K0 S.spl ?_);dsimp only;generalize an:s.heap.push {cls:= .type "list",dict:=none,data:= .seq ([]:Vs).toArray}=H2;have hC:H2.objs.size=s.heap.objs.size+1:=by rw[<-an,rf]
 have aj:=(Heap.Ns.new H2 (.type "dict")).push {cls:= .type "cell",data:= .cell none};have U:((H2.push {cls:= .type "dict",data:= .dict #[]}).push {cls:= .type "cell",data:= .cell none}).get? (H2.objs.size+1)=some {cls:= .type "cell",data:= .cell none}:=by
  rw[<-rf (h:=H2) (o:={cls:= .type "dict",data:= .dict #[]})];exact fj _ rfl
 have aa: ∀b o,H2.get? b=some o->((H2.push {cls:= .type "dict",data:= .dict #[]}).push {cls:= .type "cell",data:= .cell none}).get? b=some o:=λb o e=>dM _ (dM _ e);generalize(H2.push {cls:= .type "dict",data:= .dict #[]}).push {cls:= .type "cell",data:= .cell none}=h1 at aj U aa⊢;have av:=aj;have ab:h1.IsCell (H2.objs.size+1) none:=⟨_,U,zZ⟩;generalize aM:H2.objs.size=C at av hC ab⊢;generalize ae:s.heap.objs.size=D at hC⊢;have ao:D≠C:=by lia
 have below: ∀b o,s.heap.get? b=some o->b≠D/\b≠C:=λb o e=>by
  have z:b<s.heap.objs.size:=dq e;rw[ae]at z;exact⟨d9 z,d9 (by rw[hC];exact qc z)⟩
 have old: ∀b o,s.heap.get? b=some o->h1.get? b=some o:=λb o e=>aa b o (an▸dM _ e);have aA:h1.get? D=some {cls:= .type "list",data:= .seq ([]:Vs).toArray}:=aa _ _ (by rw[<-an,<-ae];exact fj _ zZ);have af: ∀b∈L,∃o,s.heap.get? b=some o:=λb M=>let⟨o,e,_⟩:=T.obj 0 _ st b M;⟨o,e⟩
 have ap: ∀b∈L,b≠D/\b≠C:=λb M=>let⟨o,e⟩:=af b M;below b o e
 have fD: ∀G,G D=none->FpOk X k G D:=λG n=>I.fpOk () n;have fC: ∀G,G C=none->FpOk X k G C:=λG n=>I.fpOk () n;have aB: ∀p∈X.pn++k,p.1≠D:=λp hp=>(below _ _ (I.pin p hp).1).1;have aw: ∀y c,List.lookup y ((j,C+1)::hJ X.env a)=some c->c=C+1∨(hJ X.env a).lookup y=some c:=λy c e=>by
  rw[ki]at e;cases hy:y==j with
  |true=>
   rw[hy]at e;cases e;exact .inl rfl
  |false=>
   rw[hy]at e;exact .inr e
 have aq: ∀y c,List.lookup y ((j,C+1)::hJ X.env a)=some c->c≠D:=λy c e=>by
  rcases aw y c e with rfl|e
  .lia
  .have e':=t8 a.names [] (λy c e=>by simp at e) y c e;obtain⟨v,z⟩:=I.cell y c e';have z':c<s.heap.objs.size:=z.lt;rw[ae]at z';exact d9 z'
 have aC: ∀b,b∈kq X.stack-> ∃o,s.heap.get? b=some o:=λb M=>let⟨_,o,ho,_⟩:=I.stack.mem M;⟨o,ho⟩
 have aD:D∉kq X.stack:=λz=>let⟨o,e⟩:=aC D z;(below _ _ e).1 rfl
 have ar: ∀{pl:AO} {G:Hp},(∀p∈pl,p.1=D)->(∀b∈L,G b=none)-> ∀b∈L,FpOk (lC X f j a C s H L) (k++pl) G b:=λ{pl G} aE hn b M=>by
  obtain⟨_,q1,q2,q3,q4,q5⟩:=hf b M;refine⟨hn b M,(ap b M).2,λz=>?_,.inl M,λy c e=>?_,λp hp=>?_⟩
  .rcases dZ.mp (I.stkSub b z)with y|y
   .exact q1 y
   .exact q2 y
  .rcases aw y c e with rfl|e
   .obtain⟨o,eo⟩:=af b M;have z:b<s.heap.objs.size:=dq eo;rw[ae]at z;intro ez;have z2:C+1<D:=by rw[ez];exact z
    lia
   .exact q4 y c (t8 a.names [] (λy c e=>by simp at e) y c e)
  .rcases dD.mp hp with z|z
   .exact q5 p (ni _ z)
   .rcases dD.mp z with y|y
    .exact q5 p (fg _ y)
    .rw[aE p y];exact fh (ap b M).1
 have ak: ∀s3:Sh,s3={s with heap:=h1}->
   codeAny (model X.prog X.w) X.A (.compLoop (.ListComp t [⟨w,l,q,0⟩] a pos) 0 (.ref it) (.ref D) (compEnvC a ((j,C+1)::hJ X.env a) C X.env)) (RR (.ref D) C) s3:=by
  rintro s3 rfl;have I0:Inv (lC X f j a C s H L) k (iJ f m) H {s with heap:=h1}:=Kk (tk:=s.toks) S I hf af old av () ab;refine Ho (λn Y=> ∃i ys O no G,Inv (lC X f j a C s H L) k (iJ f m) G Y/\tn i Y.heap/\(∀b∈L,G b=none)/\G D=none/\
   Y.heap.get? D=some {cls:= .type "list",data:= .seq O.toArray no}/\Vals ys O/\W i n ys G) ?_ m0
   ⟨0,[],[],0,H,I0,T.keep 0 _ _ st λb M o e=>old b o e,λb M=>(hf b M).1,I.hok.fresh (),aA,.nil,w0⟩
  rintro n Y ⟨i,ys,O,no,G,I1,ax,ay,ah,aF,ai,w1⟩;have al:Inv (lC X f j a C s H L) (k++[(D,{cls:= .type "list",data:= .seq O.toArray no})]) (iJ f m) G Y:=I1.pins_of λp hp=>by
   rcases dD.mp hp with z|z
   .exact I1.pin p (fg _ z)
   .have e:p=(D,{cls:= .type "list",data:= .seq O.toArray no}):=by simpa using z
    subst e;exact⟨aF,ah,ao,aD,λv z=>by have z':Data.seq _ _=Data.cell v:=z;cases z'⟩
  have Q: ∀p∈[((D,{cls:= .type "list",data:= .seq O.toArray no}):Ad×Obj)],p.1=D:=λp hp=>by
   have e:p=(D,{cls:= .type "list",data:= .seq O.toArray no}):=by simpa using hp
   rw[e]
  rcases turn i n ys G w1 with⟨stop,hz,fin⟩|⟨go,hz,N,hN,step⟩
  .refine cT (T.done (lC X f j a C s H L) zZ zZ zZ hc i _ Y _ G (λ_ _=>False) al (ar Q ay) ax stop) λr s4 ⟨hr,I4⟩=>?_;subst hr;have d4:s4.heap.get? D=some {cls:= .type "list",data:= .seq O.toArray no}:=(I4.pin (D,_) (fg _ (fg _ (dY ..)))).1;have Io:Inv X k m G s4:=I.call' (H':=G) (ch:=L) I4.os I4.base I4.hok I4.bare λb M=>by
    obtain⟨_,q1,_,q3,q4,q5⟩:=hf b M;exact⟨q3,q1,q4,q5⟩
   obtain⟨_,a1,_,a3,a4,a5⟩:=fD G ah;have Ia:=Io.adopt hz ai ah d4 (dL I.sz ()) a1 a4 a5;obtain⟨m4,aG,_⟩:=I4.loc;refine az D C s4 G ys m4 Ia ah (fC _ ?_) aG fin;rw[cK (fh ao)];exact I4.free
  .refine cT (T.item (lC X f j a C s H L) zZ zZ zZ hc i _ Y _ G (λ_ _=>False) al (ar Q ay) ax go) λr s4 ⟨u,hr,h4⟩=>?_;subst hr;refine cT h4 λ_ s5 ⟨x,H5,I5,r5,y5,as,aH⟩=>?_;have aI:=I5.pinned (ar Q aH) (T.obj _ _ as);refine cT (hg C s H L _ s5 _ H5 x u _ aI r5 (step x H5 y5)) λ_ s6 ⟨ag,H6,I6,k6,q6⟩=>?_;refine cT (ht C s H L _ s6 ag H6 _ I6 q6) λok s7 ⟨H7,I7,q7⟩=>?_;have am:(iJ f m).length=ag.length:=by rw[I1.len,I6.len]
   have pinned: ∀{H8:Hp} {s8:Sh},Inv (lC X f j a C s H L) (k++[(D,{cls:= .type "list",data:= .seq O.toArray no})]++v6 L s5.heap) ag H8 s8->
     tn (i+1) s8.heap/\(∀b∈L,H8 b=none)/\H8 D=none/\s8.heap.get? D=some {cls:= .type "list",data:= .seq O.toArray no}:=λ{H8 s8} I8=>by
    refine⟨T.keep _ _ _ as λb M o e=>(I8.pin (b,o) (fg _ (fg _ (vm M e)))).1,λb M=>?_,?_,?_⟩
    .obtain⟨o,e,d⟩:=T.obj _ _ as b M;exact(I8.pin (b,o) (fg _ (fg _ (vm M e)))).2.1
    .exact(I8.pin (D,_) (fg _ (ni _ (fg _ (dY ..))))).2.1
    .exact(I8.pin (D,_) (fg _ (ni _ (fg _ (dY ..))))).1
   cases ok with
   |false=>
    rw[wA (by decide)]at q7⊢;obtain⟨m',hm,w7⟩:=hN _ _ q7;obtain⟨a1,a2,a3,a4⟩:=pinned I7;exact⟨m',hm,i+1,ys,O,no,H7,(I7.unpinned.unpinned).weak am k6,a1,a2,a3,a4,ai,w7⟩
   | true=>
    rw[wB zZ]at q7⊢;refine cT (he C s H L _ s7 ag H7 _ I7 q7) λyv s8 ⟨y,H8,I8,r8,n8⟩=>?_;obtain⟨m',hm,w8⟩:=hN _ _ n8;obtain⟨a1,a2,a3,a4⟩:=pinned I8;have aJ:O.toArray.size<=sizeLine:=by
     have:=ai.length;rw[eM];lia
    refine wpAny_list_append_plain ⟨no,a4⟩ (λh' pl sb=>?_) aJ;obtain⟨aK,aL⟩:=pl;have I9:Inv (lC X f j a C s H L) k ag H8 {s8 with heap:=h'}:=(I8.unpinned.unpinned).turned (t':=s8.toks) (it:=D) (λb o M e=>(sb.2 b M).trans e) a3 ao (.inr (pq ae)) aq aB;refine⟨m',hm,i+1,ys++[y],O++[yv],aK,H8,I9.weak am k6,T.keep _ _ _ a1 λb M o e=>(sb.2 b (ap b M).1).trans e,a2,a3,?_,ai.append (.cons r8 .nil),w8⟩;rw[aL]
    simp
 exact codeAny_compStart_list (ak _ zZ) (T.self _ 0 _ _ _ (T.keep 0 _ _ st λb M o e=>old b o e) (ak _ zZ))
end
section
variable{X:Cx}{l:AO}{t:St}{H:Hp}{s:Sh}{d:Scope}{m i c:Expr}{f:List Expr}{pos:Pos}{g:TG}{u:TT}{w:TE}
theorem ID{b:Env}{x:Str}: ∀{a:List (Str×NameKind)},a.lookup x=some .cell->(a.map λ(n,k)=>if(k==NameKind.free&&b.scope.kind== .function&&b.kindOf n==some .cell)then(n,NameKind.cell)else(n,k)).lookup x=some .cell
 | [],h=>by simp at h
 | (n,k)::r,h=>by
  have j:=@ID b x r;rw[ki]at h;rw[iG];cases e:x==n with
  |true=>
   rw[e]at h;cases h;dsimp only;rw[wA (by simp),List.lookup_cons,e]
  | false=>
   rw[e]at h;dsimp only;split
   .rw[ki,e];exact j h
   .rw[ki,e];exact j h
def CompScope1.clos{a:Ss}{x:Str}(S:CompScope1 X a x d)(I:Inv X l t H s):closureFor d X.env=pure (hJ X.env d):=
 Gs λy b e=>I.ok.has y.1 (S.free y b e)
def Pw{N:TI}{q:Ss}{x:Str}{j:Nat}{y:Str}{n k:Pos}(S:CompScope1 X q x d)(Y:X.calm=true)(hN:X.N.Nodup)(hj:X.N[j]? =some y)(O:X.env.scope.names.lookup y=some .local)(hi:PI X m c N)(hg: ∀C s H p,PG (lC X q x d C s H p) m g)(ht: ∀C s H p,pT (lC X q x d C s H p) f u)
  (he: ∀C s H p,PE (lC X q x d C s H p) i w) (B:swapsWith (.ListComp i [⟨m,c,f,0⟩] d pos) (some (.Name y n)) k.line X.env=pure true:=by rfl) (hs: ∀x,foldedSetIterable c X.env x=pure x:=by intro _;rfl):
  PS X (.Assign [.Name y n] (.ListComp i [⟨m,c,f,0⟩] d pos) k) (oE (xg q N g u w) (iE j)):=by
 intro l s t H D I h;rw[exec_Assign_Name_used _ _ _ _ B];refine cB (vY (cB ?_));show wpAny _ X.A (do let _ <-comprehension (.ListComp i [⟨m,c,f,0⟩] d pos) d X.env _ (newList []) false (eval c X.env) (some (assign (.Name y n) X.env))) _ _ s;refine cB (iM (EY (use:=some (assign (.Name y n) X.env)) (Q:=λ_ r=>SP X l D .next r) zZ hs (S.clos I) S.kind S.locs ?_) (λ_ r hq=>cH (cH hq)) λ_ _ e=>e);refine cT (hi l s t H _ I h) λv s1 h1=>cT h1 λaa s2 h2=>?_;obtain⟨it,p,tn,J,H2,e,I2,T,E,f2,hW⟩:=h2;subst e;refine JU (RR:=λG C=>compPost (model X.prog X.w) X.A X.xe (some (assign (.Name y n) X.env)) (λ_ r=>SP X l D .next r) G C) S Y hg ht he I2 T E f2 hW λA C r H' ys m' I' hD fC ns fin=>?_;obtain⟨c0,U,c2,c3,c4,c5⟩:=fC;show wpAny _ X.A (assign (.Name y n) X.env (.ref A)) _ _ _;refine CS (CI (v:= .ref A) I' hN hj (.inl O) (show RelV (.ref A) (.ref A)from rfl) (λs3 I3 ⟨a,sb,ha⟩=>?_) (.inr O));have L:a≠C:=by
  rcases ha with z|z
  .rw[z];exact fh U
  .exact c4 y a z
 refine⟨m',ns.sameBut sb (fh L),λh' M=>⟨_,_,I3.turned (t':=s3.toks) (it:=C) (λb o hb e=>(M.2 b hb).trans e) c0 U c3 c4 c5,fin A hD⟩⟩
def NH{x y:Str}{p q e:Pos}{k:Nat}(S:CompScope1 X [x,y] y d)(h:X.calm=true)(a:d.names.lookup x=some .local):
  ∀C s H b,PG (lC X [x,y] y d C s H b) (.Tuple [.Name x p,.Name y q] k e) (oZ X.K 2 (i6 (iE 0) (i6 (iE 1) ub))):=λC s H b=>
 om h (iA (fb S.nd zZ (.inl (qk a)) (.inr (qk a))) (iA (fb S.nd zZ (.inr (ID S.look)) (.inl (show(y==y)=true by simp))) nO))
end
structure CompSc1(N:Ss)(osc:Scope)(vs:Ss)(x:Str)(sc:Scope):Prop where
 kind:sc.kind= .function
 one:(sc.names.filter λy=>y.2== .cell)=[(x,.cell)]
 look:sc.names.lookup x=some .cell
 locs: ∀y∈sc.names,y.2= .local->sc.names.lookup y.1=some .local
 own: ∀y∈N.map (iq vs),sc.names.lookup y≠some .local/\y≠x
 hid: ∀y∈vs,sc.names.lookup (vq y)=none
 nd:(vs++N.map (iq vs)).Nodup
 free: ∀y∈sc.names,y.2= .free->osc.names.lookup y.1=some .cell∨osc.names.lookup y.1=some .free
theorem HQ{x:Str}: ∀{l:List (Str×NameKind)},(l.filter λy=>y.2== .cell)=[(x,.cell)]-> ∃a b,l=a++(x,.cell)::b/\(∀y∈a,y.2≠ .cell)/\ ∀y∈b,y.2≠ .cell
 | [],h=>by cases h
 | y::l,h=>by
  rw[List.filter_cons]at h;by_cases c:(y.2==NameKind.cell)=true
  .rw[wB c]at h;injection h with d f
   refine⟨[],l,by rw[d];rfl,λ_ z=>(nomatch z),λz hz e=>?_⟩;have:=DD.mp f z hz
   exact this (by rw[e];rfl)
  .rw[wA c]at h;obtain⟨a,b,e,g,i⟩:=HQ h;refine⟨y::a,b,by rw[e];rfl,λz hz=>?_,i⟩
   rcases dZ.mp hz with rfl|hz
   .exact λe=>c (by rw[e];rfl)
   .exact g z hz
def CompSc1.to{X:Cx}{N:Ss}{osc:Scope}{vs:Ss}{x:Str}{a:Scope}(h:CompSc1 N osc vs x a)(b:X.N=N:=by rfl)(c:X.env.scope=osc:=by rfl):CompScope1 X vs x a:=by
 subst b c;exact⟨h.kind,HQ h.one,h.look,h.locs,h.own,h.hid,h.nd,h.free⟩
def La(a osc:Scope):Bool:=a.names.all λy=> !(y.2== .free) || (osc.names.lookup y.1==some .cell || osc.names.lookup y.1==some .free)
def CompSc.toN{X:Cx}{N:Ss}{vs:Ss}{a:Scope}(d:X.N=N)(k:a.kind= .function)(c: ∀y∈a.names,y.2≠ .cell)(l: ∀y∈a.names,y.2= .local->a.names.lookup y.1=some .local)(o: ∀y∈N.map (iq vs),a.names.lookup y≠some .local)
  (h: ∀y∈vs,a.names.lookup (vq y)=none) (nd:(vs++N.map (iq vs)).Nodup) (f:La a X.env.scope=true):CompScope X vs a:=by
 subst d;refine⟨k,c,l,o,h,nd,λy g e=>?_⟩;have z:=sf.mp f y g;rw[e]at z;have b:(X.env.scope.names.lookup y.1==some .cell || X.env.scope.names.lookup y.1==some .free)=true:=by simpa using z
 rw[Bool.or_eq_true]at b;exact b.imp (λq=>eq_of_beq q) (λq=>eq_of_beq q)
def JB{K:Q5}{X:Cx}{a l:Expr}{tl:TE}(b:PE X l tl)(c:X.K=K):PI X a l (wU K tl):=by
 subst c;exact ua b
open PySem PySem.Spec PySem.W PyProof.Rows
section
variable{X:Cx}
inductive jr(e:List V)(H:Hp)(Q:VK):Prop|mk:∀d a b,e=[V.ref d]->H d=some (.dT a)->a.map (·.1)=b.map nk->(∀t∈b,t≠[])->b.length<=4000->(∀D bs c,H D=none->TupsAt H bs c->c.Perm b->c.Pairwise (λx y=>eR x y=true)->Q (.ref D) (cA H D (.lst (bs.map V.ref))))->jr e H Q
def O'(hc:X.calm=true):kg X (.builtin "sorted") jr:=by
 intro G s J H xs us Q I rr h;obtain⟨d,ae,g,rfl,hd,e,ne,few,q⟩:=h;obtain⟨u,rfl,ru⟩:=j3 rr;cases ru;obtain⟨n,es,ep,L,nm,f,is,le,nd,M⟩:=HM I hd e;refine D3 kind_sorted plain_sorted entry_sorted (args_sorted1 _) ?_;unfold Builtin.«sorted»;refine cB (m:=checkCount "sorted" 1 1 _) (cH ?_);refine cB (kdu_collect (A:=X.A.in1) (yw nm) (by simpa using I.ok.hd hc) L (by rw[sizeLine_eq];lia) λl y af keep it=>?_);have N:=F7 is (by rw[f.len,le]) it;rw[N];have D:(n.map Value.ref).length=g.length:=by rw[cC,f.len]
 refine cB (y7 ?_ (by rw[D,dz];lia));have T:=Kd g;have inj:=Ir (d:=([]:cz)) T nd;have O:=Oq f nd;have eD:(l.push (seqObj "list" (n.map Value.ref).toArray 0)).get? l.objs.size=some (seqObj "list" (n.map Value.ref).toArray 0):=fj _ rfl;have B: ∀{b:Ad} {o:Obj},s.heap.get? b=some o->b≠l.objs.size:=λz=>d9 (dq (keep _ _ z));refine cB (hG (kv slot_list_sort ⟨_,eD,zZ⟩ C9 (JW (s:={s with heap:=l.push (seqObj "list" (n.map Value.ref).toArray 0),toks:=y}) (k:=λi=>lR eR g (g.getD i [])) eD (by rw[D];exact few) O (λi j hi hj z=>inj i j () () z) (λE U h2=>?_) λp E c r up e U=>⟨_,zZ,?_⟩) (args_list_sort _)))
 .have Y:Inv X G J H {s with heap:=E,toks:=y}:=I.kept λb o z=>U b o (B z) (dM _ (keep b o z));have z:=JM (P:=X.prog) (w:=X.w) (A:=X.A.in1.in1) (s:={s with heap:=E,toks:=y}) D () (λi v t e1 e2=>by
   rw[cV]at e1;obtain⟨a,N,rfl⟩:=eU.mp e1;exact⟨yy Y.hok (f.is i a t N e2),ne t (cY e2)⟩)
  refine iM z (λκ s' hk=>⟨hk.1,λi j C li lj hC=>hk.2 i j C li lj ?_⟩) λ_ _ x=>x;have e:=T.asks (pI (d:=([]:cz)) (show i<g.length by lia)).2 (pI (d:=([]:cz)) (show j<g.length by lia)).2;show C (eR (g.getD i []) (g.getD j [])) _;rw[<-e];exact hC
 .rw[D]at r up;have Y:Inv X G J H {s with heap:=E,toks:=y}:=I.kept λb o z=>U b o (B z) (dM _ (keep b o z));have I0:Inv X G J H {s with heap:=l,toks:=y}:=I.kept keep;have hD:H l.objs.size=none:=I0.hok.fresh (cO _);have aa:=f.pick r;obtain⟨f0,f1,f2,f3,f4,f5⟩:=I0.fpOk (b:=l.objs.size) (H':=H) (cO _) hD;have ab:Arr n.length p:=by rw[f.len];exact r
  rw[Iv ab]at e;have fw:((p.toList.map λi=>n.getD i 0).map V.ref).length<=sizeLine:=by
   rw[cC,cC,eO,r.size];exact M
  exact cH ⟨_,zZ,.ref l.objs.size,_,Y.track (o:= .lst ((p.toList.map λi=>n.getD i 0).map V.ref)) hD ⟨fw,_,c,DW _,e⟩ I0.sz f1 f4 f5,zZ,q _ _ _ hD aa (F3 r) (Fx T r up)⟩
end
def OD(l:Ad)(a:AV)(n:Nat)(v:Option Ad)(sl:Array (Option Vl))(x:Vl)(e:Vl->Bool)(j:Nat)(M:j<a.size)(p:e a[j]=true)(q: ∀m (N:m<a.size),m<j->e a[m]=false):
  Meets (Builtin.«tuple.index» ⟨[.ref l,x],[]⟩)
   (λA R s=>s.heap.get? l=some {cls:= .type "tuple",dict:=v,data:= .seq a n,slots:=sl}/\(∀y,y∈a->SeqAt.EqAt A.in1 s y x (e y))/\R (.ok (.ret (.int j s.toks))) {s with toks:=s.toks+1}):=
 .of_wp λf w A R s h=>by
  obtain⟨B,g,d,C,os⟩:=s;obtain⟨D,E,h⟩:=h;unfold Builtin.«tuple.index»;simp only[Std.Legacy.Range.forIn_eq_forIn_range'];have G: ∀k:Nat,([:k]:Std.Legacy.Range).size=k:=λk=>by simp[Std.Legacy.Range.size]
  wp_walk using ow D,C1 _ (λrest b r=>r=⟨B,g,d,C,os⟩/\b=(none,Unit.unit)/\ ∃i,i<=j/\rest=List.range' i (a.size-i)) _
  case h=>exact⟨zZ,zZ,0,jj _,by rw[G,Ay];rfl⟩
  case turn=>
   rintro i rest b r ⟨rfl,rfl,u,H,o⟩;have I:a.size-u=(a.size-(u+1))+1:=by lia
   rw[I,List.range'_succ]at o;injection o with J L
   subst J;have t:i<a.size:=by lia
   rw[mJ t];refine cB (E _ (Array.getElem_mem t) f w _ _ ?_);by_cases c:i=j
   .subst c;rw[p];exact cB (cB (wpAny_mkInt (cH (cH (cH ⟨_,zZ,h⟩)))))
   .rw[q i t ()];exact cH ⟨zZ,zZ,i+1,(),L⟩
  case fin=>
   rintro b r ⟨rfl,rfl,i,H,o⟩;have z:=dN List.length o;rw[List.length_range']at z;simp at z;lia
section
variable{X:Cx}
inductive mH(K:Q5)(x:V)(b:List V)(H:Hp)(Q:VK):Prop|mk:∀(l:Ad) (a:Zs) (i:Int),x= .ref l->b=[.int i]->SqT K H l (a.map V.int)->i∈a->Q (.int (a.idxOf i:Nat)) H->mH K x b H Q
def Hf:uj X "tuple.index" (mH X.K):=by
 intro E s G H x J v L Q I j m h;obtain⟨l,b,i,rfl,rfl,o,p,q⟩:=h;cases j;obtain⟨u,rfl,t,rfl⟩:=m.one;obtain⟨a,r,w,M⟩:=I.tuple o;obtain⟨⟨N,z,O,A⟩,e,f,n,g⟩:=w;simp only at f g;subst f g;have c:IntsAre a b:=KO r;have T:=c.length;have B:b.idxOf i<b.length:=uz.mpr p;refine oo F.slot_tuple_index ⟨_,e,zZ⟩ F.entry_tuple_index (F.args_tuple_index_2 _ _) (OD l a.toArray n z A (.int i t) (isInt i) (b.idxOf i) (by simp only[List.size_toArray];lia) ?_ ?_)
  ⟨e,λy C=>(eq_isInt i t c y (by simpa using C)).at _ _,⟨.int (b.idxOf i:Nat),H,I.tok _,⟨_,zZ⟩,q⟩⟩
 .show isInt i a[b.idxOf i]=true;rw[isInt_at i c _ () B];simp
 .intro k D d;show isInt i a[k]=false;rw[isInt_at i c _ () ()];exact ne_of_lt_idxOf d _
end
def D0(r:V->List V->Hp->VK->Prop)(to:TE)(t:TA):TE:=λa H Q=>to a H λx b=>(∃p c,x= .ref p/\b p=some (.tup c))/\t a b λd e=>r x d e Q
def Ix{X:Cx}{o e:Expr}{c:List Expr}{to:TE}{t:TA}{name:Str}{d b:Pos}{id:String}{r:V->List V->Hp->VK->Prop}(i:Slot "tuple" name id)(k:typeOf (.builtin id)=pure (.type "method_descriptor"))(A:uj X id r)(B:PE X o to)(C:PA X (e::c) t)
  (f:attributeBase o name X.env (eval o X.env)=eval o X.env:=by rfl)
  (j:((backTo b (starEach (e::c) X.env)).all (λx=> !x.1)&&(backToKw b (keywordEach [] X.env)).all (λx=>x.1.isSome)&&decide ((e::c).length+([]:List Keyword).length+(if([]:List Keyword).isEmpty then 0 else 1)<30))=true:=by rfl)
  (g:(d.endLine==b.line)=true:=by rfl) (D:starEach (e::c) X.env=(false,eval e X.env)::starEach c X.env:=by rfl) (E:(backTo b (starEach c X.env)).any (·.1)=false:=by rfl):
  PE X (.Call (.Attribute o name d) (e::c) [] b) (D0 r to t):=by
 intro l s m H Q I h;refine wpAny_Call_method_late f j g zZ (cT (B l s m H _ I h) λv n ⟨x,q,u,G,⟨p,J,L,M⟩,N⟩=>?_);subst L;cases(show v=Value.ref p from G);obtain⟨_,_,_,w,y,O,_,_,T⟩:=(show ObjOk X.prog X.w q n.heap p (.tup J)from u.hok p _ M);refine⟨"tuple",id,F.plainAttrs_tuple,i,k,⟨w,y,O⟩,λa U=>?_,?_⟩
 .cases U;exact⟨w,y,T⟩
 have z:=C b l n m q _ u N;rw[D]at z⊢;refine EH (show(false || (backTo b (starEach c X.env)).any λx=>x.1)=false by rw[E];rfl) (Calls.evalArgs_plain ?_);exact cT z λY s2 ⟨vs,H2,I2,r2,q2⟩=>A l s2 m H2 (.ref p) vs (.ref p) Y Q I2 zZ r2 q2
end L2
namespace L2
open PySem PySem.Spec PyProof.Rows
def NoAs(K:Q5)(C:Ad):Ss->Prop
 | []=>True
 |f::fs=>PySem.W.findIn K (.ref C) f=some none/\NoAs K C fs
structure OwnC(K:Q5)(C:Ad)(fs:Ss):Prop where
 cl:Cls K C
 na:NoAs K C fs
theorem NoAs.get{K:Q5}{C:Ad}{f:Str}: ∀{fs:Ss},NoAs K C fs->f∈fs->NoAttr K C f
 | [],_,h=>nomatch h
 | g::fs,n,h=>by
  rcases dZ.mp h with e|e
  .subst e;exact n.1
  .exact NoAs.get n.2 e
def OwnC.no{K:Q5}{C:Ad}{fs:Ss}(o:OwnC K C fs){f:Str}(h:fs.contains f=true:=by rfl):NoAttr K C f:=o.na.get (gV.mp h)
def NoAs.nil{K:Q5}{C:Ad}:NoAs K C []:=True.intro
def NoAs.cons{K:Q5}{C:Ad}{f:Str}{fs:Ss}(h:PySem.W.findIn K (.ref C) f=some none)(n:NoAs K C fs):NoAs K C (f::fs):=⟨h,n⟩
abbrev mO(K:Q5)(C:Ad)(m q:Str)(st:Stmt)(f:Ad)(a:Fd):Prop:=PySem.W.findIn K (.ref C) m=some (some (.ref f))/\PySem.W.isFn K (.ref f)=true/\Fun K m q st f a
def gq(P:Pg)(w:World)(K:Q5)(mg:SV)(a:Heap)(C:Ad)(m:Str)(k:Nat)(b:Ss)(d:Sp):Prop:=
 ∃f c,FnOk P w K mg a de k f c b d/\Meth K C m f/\Binds K c b []
def yo(P:Pg)(w:World)(K:Q5)(mg:SV)(a:Heap)(x:Str)(C:Ad)(k:Nat)(b:Ss)(d:Sp):Prop:=
 ∃f c,FnOk P w K mg a de k f c b d/\Mk K C f/\mg x=some (.ref C)/\Binds K c b []
def mM{X:Cx}{o e:Expr}{d:List Expr}{i:TE}{t:TA}{C:Ad}{m:Str}{k:Nat}{n:Ss}{j:Sp}{a pos:Pos}{p:Sem Bool}(q:PE X o i)(c:Cls X.K C)(r:gq X.prog X.w X.K X.mg X.base C m k n j)(s:Room k X.A)(u:PA X (e::d) t)
  (g:starEach (e::d) X.env=(false,eval e X.env)::starEach d X.env:=by rfl) (h:(backTo pos (starEach d X.env)).any (·.1)=false:=by rfl)
  (ht:eval (.Call (.Attribute o m a) (e::d) [] pos) X.env=(do
   let l <-eval o X.env
   standAt a.atName
   let(f,first) <-holding [l] (getMethod l m p)
   callWith pos f first (backTo pos (starEach (e::d) X.env)) (backToKw pos (keywordEach [] X.env))):=by rfl):
  PE X (.Call (.Attribute o m a) (e::d) [] pos) (zx C m j [] E0 i t):=by
 obtain⟨f,v,F,M,b⟩:=r;exact OJ q c M F s b .nil xN u g h ht
def xC{X:Cx}{o:Expr}{d:TE}{C:Ad}{m:Str}{k:Nat}{h:Ss}{e:Sp}{a pos:Pos}{i:Sem Bool}(j:PE X o d)(c:Cls X.K C)(l:gq X.prog X.w X.K X.mg X.base C m k h e)(n:Room k X.A)
  (ht:eval (.Call (.Attribute o m a) [] [] pos) X.env=(do
   let g <-eval o X.env
   standAt a.atName
   let(f,first) <-holding [g] (getMethod g m i)
   callWith pos f first (backTo pos (starEach [] X.env)) (backToKw pos (keywordEach [] X.env))):=by rfl):
  PE X (.Call (.Attribute o m a) [] [] pos) (zx C m e [] E0 d lZ):=by
 obtain⟨f,p,F,M,b⟩:=l;exact K8 j c M F n b .nil xN ht
def G2{X:Cx}{x:Str}{e:Expr}{a:List Expr}{t:TA}{C:Ad}{k:Nat}{g:Ss}{d:Sp}{p pos:Pos}(c:yo X.prog X.w X.K X.mg X.base x C k g d)(h:Room (k+1) X.A)(i:Gl X x)(j:PA X (e::a) t)
  (l:(x==("__debug__":Str))=false:=by decide) (n:starEach (e::a) X.env=(false,eval e X.env)::starEach a X.env:=by rfl) (o:(backTo pos (starEach a X.env)).any (·.1)=false:=by rfl):
  PE X (.Call (.Name x p) (e::a) [] pos) (Gi C d [] E0 t):=by
 obtain⟨f,q,F,M,m,b⟩:=c;exact PF M F h i m b .nil xN j l n o
section
variable{X:Cx}
theorem F0: ∀{bs:List Bool} {a:Vs},Vals (bs.map V.bl) a->a=bs.map Value.bool
 | [],_,h=>by cases h;rfl
 | b::bs,_,h=>by
  cases h with
  |cons r t=>
   obtain rfl:=r;rw[F0 t];rfl
def Eg:Vl->Bool
 | .bool b=>b
 |_=>false
inductive mB(K:Q5)(x:V)(a:List V)(H:Hp)(Q:VK):Prop|mk:∀(l:Ad) (bs:List Bool),x= .ref l->a=[.bl true]->SqL K H l (bs.map V.bl)->true∈bs->Q (.int (bs.idxOf true:Nat)) H->mB K x a H Q
def Lu:uj X "list.index" (mB X.K):=by
 intro L s M H x N v O Q I j m h;obtain⟨l,bs,rfl,rfl,o,t,q⟩:=h;cases j;obtain⟨u,rfl,w⟩:=m.one;obtain rfl:u=Value.bool true:=w;obtain⟨B,r,⟨⟨T,U,Y,C⟩,n,e,c,d,f⟩,D⟩:=I.list o;simp only at c d f;subst c d f;have E:=F0 r;subst E;have g:bs.idxOf true<bs.length:=uz.mpr t;rw[cC,dz]at D;refine oo F.slot_list_index ⟨_,e,zZ⟩ F.entry_list_index (F.args_list_index_2 _ _) (SeqAt.list_indexAt l (bs.map Value.bool).toArray n none C (.bool true) Eg (bs.idxOf true) (by simp only[List.size_toArray,List.length_map];exact g) () ?_ ?_)
  ⟨e,λy G=>?_,⟨.int (bs.idxOf true:Nat),H,I.tok _,⟨_,zZ⟩,q⟩⟩
 .simp[Eg,List.getElem_idxOf g]
 .intro k J a;have hk:k<bs.length:=by lia
  have z:bs[k]≠true:=λe=>by
   have y:=CB (p:=(· ==true)) (xs:=bs) (i:=k) a;rw[e]at y;cases y
  simp only[List.getElem_toArray,List.getElem_map];exact qd.mpr z
 .obtain⟨b,_,rfl⟩:=dh.mp (show y∈bs.map Value.bool by simpa using G);have z:=SeqAt.EqAt.bool_bool (A:=X.A.in1) (s:=s) b true;rw[show(b==true)=Eg (.bool b) by cases b<;>rfl]at z;exact z
end
section
variable{K:Q5}{H:Hp}{a:St}{c:Ss}{g:TG}{d:TT}{f:TE}{Fin:List V->Hp->Prop}{l:Ad}{xs:List V}
def Lm(Pv:Nat->List V->Hp->Prop)(D:xs.length<=sizeLine)(o:Pv 0 [] H)(r: ∀i h H,i<=xs.length->Pv i h H->SqL K H l xs/\h.length<=i)
  (s: ∀i T x h H,xs[i]? =some x->H T=none->Pv i h H->g (.ref T) (iJ c a) (cA H T (.tup [.int (i:Nat),x])) λj t=>rm (iJ c a) j/\d j t λb n=>if b=true then f j n λy u=>Pv (i+1) (h++[y]) u else Pv (i+1) h n)
  (w: ∀h H,Pv xs.length h H->Fin h H):nQ c g d f a (vr K l) H Fin:=by
 refine⟨λi m h H=>m=xs.length-i/\i<=xs.length/\Pv i h H,⟨xs.length,by simp,Nat.zero_le _,o⟩,?_⟩;rintro i m h H ⟨rfl,z,p⟩;obtain⟨q,E⟩:=r i h H z p;by_cases k:i<xs.length
 .refine .inr ⟨⟨xs,xs[i],q,by simp[k]⟩,(),Pv (i+1),λG A B=>⟨xs.length-(i+1),Nat.sub_succ_lt_self _ _ k,zZ,k,B⟩,λv A y=>?_⟩;obtain⟨T,x,rfl,C,rfl,y⟩:=y;exact s i T x h _ (y xs q) C p
 .have e:i=xs.length:=by lia
  subst e;exact .inl ⟨⟨xs,q,cO _⟩,(),w h H p⟩
end
section
variable{X:Cx}{pos:Pos}
def xk{d:Pg}{w:World}{A:Ar}{E:VP}{a l:Ad}{u v:Vl}{s:Sh}{Q:Vs->Sh->Prop}(n:l≠a)(p:s.heap.IsListIter a l 0)(f:s.heap.IsList l #[u,v])
  (k: ∀c,c.IsListIter a l 2->c.IsList l #[u,v]->(∀b o,b≠a->s.heap.get? b=some o->c.get? b=some o)->Q [u,v] {s with heap:=c}):wpAny (model d w) A (draw (.ref a) 2) Q E s:=by
 have go: ∀{g i:Heap},g.IsList l #[u,v]->Heap.SameBut a g i->i.IsList l #[u,v]:=λ⟨o,e,r⟩ q=>⟨o,(q.2 l n).trans e,r⟩;refine cB (Ba p f (x:=u) zZ λz t h=>cB (hG ?_));refine cB (Ba t (go f h) (x:=v) zZ λc y j=>cB (hG (cH (cH (cH ?_)))));exact k c y (go (go f h) j) λb o m e=>(j.2 b m).trans ((h.2 b m).trans e)
inductive qf(K:Q5)(t:ro)(v:V)(b:St)(H:Hp)(Q:St->Hp->Prop):Prop|mk:∀a x y,v= .ref a->SqL K H a [x,y]->t [x,y] b H Q->qf K t v b H Q
def J8{f:List Expr}{k:Nat}{t:ro}(A:X.calm=true)(h:w9 X f t)(B:(assignEach f X.env).length=2:=by rfl)(i:(assignEach f X.env).findIdx? (·.1)=none:=by rfl):PG X (.Tuple f k pos) (qf X.K t):=by
 intro n s w H v u Q I r hw;obtain⟨a,x,y,C,D,hw⟩:=hw;subst C;cases r;obtain⟨j,E,p,Y⟩:=I.list D;obtain⟨c,d,rfl,l,m⟩: ∃c d,j=[c,d]/\RelV x c/\RelV y d:=by
  cases E with
  | cons l t=>cases t with
   |cons m t=>cases t with
    |nil=>exact⟨_,_,zZ,l,m⟩
 have g:s.heap.IsList a #[c,d]:=p.isList;have lt:a≠s.heap.objs.size:=by obtain⟨o,G,_⟩:=g;exact d9 (dq G)
 rw[assign_Tuple];refine cB (vY ?_);unfold unpack;rw[B,i];refine cB (hG ?_);unfold unpackItems notIterableAtAll;refine cB (cB (E1 g.typeIs slot_list_iter.lookup (cH ?_)));rw[wA (by simp)];refine cB (hG (wW g ?_));have J:(s.heap.push {cls:= .type "list_iterator",data:= .fields #[.ref a,.int 0 0]}).IsList a #[c,d]:=by obtain⟨o,e,q⟩:=g;exact⟨o,dM _ e,q⟩
 refine cB (hG (xk lt ⟨_,fj _ zZ,zZ,zZ⟩ J λh2 L M N=>?_));rw[wA (by simp)];refine cB (hG (EO (I.ok.hd A) L M zZ λO T=>?_));rw[wA (by simp)];refine cH ?_;have U:Inv X n w H {s with heap:=O}:=I.kept (t':=s.toks) λb o e=>by
  have z:b≠s.heap.objs.size:=d9 (dq e);exact T b o z (N b o z (dM _ e))
 exact h n _ w H [x,y] _ Q U (.cons l (.cons m .nil)) hw
end
section
variable{X:Cx}
inductive xa(K:Q5)(x y:V)(H:Hp)(Q:VK):Prop|mk:∀(a b:Ad) (c:List V),x= .ref a->y= .ref b->SqL K H a c->SqL K H b []->Q (.bl c.isEmpty) H->xa K x y H Q
def MB(r:X.A.units+64<cLine):OpR X (compareOp .Eq) (xa X.K):=by
 intro t s w H x y v u Q I k l h;obtain⟨a,b,m,rfl,rfl,n,o,q⟩:=h;cases m with
 |nil=>exact tD r t s w H _ _ _ _ Q I k l ⟨a,b,0,.lst [],.lst [],zZ,zZ,.lst n zZ (λi d v e=>nomatch e),.lst o zZ (λi d v e=>nomatch e),by decide,λc A=>by cases A.mpr rfl;exact q⟩
 | cons x m=>
  cases k;cases l;obtain⟨g,B,p,_⟩:=I.list n;obtain⟨f,j,C,_⟩:=I.list o;have D:(g.toArray.size != f.toArray.size)=true:=by
   rw[bne_iff_ne,eM,eM,<-B.length,<-j.length];exact λz=>nomatch z
  exact SeqAt.RcAt.lists_lengths p.isList C.isList D () _ _ _ _ ⟨.bl false,H,I,zZ,q⟩
end
end L2
namespace My
open PySem L2 PyProof.Rows
abbrev sA:Str:="machine"
abbrev sB:Str:="rooms"
abbrev sC:Str:="self"
abbrev sD:Str:="_law_machine_here"
abbrev sE:Str:="sets_reached.<locals>.<lambda>"
abbrev sF:Str:="level_group.<locals>.<lambda>"
abbrev sG:Str:="_law_plan_here"
abbrev sH:Str:="_law_script"
abbrev sI:Str:="group"
abbrev sJ:Str:="tiles"
abbrev sK:Str:="letter"
abbrev sL:Str:="level"
abbrev sM:Str:="_law_row_here"
abbrev sN:Str:="_law_step"
abbrev sO:Str:="_law_letter"
abbrev sP:Str:="_law_found"
abbrev sQ:Str:="tile_count"
abbrev sR:Str:="_law_pair"
abbrev sS:Str:="turns"
abbrev sT:Str:="words"
abbrev sU:Str:="sets_reached"
abbrev sV:Str:="level_group"
abbrev sW:Str:="turning"
abbrev sX:Str:="sets"
abbrev sY:Str:="_law_rooms"
abbrev sZ:Str:="here"
abbrev tE:Str:="deed"
abbrev tG:Str:="other"
abbrev tH:Str:="_law_cell"
abbrev tI:Str:="_law_here"
abbrev tJ:Str:="waiting"
abbrev tK:Str:="reached"
abbrev tL:Str:="_law_k"
abbrev tM:Str:="_law_there"
abbrev tN:Str:="word"
abbrev tO:Str:="_law_goes"
abbrev tQ:Str:="_law_cell_at"
abbrev tR:Str:="tiles_turned"
abbrev tS:Str:="_law_one"
abbrev tT:Str:="_law_some"
abbrev tV:Str:="steps"
abbrev tW:Str:="part"
abbrev tX:Str:="turn"
abbrev tY:Str:="carried"
abbrev tZ:Str:="all_tiles_turned"
abbrev uE:Str:="one"
abbrev uF:Str:="tiles_of_set"
abbrev uG:Str:="levels_in_order"
abbrev uH:Str:="step"
abbrev uI:Str:="pair"
abbrev uJ:Str:="sets_of_levels"
abbrev uK:Str:="there"
abbrev uL:Str:="pairs"
abbrev uM:Str:="room"
abbrev uN:Str:="bringing"
abbrev uO:Str:="words_between"
abbrev uP:Str:="is_turning"
abbrev uQ:Str:="_law_parts"
abbrev uR:Str:="within"
abbrev uS:Str:="makers"
abbrev uT:Str:="_law_machine"
abbrev uV:Str:="_law_carried"
abbrev uW:Str:="_law_brought"
abbrev uX:Str:="most"
abbrev uY:Str:="lies_in"
abbrev uZ:Str:="_law_number"
abbrev vA:Str:="refuse_more"
abbrev vB:Str:="_law_is_row"
abbrev vC:Str:="pair_behind"
abbrev vD:Str:="_law_turned"
abbrev vE:Str:="ahead"
abbrev vF:Str:="bring"
abbrev vG:Str:="_law_level"
abbrev vH:Str:="_law_first"
abbrev vI:Str:="behind"
abbrev vJ:Str:="is_covered"
abbrev vK:Str:="alike_sets"
abbrev vL:Str:="_law_whole"
abbrev vM:Str:="_law_below"
abbrev vN:Str:="_law_pairs"
abbrev vO:Str:="least_tile"
abbrev vP:Str:="_law_moved"
abbrev vQ:Str:="_law_right"
def top(i:Nat):Stmt:=PySem.Challenge.pw_cascade_k54_moves_of_parts.main.body.getD i (.Pass ⟨0,0,0,0⟩)
abbrev xB:Stmt:=top 0
abbrev ss:Stmt:=top 5
abbrev EC:Stmt:=top 7
abbrev pC:Stmt:=top 8
abbrev Cr:Stmt:=top 10
abbrev DO:Stmt:=top 11
abbrev Bl:Stmt:=top 12
abbrev AJ:Stmt:=top 13
abbrev oz:Stmt:=top 14
abbrev Do:Stmt:=top 16
abbrev BF:Stmt:=top 17
abbrev Cp:Stmt:=top 19
abbrev vz:Stmt:=top 20
abbrev BE:Stmt:=top 21
abbrev xp:Stmt:=top 22
abbrev CP:Stmt:=top 24
abbrev Bw:Stmt:=top 25
abbrev Dk:Stmt:=top 26
abbrev Bk:Stmt:=top 27
abbrev wY:Stmt:=top 28
abbrev Av:Stmt:=top 29
abbrev Cv:Stmt:=top 30
abbrev AK:Stmt:=top 31
abbrev Az:Stmt:=top 33
abbrev Dx:Stmt:=top 34
abbrev oC:Stmt:=top 35
abbrev Du:Stmt:=top 40
abbrev C4:Stmt:=top 41
abbrev zM:Stmt:=top 42
abbrev CO:Stmt:=top 43
abbrev zS:Stmt:=top 44
abbrev z6:Stmt:=top 45
abbrev DS:Stmt:=top 46
abbrev EB:Stmt:=top 47
abbrev BU:Stmt:=top 48
abbrev EN:Stmt:=top 49
abbrev AE:Stmt:=top 50
abbrev Bn:Stmt:=top 51
abbrev zr:Stmt:=top 52
abbrev C5:Stmt:=top 53
abbrev Ek:Stmt:=top 54
abbrev sk:Stmt:=top 55
def mV:Stmt->List Stmt
 | .ClassDef _ _ _ b _ _ _ _ _ _ _=>b
 |_=>[]
abbrev BI:Stmt:=(mV (top 37)).getD 0 (.Pass ⟨0,0,0,0⟩)
abbrev CT:Stmt:=(mV (top 37)).getD 1 (.Pass ⟨0,0,0,0⟩)
abbrev B8:Stmt:=(mV (top 37)).getD 2 (.Pass ⟨0,0,0,0⟩)
abbrev zF:Stmt:=(mV (top 37)).getD 3 (.Pass ⟨0,0,0,0⟩)
abbrev Er:Stmt:=(mV (top 37)).getD 4 (.Pass ⟨0,0,0,0⟩)
abbrev CU:Stmt:=(mV (top 37)).getD 5 (.Pass ⟨0,0,0,0⟩)
abbrev D5:Stmt:=(mV (top 37)).getD 6 (.Pass ⟨0,0,0,0⟩)
abbrev Cn:Stmt:=(mV (top 37)).getD 7 (.Pass ⟨0,0,0,0⟩)
abbrev BN:Stmt:=(mV (top 38)).getD 0 (.Pass ⟨0,0,0,0⟩)
abbrev E4:Stmt:=(mV (top 38)).getD 1 (.Pass ⟨0,0,0,0⟩)
abbrev Di:Stmt:=(mV (top 38)).getD 2 (.Pass ⟨0,0,0,0⟩)
abbrev C2:Stmt:=(mV (top 38)).getD 5 (.Pass ⟨0,0,0,0⟩)
abbrev zq:Stmt:=(mV (top 38)).getD 7 (.Pass ⟨0,0,0,0⟩)
def rZ:FnScope [sA,uM,tN,sK] [sA,uM,tN] (cZ ss):={}
def Nx:FnScope ["things",uX] ["things",uX] (cZ EC):={}
def kG:FnScope ["start","letters",uH,uX,sT,"wave","following","thing",sK,"found"] ["start","letters",uH,uX] (cZ pC):={}
def Lg:FnScope [sB] [sB] (cZ Cr):={}
def rK:FnScope [sX,"once",sB] [sX] (cZ DO):={}
def No:FnScope [uE,tG] [uE,tG] (cZ Bl):={}
def Mn:FnScope [sA,sB,tN] [sA,sB,tN] (cZ AJ):={}
def Lz:FnScope [sA,sB] [sA,sB] (cZ oz):={}
def Mj:FnScope [sB] [sB] (cZ Do):={}
def Ma:FnScope [uE,tG] [uE,tG] (cZ BF):={}
def rO:FnScope [sA,sT] [sA] (cZ Cp):={}
def rW:FnScope [sA,"singles"] [sA] (cZ vz):={}
def Jg:FnScope [tW,sX] [tW,sX] (cZ BE):={}
def rY:FnScope [sA,sB,uR] [sA,sB] (cZ xp):={}
def qA:FnScope [sA,sT,sB] [sA] (cZ CP):={}
def Nn:FnScope [sT,sB] [sT,sB] (cZ Bw):={}
def kI:FnScope [sT,"found",sB,sX] [sT] (cZ Dk):={}
def N6:FnScope [sT,sX,tJ] [sT,sX,tJ] (cZ Bk):={}
def kC:FnScope [sT,tJ,"told","free"] [sT,tJ] (cZ wY):={}
def qI:FnScope [sA,sT,"told",sX,"face","ways"] [sA] (cZ Av):={}
def MP:FnScope [sA,sL,"k","j"] [sA,sL,"k","j"] (cZ Cv):={}
def Ln:FnScope [sA,sL,"k"] [sA,sL,"k"] (cZ AK):={}
def qF:FnScope [sA,sL,"k",sK,uK,"ends"] [sA,sL,"k",sK] (cZ Az):={}
def jR:FnScope [sA,sL,"found","k",sK,tX] [sA,sL] (cZ Dx):={}
def rH:FnScope [sA,sL,uS] [sA,sL] (cZ oC):={}
def NJ:FnScope [sH,tL] [sH,tL] (cZ Du):={}
def kH:FnScope [tH,sY,uZ,"_law_turn_here",tL,"_law_other","_law_kept"] [tH,sY] (cZ C4):={}
def qL:FnScope [sH,sY,"_law_many"] [sH] (cZ zM):={}
def Ps:FnScope [sP] [sP] (cZ CO):={}
def Kp:FnScope [sP] [sP] (cZ zS):={}
def kY:FnScope [sD,sP,vG,"_law_tiled",tL,tS] [sD] (cZ z6):={}
def qM:FnScope [sG,sP,uZ,sN] [sG] (cZ DS):={}
def qY:FnScope [sG,sH,vH,sP,"_law_word",uZ,"_law_many"] [sG,sH,vH] (cZ EB):={}
def kL:FnScope [sG,sM,sP,tT,sN,"_law_turning"] [sG,sM] (cZ BU):={}
def N4:FnScope [sN,tI,sR] [sN,tI,sR] (cZ EN):={}
def OB:FnScope [sD,sY,sO] [sD,sY,sO] (cZ AE):={}
def kR:FnScope [sN,sR,tI,sO,sD,vG,"_law_turn_here","_law_new"] [sN,sR,tI,sO] (cZ Bn):={}
def rJ:FnScope [sN,sR,tM,tO,"_law_fit"] [sN,sR,tM,tO] (cZ zr):={}
def jM:FnScope [sD,sG,sM,sO,tI,tM,sP,sN,sR,tO,"_law_new"] [sD,sG,sM,sO] (cZ C5):={}
def kM:FnScope [sD,sG,tT,tH,sM,"_law_parts_here","_law_n",sO,sP,"_law_room"] [sD,sG,tT,tH,sM] (cZ Ek):={}
def rP:FnScope [sH,sD,sG,tT,tL,tH,sM] [sH] (cZ sk):={}
def kN:FnScope [sC,sA,sL,"k",sB] [sC,sA,sL] (cZ BI):={}
def Ny:FnScope [sC] [sC] (cZ CT):={}
def Ke:FnScope [sC,sZ,uI] [sC,sZ,uI] (cZ B8):={}
def Mx:FnScope [sC,sZ,sB] [sC,sZ,sB] (cZ zF):={}
def kE:FnScope [sC,sZ,uK,sK,"still_turn","end"] [sC,sZ,uK,sK] (cZ Er):={}
def JE:FnScope [sC,tE,sW] [sC,tE,sW] (cZ CU):={}
def Pc:FnScope [sC,tE,sW,uN] [sC,tE,sW,uN] (cZ D5):={}
def Pa:FnScope [sC,tE,uI] [sC,tE,uI] (cZ Cn):={}
def NV:FnScope [sC,sA] [sC,sA] (cZ BN):={}
def qN:FnScope [sC,"found","number",uH] [sC] (cZ E4):={}
def jU:FnScope [sC,"row",uL,"place",uH,sW] [sC,"row"] (cZ Di):={}
def jO:FnScope [sC,uL,sK,sZ,uK,"ends",uH,uI,"end"] [sC,uL,sK] (cZ C2):={}
def kO:FnScope [sC,"n",vE,sK,tW,uH,uL,sX,tE,sW] [sC,"n",vE,sK] (cZ zq):={}
inductive fu(K:Q5)(d:List V)(H:Hp)(Q:VK)(b:XK):Prop|mk:∀(a:Ad) (e:Zs) (k:Int),d=[.ref a,.int k]->0<=k->SqL K H a (e.map V.int)->(∀c,Q (.int c) H)->fu K d H Q b
variable{P:Pg}{w:World}{K:Q5}{mg:SV}{base:Heap}{f:Ad}{fd:Fd}
def NG(F:Fun K tQ tQ Du f fd)(i:mg "len"=none):FnOk P w K mg base de 1 f fd [sH,tL] (fu K):=by
 refine F.ok NJ (λj A b s H n Q E o h=>?_)
 obtain⟨a,d,k,rfl,p,g,q⟩:=h;refine⟨_,(cQ (gk (gB yI (pv 1) (fc gv zZ i gj (cN (pv 0) cJ)) (fY _)) (cU (dG (cW fX (pv 0) (pv 1) (λ_ _=>rfl)))) gO) (cU (dG cR))),?_⟩;refine⟨_,zZ,_,zZ,a,_,zZ,.inl g,_,_,zZ,zZ,_,zZ,?_⟩;refine mK (λc=>?_) (λc=>?_)
 .have l:k<((d.map V.int).length:Nat):=ie c;rw[cC]at l;have m:k.toNat<d.length:=by lia
  have e:k=((k.toNat:Nat):Int):=by lia
  refine⟨_,zZ,_,zZ,a,_,_,.int (d.getD k.toNat 0),zZ,zZ,g,?_,q _⟩;rw[e];exact KS m
 .exact q _
structure Mach(H:Hp)(m:Ad)(ts:LN)(n:Nat):Prop where
 refs: ∃rs:As,H m=some (.tup (rs.map V.ref))/\rs.length=ts.length/\ ∀(i:Nat) r t,rs[i]? =some r->ts[i]? =some t->H r=some (.tup (t.map nv))
 some1:1<=ts.length
 few:ts.length<=4
 n1:1<=n
 n5:n<=5
 each: ∀t∈ts,t.length=n/\ ∀x∈t,x<n
def Mach.same{H a:Hp}{m:Ad}{b:LN}{n:Nat}(M:Mach H m b n)(g:Same H a):Mach a m b n:=
 ⟨let⟨c,d,e,h⟩:=M.refs;⟨c,g _ _ d,e,λi r t j k=>g _ _ (h i r t j k)⟩,M.some1,M.few,M.n1,M.n5,M.each⟩
def Mach.at{H:Hp}{m:Ad}{ts:LN}{n:Nat}(M:Mach H m ts n){l:Nat}(b:l<ts.length):
  ∃(a:As) (r:Ad),H m=some (.tup (a.map V.ref))/\a.length=ts.length/\lF (a.map V.ref) (l:Int)=some (.ref r)/\H r=some (.tup ((ts.getD l []).map nv))/\(ts.getD l []).length=n/\ ∀x∈ts.getD l [],x<n:=by
 obtain⟨a,d,g,h⟩:=M.refs;have c:l<a.length:=by lia
 have e:ts.getD l []=ts[l]:=by rw[eC,cE b];rfl
 rw[e];obtain⟨i,j⟩:=M.each ts[l] (l6 b);exact⟨a,a[l],d,g,gF (by rw[cV,cE c];rfl),h l _ _ (by simp[c]) (by simp[b]),i,j⟩
def e7(a:LN)(r:Nat)(word:cz):Nat:=word.foldl (λr l=>(a.getD l []).getD r 0) r
def NC(a:LN)(r:Nat)(word:cz)(l:Nat):e7 a r (word++[l])=(a.getD l []).getD (e7 a r word) 0:=by
 unfold e7;rw[rj];rfl
theorem ou{H:Hp}{m:Ad}{a:LN}{n:Nat}(M:Mach H m a n): ∀(word:cz) (r:Nat),r<n->(∀l∈word,l<a.length)->e7 a r word<n
 | [],_,b,_=>b
 |l::word,r,b,h=>by
  obtain⟨_,_,_,_,_,_,e,c⟩:=M.at (h l (dY ..));exact ou M word _ (xh c ()) λx d=>h x (fR _ d)
def wp(a:LN)(n:Nat)(word:cz):cz:=(List.range n).map λr=>e7 a r word
def Pe(a:LN)(n:Nat)(word:cz):(wp a n word).length=n:=by simp[wp]
inductive lX(e:List V)(H:Hp)(Q:VK)(a:XK):Prop|mk:∀(c:Int) (n:Nat),e=[.int c,nv n]->1<=n->n<=5->(∀(b:cz) r d,Same H d->d r=some (.tup (b.map nv))->b.length=n->(∀y∈b,y<n)->Q (.ref r) d)->lX e H Q a
inductive gL(K:Q5)(d:List V)(H:Hp)(Q:VK)(b:XK):Prop|mk:∀(a:Ad) (e:Zs),d=[.ref a]->SqL K H a (e.map V.int)->(∀m g n c,Same H c->Mach c m g n->Q (.ref m) c)->gL K d H Q b
def zP(H:Hp)(c:Int)(n:Nat)(d:L2.St)(b:Hp):Prop:=Same H b/\ ∃(l:Ad) (a:cz) (num:Int) (e g h:Option V),d=[some (.int c),some (nv n),some (.int num),some (.ref l),e,g,h]/\
 b l=some (.lst (a.map nv))/\H l=none/\a.length=n/\ ∀y∈a,y<n
def KC(F:Fun K "_law_turn" "_law_turn" C4 f fd)(Y:mg "range"=none)(jD:mg "tuple"=none)(qO:mg "list"=none):FnOk P w K mg base de 1 f fd [tH,sY] lX:=by
 refine F.ok kH (λaa A D s H vs Q E hr h=>?_)
 obtain⟨c,n,rfl,G,h5,q⟩:=h;refine⟨_,(cQ (dj (i:=2) kH.nd zZ (Or.inl zZ) (fv wy (pv 0) cR)) (cQ (dj (i:=3) kH.nd zZ (Or.inl zZ) (iN (Pu zZ) zZ qO boot_list (cN (iN DP zZ Y boot_range (cN (pv 1) cJ)) cJ))) (cQ (iH gY zZ (m8 zZ Y (cN (pv 1) cJ)) (fb (i:=4) kH.nd zZ (Or.inl zZ)) (cQ (dj (i:=5) kH.nd zZ (Or.inl zZ) (fv nB (pv 2) (pv 1))) (cQ (dj (i:=2) kH.nd zZ (Or.inl zZ) (fv wy (pv 2) (pv 1))) (cU (gk (gB yI (fv nB (pv 0) cR) cR (fY _)) (cU (yc (pv 5) (Ac (pv 3) (pv 4) Ah))) (cU (gk (gB yI (fv nB (pv 0) cR) cR (fY _)) (cQ (dj (i:=6) kH.nd zZ (Or.inl zZ) (cW fX (pv 3) (pv 4) (λ_ _=>rfl))) (cQ (yc (cW fX (pv 3) (pv 5) (λ_ _=>rfl)) (Ac (pv 3) (pv 4) Ah)) (cU (yc (pv 6) (Ac (pv 3) (pv 5) Ah))))) (cU (gk (PW.pt (uo (gB Ak (fv nB (pv 0) cR) cR (fY _)) (wj (gB yI (pv 4) cR (fY _))))) (cU (yc (fv nB (pv 2) (pv 1)) (Ac (pv 3) (pv 5) Ah))) gO))))))))) (cQ (t6 (gk (gB Ak (fv nB (pv 0) cR) cR (fY _)) (cU (dj (i:=3) kH.nd zZ (Or.inl zZ) (fv OE (gI (cN (fv nB (fv wy (pv 0) cR) (pv 1)) cJ)) (pv 1)))) gO)) (cU (dG (iN n6 zZ jD mz (cN (pv 3) cJ)))))))),?_⟩;have I:(0:Int)<(n:Int):=by lia
 refine⟨_,zZ,_,_,zZ,zZ,⟨by decide,by decide⟩,?_⟩;refine⟨_,zZ,(n:Int),zZ,λp1 r=>⟨p1,(n:Int),zZ,cF,(),(),λl b=>?_⟩⟩;have g1:=(cM r (.rng 0 (n:Int))).trans (cM b (.lst (ky (n:Int).toNat)));have s1: ∀num,zP H c n [some (.int c),some (nv n),some (.int num),some (.ref l),none,none,none] (cA (cA H p1 (.rng 0 (n:Int))) l (.lst (ky (n:Int).toNat))):=
  λnum=>⟨g1,l,List.range n,num,none,none,none,zZ,by rw[cF];rfl,(cM r _).free b,by simp,λy d=>List.mem_range.mp d⟩
 refine⟨_,zZ,(n:Int),zZ,(),(),wK (λi J B=>zP H c n J B) (s1 _) (λi J B hi p=>?_) (λJ B p=>?_)⟩
 .obtain⟨g,l,L,num,j,m,o,rfl,e,b,a,d⟩:=p;have ab:i<n:=by lia
  have M:(0+(i:Int))=((i:Nat):Int):=by lia
  obtain⟨N,C⟩:=gb num G;obtain⟨m3,m4⟩:=gb (num/ (n:Int)) G;refine⟨_,zZ,_,zZ,_,_,zZ,zZ,I,?_⟩
  try dsimp only
  rw[N];generalize(num%(n:Int)).toNat=k at C;refine⟨_,zZ,_,zZ,_,_,zZ,zZ,⟨(),()⟩,?_⟩;refine⟨_,zZ,_,_,zZ,zZ,(by decide:(0:Int)<6),_,_,zZ,zZ,_,zZ,mK (λc1=>?_) (λc1=>?_)⟩
  .refine⟨_,zZ,_,zZ,_,zZ,l,_,_,i,zZ,zZ,e,(by rw[M,cC];exact AG ()),?_⟩
   try dsimp only
   rw[BJ];exact⟨gR g b,l,_,_,_,_,_,zZ,cF,b,by rw[pN,a],z5 d C⟩
  refine⟨_,zZ,_,_,zZ,zZ,(by decide:(0:Int)<6),_,_,zZ,zZ,_,zZ,mK (λc2=>?_) (λc2=>?_)⟩
  .refine⟨_,zZ,_,zZ,l,_,_,_,zZ,zZ,Q3 e,(by rw[M];exact mY ()),?_⟩;refine⟨_,zZ,_,zZ,l,_,_,_,zZ,zZ,Q3 e,mY (),_,zZ,_,zZ,l,_,_,i,zZ,zZ,e,(by rw[M,cC];exact AG ()),?_⟩;try dsimp only
   rw[BJ];refine⟨_,zZ,_,zZ,_,zZ,l,_,_,k,zZ,zZ,cF,(by rw[cC,pN];exact AG ()),?_⟩;try dsimp only
   rw[BJ,JH];exact⟨gR g b,l,_,_,_,_,_,zZ,cF,b,by rw[pN,pN,a],z5 (z5 d (xh d ())) (xh d ())⟩
  have stay: ∀j m o,zP H c n [some (.int c),some (nv n),some (.int (num/ (n:Int))),some (.ref l),j,m,o] B:=λj m o=>⟨g,l,L,_,j,m,o,zZ,e,b,a,d⟩;refine⟨_,zZ,_,_,zZ,zZ,(by decide:(0:Int)<6),zZ,_,zZ,mK (λc3=>?_) (λc3=>fq (stay _ _ _))⟩;refine⟨_,zZ,_,_,zZ,zZ,_,zZ,mK (λc4=>?_) (λc4=>stay _ _ _)⟩;refine⟨_,zZ,_,zZ,_,_,zZ,zZ,I,?_⟩
  try dsimp only
  rw[m3];refine⟨_,zZ,_,zZ,l,_,_,k,zZ,zZ,e,(by rw[cC];exact AG ()),?_⟩
  try dsimp only
  rw[BJ];exact⟨gR g b,l,_,_,_,_,_,zZ,cF,b,by rw[pN,a],z5 d m4⟩
 .obtain⟨g,l,L,num,j,m,o,rfl,e,b,a,d⟩:=p;refine⟨zP H c n,?_,λae H4 p4=>?_⟩
  .refine⟨_,zZ,_,_,zZ,zZ,(by decide:(0:Int)<6),zZ,_,zZ,mK (λc5=>?_) (λc5=>⟨g,l,L,num,j,m,o,zZ,e,b,a,d⟩)⟩;obtain⟨N,C⟩:=gb (c/6) G;refine⟨_,zZ,_,_,zZ,zZ,⟨by decide,by decide⟩,_,zZ,_,_,zZ,zZ,I,by show 1<=sizeLine;decide,λl2 u=>?_⟩;have e1:(n:Int).toNat=n:=ip n;refine⟨_,zZ,l2,_,_,zZ,zZ,cF,(),(),by rw[e1,dz];show 1 * n<=_;lia,λl3 v=>?_⟩;have e2:(List.replicate (n:Int).toNat [V.int (c/6%(n:Int))]).flatten=(List.replicate n (c/6%(n:Int)).toNat).map nv:=by
    rw[e1,N,List.map_replicate]
    induction n with
    |zero=>rfl
    |succ n _=>simp[List.replicate_succ]
   refine⟨g.trans ((cM u _).trans (cM v _)),l3,List.replicate n (c/6%(n:Int)).toNat,num,_,_,_,zZ,?_,?_,by simp,λy d=>?_⟩
   .rw[cF];exact dN (λz=>some (HO.lst z)) e2
   .exact(g.trans (cM u _)).free v
   .rw[List.eq_of_mem_replicate d];exact C
  .obtain⟨g4,l4,O,num,j,m,o,rfl,T,af,x,U⟩:=p4;exact⟨_,zZ,l4,_,zZ,.inl ⟨Q3 T,λt ht=>q O t _ (g4.trans (cM ht _)) cF x U⟩⟩
def LB(F:Fun K uT uT zM f fd)(J:dE P w K mg base tQ 1 [sH,tL] (fu K))(qZ:dE P w K mg base "_law_turn" 1 [tH,sY] lX)
  (jC:mg "range"=none) (jD:mg "tuple"=none):FnOk P w K mg base de 3 f fd [sH] (gL K):=by
 refine F.ok qL (λab A L s H vs Q E D h=>?_)
 obtain⟨a,M,rfl,O,q⟩:=h;refine⟨_,(cQ (dj (i:=1) qL.nd zZ (Or.inr zZ) (fv ug cR (fv nB (dH J D.m zZ (c8 (cD (pv 0) (cD cR db zZ) zZ))) cR))) (cQ (dj (i:=2) qL.nd zZ (Or.inl zZ) (fv ug cR (fv nB (dH J D.m zZ (c8 (cD (pv 0) (cD cR db zZ) zZ))) cR))) (cU (dG (iN n6 zZ jD mz (cN (gW (CompSc.to (N:=[sH,sY,"_law_many"]) (osc:=cZ zM) (vs:=[tL]) {}) zZ zZ (m8 zZ jC (cN (pv 2) cJ)) (λ_ _ _ _=>i3) (λ_ _ _ _=>(dH qZ D.m zZ (c8 (cD (dH J D.m zZ (c8 (cD (pv 1) (cD (fv ug cR (pv 0)) db zZ) zZ))) (cD (pv 2) db zZ) zZ))))) cJ)))))),?_⟩;refine⟨_,zZ,a,M,0,zZ,Int.le_refl 0,O,λc=>⟨_,_,zZ,zZ,(by decide:(0:Int)<5),_,_,zZ,zZ,?_⟩⟩;obtain⟨n,en,n1,n5⟩: ∃n:Nat,(1+c%5:Int)=(n:Int)/\1<=n/\n<=5:=⟨(1+c%5).toNat,(),(),()⟩
 try dsimp only
 rw[en];refine⟨_,zZ,a,M,1,zZ,by decide,O,λc'=>⟨_,_,zZ,zZ,(by decide:(0:Int)<4),_,_,zZ,zZ,?_⟩⟩;obtain⟨k,ek,k1,k4⟩: ∃n:Nat,(1+c'%4:Int)=(n:Int)/\1<=n/\n<=4:=⟨(1+c'%4).toNat,(),(),()⟩
 try dsimp only
 rw[ek];refine⟨_,zZ,(k:Int),zZ,(),(),si (λi G y=>Same H y/\ ∃(b:As) (o:LN),G=b.map V.ref/\b.length=i/\o.length=i/\(∀(j:Nat) r t,b[j]? =some r->o[j]? =some t->y r=some (.tup (t.map nv)))/\ ∀t∈o,t.length=n/\ ∀x∈t,x<n)
  (small ()) ⟨Same.refl _,[],[],zZ,zZ,zZ,(λj r t e=>wC e (by simp)),(λt ht=>wC ht (by simp))⟩ (λi G y _ p=>?_) (λi G y hi p=>?_) (λG y p l hl=>?_)⟩
 .obtain⟨_,b,o,rfl,e,_⟩:=p;rw[cC];lia
 .obtain⟨g,b,o,rfl,d,u,v,ht⟩:=p;refine⟨iO,lB ?_⟩;refine⟨_,zZ,_,zZ,_,_,zZ,zZ,a,M,_,zZ,(),g.seq O,λc=>⟨_,zZ,c,n,zZ,n1,n5,λys r H2 B T U hy=>?_⟩⟩;refine⟨g.trans B,b++[r],o++[ys],by simp,by simp[d],by simp[u],λj r' t' C I=>?_,λt Y=>?_⟩
  .by_cases hj:j<i
   .rw[fe ()]at C I;exact B _ _ (v j r' t' C I)
   .have aa:j=i:=by
     have:=(cP.mp C).1;rw[dF,d]at this;have:j<i+1:=this
     lia
    subst aa;rw[e9 (),d,nG]at C;rw[e9 (),u,nG]at I;cases C;cases I;exact T
  .rcases dD.mp Y with z|z
   .exact ht t z
   .have e:t=ys:=by simpa using z
    rw[e];exact⟨U,hy⟩
 .obtain⟨g,b,o,rfl,d,u,v,ht⟩:=p;have g1:=cM hl (.lst (b.map V.ref));refine⟨l,_,zZ,.inl ⟨Q3 cF,λm hm=>?_⟩⟩;have B:=g1.trans (cM hm (.tup (b.map V.ref)));have hk:(k:Int).toNat=k:=ip k;exact q m o n _ (g.trans B) ⟨⟨b,cF,(),λi r t e1 T=>B _ _ (v i r t e1 T)⟩,(),(),n1,n5,ht⟩
inductive n7(K:Q5)(d:List V)(H:Hp)(Q:VK)(a:XK):Prop|mk:∀(m b:Ad) (c:LN) (n r:Nat) (word:cz),d=[.ref m,nv r,.ref b]->Mach H m c n->r<n->SqL K H b (word.map nv)->(∀l∈word,l<c.length)->Q (nv (e7 c r word)) H->n7 K d H Q a
def N3(F:Fun K "led" "led" ss f fd):FnOk P w K mg base de 1 f fd [sA,uM,tN] (n7 K):=by
 refine F.ok rZ (λu A g s H D Q E G h=>?_)
 obtain⟨m,b,k,n,r,word,rfl,M,j,t,hw,q⟩:=h;refine⟨_,(cQ (iH gY zZ (iT (pv 2)) (fb (i:=3) rZ.nd zZ (Or.inl zZ)) (cU (dj (i:=1) rZ.nd zZ (Or.inl zZ) (cW dr (cW dr (pv 0) (pv 3) (λ_ _=>rfl)) (pv 1) (λ_ _=>rfl))))) (cU (dG (pv 1)))),?_⟩;refine⟨_,zZ,b,zZ,⟨_,t⟩,pK (xs:=word.map nv) (λi c d=>d=H/\ ∃o,c=[some (.ref m),some (nv (e7 k r (word.take i))),some (.ref b),o]) ⟨zZ,none,zZ⟩ (λi c d _ p=>by obtain⟨rfl,_⟩:=p;exact t) (λi x c d a p=>?_) (λc d p=>?_)⟩
 .obtain⟨rfl,o,rfl⟩:=p;rw[cV]at a;cases e:word[i]? with
  |none=>rw[e]at a;cases a
  | some l=>
   rw[e]at a;cases a;obtain⟨I,v,y,J,z,B,C,L⟩:=M.at (hw l (cY e));refine⟨_,zZ,_,zZ,m,_,_,_,zZ,zZ,Q4 y,z,_,zZ,v,_,_,_,zZ,zZ,Q4 B,mY ?_,zZ,some (nv l),?_⟩
   .rw[C];exact ou M _ _ j λx a=>hw x (vi a)
   .rw[iY,e];show _=[some (.ref m),some (nv (e7 k r (word.take i++[l]))),some (.ref b),some (nv l)];rw[NC];rfl
 .obtain⟨rfl,o,rfl⟩:=p;refine⟨_,zZ,?_⟩;rw[cC,hA];exact q
def nJ(b:LN)(a word:cz):cz:=a.map λr=>e7 b r word
def M5{n:Nat}{a:cz}(c:n<=5)(h: ∀x∈a,x<n):fV a=(List.range n).filter λi=>a.contains i:=by
 unfold fV;have e:List.range 5=List.range n++(List.range (5-n)).map (n+ ·):=by rw[<-List.range_add];congr 1;lia
 rw[e,tv];have no:((List.range (5-n)).map (n+ ·)).filter (λi=>a.contains i)=[]:=by
  rw[DD];intro y b z;obtain⟨k,_,rfl⟩:=dh.mp b;have:=h _ (gV.mp z);lia
 rw[no,iV]
def Bx{a:cz}{x:Nat}(h:x∈fV a):x∈a:=gV.mp (dP.mp h).2
def IR{a:cz}{x:Nat}(h:x∈a)(b:x<5):x∈fV a:=dP.mpr ⟨f'.mpr b,gV.mpr h⟩
def GQ(a:cz):(fV a).length<=5:=dL (iZ _ _) (by simp)
def Ht(i:Nat)(a:cz):By (nv i) (a.map nv)=a.contains i:=by
 unfold By;rw[Bv]
 induction a with
 |nil=>rfl
 | cons x a b=>
  rw[vk,List.contains_cons,b]
  congr 1
  show n' (.int (x:Int)) (.int (i:Int))=(i==x);by_cases h:x=i
  .subst h;show((x:Int)==(x:Int))=(x==x);simp
  .have c: ¬(x:Int)=(i:Int):=by lia
   have d: ¬i=x:=by lia
   show((x:Int)==(i:Int))=(i==x);rw[pA.mpr c,pA.mpr d]
def IF(a:cz):(a.map nv).all j6=true:=by
 rw[List.all_map,sf];intro x _;rfl
inductive dQ(K:Q5)(e:List V)(H:Hp)(Q:VK)(c:XK):Prop|mk:∀(m p b:Ad) (d:LN) (n:Nat) (a word:cz),e=[.ref m,.ref p,.ref b]->Mach H m d n->SqT K H p (a.map nv)->a.length<=5->(∀r∈a,r<n)->SqL K H b (word.map nv)->(∀l∈word,l<d.length)->ww H ((fV (nJ d a word)).map nv) Q->dQ K e H Q c
def Lk(F:Fun K tY tY AJ f fd)(y:dE P w K mg base "led" 1 [sA,uM,tN] (n7 K))(z:mg "tuple"=none)(B:mg "sorted"=none)(C:mg "set"=none):FnOk P w K mg base de 3 f fd [sA,sB,tN] (dQ K):=by
 refine F.ok Mn (λD A j s H vs Q E G h=>?_)
 obtain⟨m,p,b,d,n,c,word,rfl,M,u,I,g,J,hw,q⟩:=h;refine⟨_,(cU (dG (iN n6 zZ z mz (cN (fc (Ig zZ) zZ B Ag (cN (iN (FK zZ) zZ C PyProof.Rows.boot_set (cN (gW (CompSc.to (N:=[sA,sB,tN]) (osc:=cZ AJ) (vs:=[uM]) {}) zZ zZ (ua (pv 1)) (λ_ _ _ _=>i3) (λ_ _ _ _=>(dH y G.m zZ (c8 (cD (pv 1) (cD (pv 0) (cD (pv 3) db zZ) zZ) zZ))))) cJ)) cJ)) cJ)))),?_⟩;have n5:=M.n5;refine⟨_,zZ,p,zZ,⟨_,u⟩,zh (f:=λv=>match v with| .int i=>nv (e7 d i.toNat word)|v=>v) (by rw[cC];exact small ()) u (λv Q L q=>?_) (λl O=>?_)⟩
 .obtain⟨r,k,rfl⟩:=dh.mp L;exact⟨_,zZ,_,zZ,_,zZ,m,b,d,n,r,word,zZ,M,g r k,J,hw,q⟩
 .have e:(c.map nv).map (λv=>match v with| .int i=>nv (e7 d i.toNat word)|v=>v)=(nJ d c word).map nv:=by
   unfold nJ;rw[i4,i4];rfl
  try dsimp only
  rw[e];have T:=cM O (.lst ((nJ d c word).map nv));refine⟨l,_,zZ,Q3 cF,λx U=>?_,λa Y=>⟨a,_,zZ,cF,λo ho=>?_⟩⟩
  .obtain⟨r,k,rfl⟩:=dh.mp U;have:=ou M word r (g r k) hw;lia
  .try dsimp only
   rw[C0];exact⟨o,_,zZ,.inl ⟨Q3 cF,λt ht=>q t _ (T.trans ((cM Y _).trans ((cM ho _).trans (cM ht _)))) cF⟩⟩
inductive eE(P:Pg)(w:World)(K:Q5)(mg:SV)(base:Heap)(h:List V)(H:Hp)(Q:VK)(c:XK):Prop|mk:∀(a st:Ad) (fd:Fd) (i:Ss) (d:cz) (L:Nat) (U:LN) (g:cz->Nat->List Nat),h=[.ref a,nv L,.ref st,.non]->H a=some (.tup (d.map nv))->H st=some (jk st fd)->d∈U->((∀x∈U,∀l,l<L->g x l∈U))->U.length<=4000->L<=4000->FnOk P w K mg base de 5 st fd i (eZ (Same H) U L g)->Binds K fd i []->(∀D j k e,Same H e->WordsAt e D j k->(∀b∈D::k,H b=none)->Told g L d j->Q (.ref D) e)->eE P w K mg base h H Q c
def Ng(F:Fun K vA vA EC f fd)(b:mg "len"=none):FnOk P w K mg base de 1 f fd ["things",uX] fA:=by
 refine F.ok Nx (λc A a s H e Q E g h=>?_)
 obtain⟨d,rfl,q⟩:=h;refine⟨_,(cU (gk (PW.pt (uo (gB Fk (pv 1) vT (fY _)) (wj (gB vW (fc LI zZ b gj (cN (pv 0) cJ)) (pv 1) (fY _))))) (cU LY) gO)),?_⟩;exact⟨_,zZ,zZ,_,zZ,q⟩
def OQ{e m:Vl}(F:DefAt K tK pC f fd e m)(l:dE P w K mg base vA 1 ["things",uX] fA)(n:mg "range"=none):FnOk P w K mg base de 8 f fd ["start","letters",uH,uX] (eE P w K mg base):=by
 refine F.fnOk kG (λo H Q E h=>?_) (λA j s H o Q E h d=>?_)
 .obtain⟨a,st,fd,p,r,L,U,g,rfl,_⟩:=h;rfl
 obtain⟨a,st,z,p,r,L,U,g,rfl,t,k,u,v,few,c,x,y,q⟩:=h;have b:=jq d;exact⟨_,OY d.m t k u v few c x y q,(cQ (dj (i:=4) kG.nd zZ (Or.inl zZ) (Mw b (pv 0) (gI cJ))) (cQ (ju (dH l d.m zZ (c8 (cD (pv 4) (cD (pv 3) db zZ) zZ)))) (cQ (dj (i:=5) kG.nd zZ (Or.inl zZ) (gI (cN (pv 0) cJ))) (cQ (FN gY (Fn (pv 5) (λ_=>rfl)) (cQ (dj (i:=6) kG.nd zZ (Or.inl zZ) (gI cJ)) (cQ (iH gY zZ (iT (pv 5)) (fb (i:=7) kG.nd zZ (Or.inl zZ)) (cU (iH gY zZ (m8 zZ n (cN (pv 1) cJ)) (fb (i:=8) kG.nd zZ (Or.inl zZ)) (cQ (dj (i:=9) kG.nd zZ (Or.inl zZ) (ME 2 (pv 2) (c8 (cD (pv 7) (cD (pv 8) db zZ) zZ)))) (cU (gk (oB (AW b (pv 9) (pv 4))) (cQ (vf b (pv 4) (pv 9) (fv C8 (og b (pv 4) (pv 7) (λ_ _=>rfl)) (gI (cN (pv 8) cJ))) zZ) (cQ (ju (dH l d.m zZ (c8 (cD (pv 4) (cD (pv 3) db zZ) zZ)))) (cU (ju (hE hV ko lE ku (pv 6) (cN (pv 9) cJ)))))) gO)))))) (cU (dj (i:=5) kG.nd zZ (Or.inl zZ) (pv 6)))))) (cU (dG (pv 4)))))))⟩
def fS:List (Str×Pos×Ad):=[(sE,(⟨49,40,49,93⟩:Pos),101),(sF,(⟨121,61,121,110⟩:Pos),200)]
def Ph:(fS.map (·.2.2)).Nodup:=by decide
def Tabs(H:Hp):Prop:= ∀q∈fS,TabOk q.1 q.2.1 H q.2.2
def _root_.L2.TabOk.most{a:Str}{pos:Pos}{H d:Hp}{T:Ad}(t:TabOk a pos H T)(g: ∀b u,(∀c,u≠HO.dT c)->(∀h,u≠HO.lst h)->H b=some u->d b=some u):TabOk a pos d T:=by
 rcases t with t|⟨i,j,k⟩
 .exact .inl (g _ _ (λ_ e=>nomatch e) (λ_ e=>nomatch e) t)
 .exact .inr ⟨i,g _ _ (λ_ e=>nomatch e) (λ_ e=>nomatch e) j,g _ _ (λ_ e=>nomatch e) (λ_ e=>nomatch e) k⟩
def Tabs.same{H a:Hp}(t:Tabs H)(g:Same H a):Tabs a:=λq b=>(t q b).same g
def Tabs.most{H c:Hp}(t:Tabs H)(g: ∀b u,(∀a,u≠HO.dT a)->(∀d,u≠HO.lst d)->H b=some u->c b=some u):Tabs c:=λq e=>(t q e).most g
def KeepsBut(T:Ad)(H a:Hp):Prop:= ∀b o,b≠T->H b=some o->a b=some o
def KeepsBut.keeps{T:Ad}{H a:Hp}{c:AV}(g:KeepsBut T H a)(hT:H T=some (.tbl c)):Keeps H a:=λb o d=>by
 obtain⟨z,h⟩:=u8 d;exact g b o (kh z hT λe=>h _ e) z
theorem HU: ∀{l:List (Str×Pos×Ad)} {p q:Str×Pos×Ad},(l.map (·.2.2)).Nodup->p∈l->q∈l->p.2.2=q.2.2->p=q
 | [],_,_,_,hp,_,_=>nomatch hp
 | r::l,p,q,nd,hp,hq,e=>by
  obtain⟨b,d⟩:=mE.mp nd
  rcases dZ.mp hp with c|hp
  .rcases dZ.mp hq with a|hq
   .rw[c,a]
   .exact wC (dh.mpr ⟨q,hq,by rw[<-c];exact e.symm⟩) b
  .rcases dZ.mp hq with a|hq
   .exact wC (dh.mpr ⟨p,hp,by rw[<-a];exact e⟩) b
   .exact HU d hp hq e
def Tabs.but{a:Str}{pos:Pos}{T:Ad}{H c:Hp}{i:AV}(j:(a,pos,T)∈fS)(t:Tabs H)(hT:H T=some (.tbl i))(g:KeepsBut T H c)(k:TabOk a pos c T):Tabs c:=λd b=>by
 by_cases e:d.2.2=T
 .have:=HU Ph b j e;subst this;exact k
 .rcases t d b with t|⟨l,m,h⟩
  .exact .inl (g _ _ e t)
  .exact .inr ⟨l,g _ _ e m,g _ _ (nE h hT) h⟩
def IV{H:Hp}{T d a:Ad}(pos:Pos)(c:Str)(hT:H T=some (.tbl #[]))(e:H d=none)(g:H a=none)(h:d≠a)(lo:HO):KeepsBut T H (cA (cA (cA H T (.tbl (lQ pos a))) a (lG a c)) d lo)/\
  (cA (cA (cA H T (.tbl (lQ pos a))) a (lG a c)) d lo) T=some (.tbl (lQ pos a))/\(cA (cA (cA H T (.tbl (lQ pos a))) a (lG a c)) d lo) a=some (lG a c):=by
 refine⟨λb o i z=>?_,?_,?_⟩
 .rw[cK (dU z e),cK (dU z g),cK i];exact z
 .rw[cK (dU hT e),cK (dU hT g),cF]
 .rw[cK (fh h),cF]
def cI(a:LN)(x:cz)(l:Nat):cz:=fV (nJ a x [l])
def eK(n:Nat):LN:=((List.range 32).map cS).filter λx=>x.all λr=>decide (r<n)
inductive dS(T:Ad)(pos:Pos)(g:List V)(H:Hp)(Q:VK)(d:XK):Prop|mk:∀(m p:Ad) (e:LN) (n:Nat) (a:cz),g=[.ref m,.ref p]->Mach H m e n->H p=some (.tup (a.map nv))->a∈eK n->Tabs H->(∀D h i c,Keeps H c->Tabs c->WordsAt c D h i->(∀b∈D::i,noT H b=none)->Told (cI e) e.length a h->Q (.ref D) c)->dS T pos g H Q d
def cG{n:Nat}{x:cz}:x∈eK n↔fV x=x/\ ∀r∈x,r<n:=by
 unfold eK;rw[dP,dh,sf];constructor
 .rintro⟨⟨k,a,rfl⟩,h⟩;refine⟨?_,λr c=>ie (h r c)⟩;have z: ∀k:Fin 32,fV (cS k)=cS k:=by decide+kernel
  exact z ⟨k,f'.mp a⟩
 .rintro⟨d,e⟩;refine⟨⟨nZ 0 (fV x),f'.mpr ?_,by rw[C0,d];exact d⟩,λr c=>eJ (e r c)⟩;have z: ∀(b:cz) (k:Nat),(∀n∈b,n<5)->k<32->nZ k b<32:=by
   intro b
   induction b with
   |nil=>intro k _ a;exact a
   |cons n b g=>intro k h a;exact g _ (λy i=>h y (fR _ i)) (GL ⟨k,a⟩ ⟨n,h n (dY ..)⟩)
  exact z _ 0 (λn j=>f'.mp (dP.mp j).1) (by decide)
def Ib(a:cz):fV (fV a)=fV a:=by
 unfold fV;refine vo λi b=>?_;rw[lH,gV,gV,dP,gV];exact⟨λh=>h.2,λh=>⟨b,h⟩⟩
def Mach.noT{H:Hp}{m:Ad}{a:LN}{n:Nat}(M:Mach H m a n):Mach (L2.noT H) m a n:=
 ⟨let⟨b,c,d,e⟩:=M.refs;⟨b,nU c,d,λi r t g h=>nU (e i r t g h)⟩,M.some1,M.few,M.n1,M.n5,M.each⟩
def Mach.keeps{H a:Hp}{m:Ad}{b:LN}{n:Nat}(M:Mach H m b n)(g:Keeps H a):Mach a m b n:=M.noT.same g
def Mach.drop{H:Hp}{m c:Ad}{a:LN}{n:Nat}{e:Heap->Prop}(M:Mach H m a n)(b:H c=some (.ext e)):Mach (L2.drop H c) m a n:=by
 obtain⟨g,d,h,j⟩:=M.refs;refine⟨⟨g,?_,h,λi r t k l=>?_⟩,M.some1,M.few,M.n1,M.n5,M.each⟩
 .rw[eV (nE d b)];exact d
 .have z:=j i r t k l;rw[eV (nE z b)];exact z
def IC{v c m j:Ad}{O:Obj}{u:LN}{n:Nat}{p:Hp}{pm B:Vl}{a:Arguments}{i:Expr}{d:Scope}{fx a1 a2:Expr}{kw:List Keyword}{lp cp rp:Pos}(e:ka oz=[.Return (some (.Call fx [a1,a2,.Lambda a i d lp] kw cp)) rp])
  (jK:dE P w K mg base tY 3 [sA,sB,tN] (dQ K)) (M:Mach p m u n) (h1:p v=some (jk v (iK sE a i d sA c pm (.ref j) B))) (T:p c=some (hX c m O)) (h3:p j=some (lG j sE)):
  FnOk P w K mg base de 5 v (iK sE a i d sA c pm (.ref j) B) [sZ,sK] (eZ (Same p) (eK n) u.length (cI u))/\Binds K (iK sE a i d sA c pm (.ref j) B) [sZ,sK] []:=by
 cases e;refine⟨IU (k:=4) (m:=m) (oc:=O) ⟨zZ,zZ,zZ,by decide+kernel,by decide+kernel,zZ,by decide+kernel⟩ (λU H Q E h=>?_) (λU H Q E h=>?_) (λA C s H U Q E hr h=>?_),.all λus D=>match us,D with| [_,_],_=>rfl⟩
 .obtain⟨t,x,l,rfl,_⟩:=h;rfl
 .obtain⟨t,x,l,rfl,g,_⟩:=h;exact⟨g _ _ h1,g _ _ T,g _ _ h3⟩
 .obtain⟨t,x,l,rfl,g,ht,hx,D,q⟩:=h;refine⟨_,(dH jK hr.m zZ (c8 (cD (pv 2) (cD (pv 0) (cD (gI (cN (pv 1) cJ)) db zZ) zZ) zZ))),?_⟩;obtain⟨x1,x2⟩:=cG.mp hx;have G:=g _ _ T;refine⟨_,zZ,_,zZ,_,zZ,by show 1<=sizeLine;decide,λb hb=>?_⟩;have I:=cM hb (.lst [nv l]);have M1:=((M.same g).drop G).same I;have J:(cA (L2.drop H c) b (.lst [nv l])) t=some (.tup (x.map nv)):=I _ _ (by rw[eV (nE ht G)];exact ht);refine⟨m,t,b,u,n,x,[l],zZ,M1,Q4 J,by rw[<-x1];exact GQ x,x2,Q3 cF,λz hz=>by rw[dw.mp hz];exact D,λr H3 g3 Y free=>q r _ (λy o L=>?_) ?_⟩
  .by_cases N:y=c
   .subst N;rw[G]at L;cases L;exact cF
   .rw[cK N];exact g3 _ _ (I _ _ (by rw[eV N];exact L))
  .rw[cK (dU Y free)];exact Y
def O4{cd T:Ad}(F:DefAt K sU oz f fd .none (.ref cd))(hC:PySem.W.CodeHd base cd T)(bm:oQ mg base)(hq:((sE:Str),(⟨49,40,49,93⟩:Pos),T)∈fS)(jK:dE P w K mg base tY 3 [sA,sB,tN] (dQ K))
  (kZ:AX P w K mg base tK 8 ["start","letters",uH,uX] (eE P w K mg base) [.non]) (jA:mg "len"=none):FnOk P w K mg base de 10 f fd [sA,sB] (dS T (⟨49,40,49,93⟩:Pos)):=by
 refine F.fnOk Lz (λvs H Q E h=>?_) (λA af s H vs Q E h hr=>?_)
 .obtain⟨m,p,Y,n,v,rfl,_⟩:=h;rfl
 obtain⟨m,p,Y,n,v,rfl,M,hp,hU,hT,q⟩:=h;refine⟨_,?_,(cU (dG (GW kZ hr.m zZ (j:=0) zZ zZ zZ zZ (c8 (cD (pv 1) (cD (fc gv zZ jA gj (cN (pv 0) cJ)) (cD (Iq (qual:=sE) zZ hC bm (λ_ _ _ _ _=>rfl) zZ zZ) db zZ) zZ) zZ)))))⟩;obtain⟨rs,hm,ag,_⟩:=M.refs;refine⟨_,zZ,_,zZ,m,_,zZ,.inr (Q4 hm),?_⟩
 try dsimp only
 rw[cC,ag];have go: ∀(B t:Ad) (J:Vl) (L:Hp) (aa:AV),H T=some (.tbl aa)->KeepsBut T H L->L T=some (.tbl (lQ (⟨49,40,49,93⟩:Pos) t))->L t=some (lG t sE)-> ∀(d:Arguments) (k:Expr) (e:Scope) (pm:Vl) (c:Ad),L B=some (jk B (iK sE d k e sA c pm (.ref t) J))->
   ∀C,L c=none->(FnOk P w K mg base de 5 B (iK sE d k e sA c pm (.ref t) J) [sZ,sK] (eZ (Same (cA L c (hX c m C))) (eK n) Y.length (cI Y)))->Binds K (iK sE d k e sA c pm (.ref t) J) [sZ,sK] []->
   eE P w K mg base [.ref p,nv Y.length,.ref B,.non] (cA L c (hX c m C)) (λr H2=>H2 c=some (hX c m C)/\Q r (L2.drop H2 c)) E0:=λB t J L aa ab kb h1 h2 d k e pm c h3 C G hF hB=>by
  have u:=kb.keeps ab;have i:=cM G (hX c m C);have n5:=M.n5;refine⟨p,B,_,_,v,Y.length,eK n,cI Y,zZ,i _ _ (u _ _ (nU hp)),i _ _ h3,hU,λx hx l hl=>?_,?_,?_,hF,hB,λD ws as H2 N W nw TT=>⟨N _ _ cF,q D ws as _ (λb o O=>?_) (hT.but hq ab (λb o nb O=>?_) (.inr ⟨t,?_,?_⟩)) ⟨W.len,?_,λj a r e1 e2=>?_⟩ (λb O=>?_) TT⟩⟩
  .obtain⟨x1,x2⟩:=cG.mp hx;refine cG.mpr ⟨Ib _,λr hr=>?_⟩;obtain⟨y,h4,rfl⟩:=dh.mp (Bx hr);exact ou M [l] y (x2 y h4) λz hz=>by rw[dw.mp hz];exact hl
  .exact dL (iZ _ _) (by rw[cC,iU];decide)
  .have:=M.few;lia
  .have z:=u b o O;rw[eV (dU z G)];exact N _ _ (i _ _ z)
  .have z:=kb b o nb O;rw[eV (dU z G)];exact N _ _ (i _ _ z)
  .rw[eV (dU h1 G)];exact N _ _ (i _ _ h1)
  .rw[eV (dU h2 G)];exact N _ _ (i _ _ h2)
  .rw[eV (nE W.dict (N _ _ cF))];exact W.dict
  .have z:=W.list j a r e1 e2;rw[eV (nE z (N _ _ cF))];exact z
  .have z:=nw b O;cases y:L2.noT H b with
   |none=>rfl
   |some o=>
    have z2:=i _ _ (u _ _ y);rw[z]at z2;cases z2
 rcases hT _ hq with g|⟨t,g,I⟩
 .refine .inl ⟨g,λB t J U I ne=>⟨m,zZ,λC G=>?_⟩⟩;obtain⟨u,ah,ae⟩:=IV (⟨49,40,49,93⟩:Pos) sE g U I ne _;have i:=cM G (hX (s.heap.objs.size+1) m C);obtain⟨F1,F2⟩:=IC zZ jK ((M.keeps (u.keeps g)).same i) (i _ _ cF) cF (i _ _ ae);exact go B t J _ _ g u ah ae _ _ _ _ _ cF C G F1 F2
 .refine .inr ⟨t,g,I,λB J U=>⟨m,zZ,λC G=>?_⟩⟩;have u: ∀lo,Same H (cA H B lo):=λlo=>cM U lo;have i:=cM G (hX (s.heap.objs.size+1) m C);obtain⟨F1,F2⟩:=IC zZ jK ((M.same (u _)).same i) (i _ _ cF) cF (i _ _ (u _ _ _ I));exact go B t J _ _ g (λb o _ O=>u _ _ _ O) (u _ _ _ g) (u _ _ _ I) _ _ _ _ _ cF C G F1 F2
inductive gt(b:List V)(H:Hp)(Q:VK)(a:XK):Prop|mk:∀n:Nat,b=[nv n]->n<=1000->ww H ((List.range n).map nv) Q->gt b H Q a
def Ot(F:Fun K "still" "still" Do f fd)(b:mg "tuple"=none)(c:mg "range"=none):FnOk P w K mg base de 1 f fd [sB] gt:=by
 refine F.ok Mj (λd A a s H g Q E i h=>?_)
 obtain⟨n,rfl,j,q⟩:=h;refine⟨_,(cU (dG (iN (Fo zZ) zZ b mz (cN (iN DP zZ c boot_range (cN (pv 0) cJ)) cJ)))),?_⟩;refine⟨_,zZ,(n:Int),zZ,λp e=>⟨p,(n:Int),zZ,cF,(),(),λt ht=>?_⟩⟩;exact q t _ ((cM e _).trans (cM ht _)) cF
def eF(xs a:cz):cz:=xs.map λx=>a.getD x 0
inductive fG(g:List V)(H:Hp)(Q:VK)(d:XK):Prop|mk:∀(a b:Ad) (c e:cz),g=[.ref a,.ref b]->H a=some (.tup (c.map nv))->H b=some (.tup (e.map nv))->(∀x∈c,x<e.length)->c.length<=1000->ww H ((eF c e).map nv) Q->fG g H Q d
def Jy(F:Fun K vI vI BF f fd)(l:mg "tuple"=none):FnOk P w K mg base de 1 f fd [uE,tG] fG:=by
 refine F.ok Ma (λm A c s H z Q E B h=>?_)
 obtain⟨a,b,j,d,rfl,k,n,g,o,q⟩:=h;refine⟨_,(cU (dG (iN n6 zZ l mz (cN (gW (CompSc.to (N:=[uE,tG]) (osc:=cZ BF) (vs:=[uM]) {}) zZ zZ (ua (pv 0)) (λ_ _ _ _=>i3) (λ_ _ _ _=>(cW (IxR.k (K:=K) mS dr zZ) (pv 2) (pv 0) (λ_ _=>rfl)))) cJ)))),?_⟩;have e:(j.map nv).map (λv=>match v with| .int i=>nv (d.getD i.toNat 0)|v=>v)=(eF j d).map nv:=by
  unfold eF;rw[i4,i4];rfl
 refine⟨_,zZ,a,zZ,⟨_,Q4 k⟩,zh (f:=λv=>match v with| .int i=>nv (d.getD i.toNat 0)|v=>v) (by rw[cC];exact small o) (Q4 k) (λv Q r q=>?_) (λp u=>?_)⟩
 .obtain⟨x,y,rfl⟩:=dh.mp r;exact⟨_,zZ,_,zZ,b,_,_,_,zZ,zZ,Q4 n,mY (g x y),q⟩
 .rw[e];exact⟨p,_,zZ,.inl ⟨Q3 cF,λt ht=>q t _ ((cM u _).trans (cM ht _)) cF⟩⟩
def mF(n:Nat):Nat->List cz
 |0=>[[]]
 |k+1=>(mF n k).flatMap λx=>(List.range n).map λr=>x++[r]
theorem dJ{n:Nat}: ∀{k:Nat} {x:cz},x∈mF n k↔x.length=k/\ ∀r∈x,r<n
 | 0,x=>by
  show x∈[[]]↔_;rw[dw];constructor
  .rintro rfl;exact⟨zZ,λr a=>nomatch a⟩
  .rintro⟨h,_⟩;exact pZ.mp h
 | k+1,x=>by
  show x∈(mF n k).flatMap _↔_;rw[List.mem_flatMap];constructor
  .rintro⟨y,e,g⟩;obtain⟨r,a,rfl⟩:=dh.mp g;obtain⟨b,c⟩:=dJ.mp e;refine⟨by simp[b],λz i=>?_⟩
   rcases dD.mp i with m|m
   .exact c z m
   .rw[dw.mp m];exact f'.mp a
  .rintro⟨b,c⟩;have d:x≠[]:=λz=>by rw[z]at b;cases b
   refine⟨x.dropLast,dJ.mpr ⟨by rw[List.length_dropLast,b];rfl,λr a=>c r (List.dropLast_subset _ a)⟩,dh.mpr ⟨x.getLast d,f'.mpr (c _ (List.getLast_mem d)),Gm d⟩⟩
theorem Ft{n:Nat}: ∀k,(mF n k).length=n ^ k
 |0=>rfl
 | k+1=>by
  show((mF n k).flatMap _).length=_;rw[List.length_flatMap];have z: ∀l:LN,(l.map λx=>((List.range n).map λr=>x++[r]).length).sum=l.length * n:=by
   intro l
   induction l with
   |nil=>simp
   |cons a l b=>rw[iG,List.sum_cons,b,cC,iU,nt,Nat.succ_mul,Am]
  rw[z,Ft k,Nat.pow_succ]
def Lc{n:Nat}(h:n<=5):(mF n n).length<=4000:=by
 rw[Ft];have z: ∀k:Fin 6,(k:Nat) ^ (k:Nat)<=4000:=by decide
 exact z ⟨n,()⟩
def MS(n:Nat):List.range n∈mF n n:=dJ.mpr ⟨iU,λr a=>f'.mp a⟩
def gl(t:cz):Int:= -((t.length:Nat):Int)
def nj(a:LN)(t:cz):LN:=if a.contains t then a else a++[t]
def uniq(a:LN):LN:=a.foldl nj []
def LZ(a:LN)(t:cz):uniq (a++[t])=nj (uniq a) t:=by
 unfold uniq;rw[rj];rfl
def Kz{a:LN}{t x:cz}:x∈nj a t↔x∈a∨x=t:=by
 unfold nj;by_cases h:a.contains t=true
 .rw[wB h];constructor
  .exact .inl
  .rintro(b|rfl)
   .exact b
   .exact gV.mp h
 .rw[wA h,dD,dw]
def Ov{a:LN}{t:cz}(nd:a.Nodup):(nj a t).Nodup:=by
 unfold nj;by_cases h:a.contains t=true
 .rw[wB h];exact nd
 .rw[wA h,BS];refine⟨nd,by simp,λx b y c z=>h (List.contains_iff_mem.mpr ?_)⟩;rw[<-dw.mp c,<-z];exact b
def ES(b:LN):(uniq b).Nodup/\ ∀x,x∈uniq b↔x∈b:=by
 have go: ∀(b a:LN),a.Nodup->(b.foldl nj a).Nodup/\ ∀x,x∈b.foldl nj a↔x∈a∨x∈b:=by
  intro b
  induction b with
  |nil=>intro a nd;exact⟨nd,λx=>by simp⟩
  |cons t b e=>
   intro a nd;obtain⟨c,d⟩:=e (nj a t) (Ov nd);refine⟨c,λx=>?_⟩;rw[CD,d x,Kz,dZ,or_assoc]
 obtain⟨c,d⟩:=go b [] List.nodup_nil;exact⟨c,λx=>by rw[show uniq b=b.foldl nj []from rfl,d x];simp⟩
def Oz{b:List (List dB×V)}{d:LN}{t:cz}{v:V}(h:b.map (·.1)=d.map nk):(jv b (nk t) v).map (·.1)=(nj d t).map nk:=by
 have e:(b.any λa=>decide (a.1=nk t))=d.contains t:=by
  rw[lH,Bz,gV];constructor
  .rintro⟨a,g,i⟩;have m:a.1∈d.map nk:=by rw[<-h];exact dh.mpr ⟨a,g,zZ⟩
   obtain⟨u,j,k⟩:=dh.mp m;have z:=Bo (k.trans (ie i));rw[<-z];exact j
  .intro ht;have m:nk t∈b.map (·.1):=by rw[h];exact dh.mpr ⟨t,ht,zZ⟩
   obtain⟨a,g,i⟩:=dh.mp m;exact⟨a,g,eJ i⟩
 unfold jv nj;rw[e];by_cases c:d.contains t=true
 .rw[wB c,wB c,<-h,i4];refine uq λa _=>?_;show(if a.1=nk t then(a.1,v)else a).1=a.1;split<;>rfl
 .rw[wA c,wA c,eI,eI,h];rfl
theorem CM{i:Type}{lt:i->i->Bool}(j: ∀x,lt x x=false)(k: ∀x y z,lt x y=true->lt y z=true->lt x z=true): ∀{c d:List i},c.Pairwise (λx y=>lt x y=true)->d.Pairwise (λx y=>lt x y=true)->(∀x,x∈c↔x∈d)->c=d
 | [],[],_,_,_=>rfl
 | [],q::d,_,_,h=>wC ((h q).mpr (dY ..)) (by simp)
 |p::c,[],_,_,h=>wC ((h p).mp (dY ..)) (by simp)
 | p::c,q::d,n,o,h=>by
  obtain⟨l,s⟩:=vx.mp n;obtain⟨m,t⟩:=vx.mp o;have no: ∀{x y:i},lt x y=true->lt y x=true->False:=λ{x y} a b=>by
   have:=k _ _ _ a b;rw[j]at this;cases this
  have u:p=q:=by
   rcases dZ.mp ((h p).mp (dY ..))with e|e
   .exact e
   .rcases dZ.mp ((h q).mpr (dY ..))with e'|e'
    .exact e'.symm
    .exact(no (m p e) (l q e')).elim
  subst u;have rest:c=d:=CM j k s t λr=>by
   constructor
   .intro g
    rcases dZ.mp ((h r).mp (fR _ g))with e|e
    .subst e;have:=l r g;rw[j]at this;cases this
    .exact e
   .intro g
    rcases dZ.mp ((h r).mpr (fR _ g))with e|e
    .subst e;have:=m r g;rw[j]at this;cases this
    .exact e
  rw[rest]
inductive gJ(e:List V)(H:Hp)(Q:VK)(c:XK):Prop|mk:∀(l:Ad) (g:As) (a U:LN),e=[.ref l]->H l=some (.lst (g.map .ref))->TupsAt H g a->(∀t∈a,t∈U)->U.length<64->a.length<=4000->(∀D bs d b,Same H b->H D=none->b D=some (.lst (bs.map .ref))->TupsAt b bs d->(∀x,x∈d↔x∈a)->d.Pairwise (λx y=>gS gl x y=true)->Q (.ref D) b)->gJ e H Q c
def Mt(F:Fun K "place_of" "place_of" Cr f fd)(d:mg "len"=none):FnOk P w K mg base de 1 f fd [sB] (il gl):=by
 refine F.ok Lg (λe A b s H j Q E k h=>?_)
 obtain⟨a,t,rfl,g,q⟩:=h;refine⟨_,(cU (dG (jg (c8 (cD (xI Nj (fc gv zZ d gj (cN (pv 0) cJ))) (cD (pv 0) db zZ) zZ))))),?_⟩;refine⟨_,zZ,a,_,zZ,.inr (Q4 g),_,zZ,_,zZ,by show 2<=sizeLine;decide,λi c=>?_⟩;refine q i _ (cM c _) ?_;rw[cF,cC];rfl
def Kh(F:Fun K "in_order" "in_order" DO f fd)(M:dE P w K mg base "place_of" 1 [sB] (il gl))(N:mg "sorted"=none):FnOk P w K mg base de 5 f fd [sX] gJ:=by
 refine F.ok rK (λO A r s H vs Q E u h=>?_)
 obtain⟨l,Y,c,U,rfl,z,T,inU,few,B,q⟩:=h;have hu:=u.units;have v:=jq u;refine⟨_,(cQ (dj (i:=1) rK.nd zZ (Or.inl zZ) yL) (cQ (iH gY zZ (iT (pv 0)) (fb (i:=2) rK.nd zZ (Or.inl zZ)) (cU (vf v (pv 1) (pv 2) tj zZ))) (cU (dG (M9 zZ hu M u.m zZ N zZ (pv 1)))))),?_⟩;intro d C;have G:=cM C (.dT []);have la:=T.len;obtain⟨un,I⟩:=ES c;refine⟨_,zZ,l,zZ,⟨_,Q3 (G _ _ z)⟩,pK (xs:=Y.map .ref) (λi n j=>Same H j/\ ∃b o,j d=some (.dT b)/\b.map (·.1)=(uniq (c.take i)).map nk/\n=[some (.ref l),some (.ref d),o]) ⟨G,[],none,cF,zZ,zZ⟩ (λi n j _ p=>Q3 (p.1 _ _ z)) (λi x n j e p=>?_) (λn j p=>?_)⟩
 .obtain⟨g,b,o,y,k,rfl⟩:=p;rw[cV]at e;obtain⟨a,J,rfl⟩:=eU.mp e;have li:=(cP.mp J).1;obtain⟨t,L⟩: ∃t,c[i]? =some t:=⟨_,cE ()⟩;have ha:=g _ _ (T.is i a t J L);have lk:b.length<=c.length:=by
   rw[<-cC (f:=(·.1)) (as:=b),k,cC];refine dL (oF (ES _).1 (U:=c) λx e=>?_) (cO _);exact vi (((ES _).2 x).mp e)
  refine⟨_,zZ,_,zZ,d,_,zZ,DPut.t y (by rw[j9];exact ha) (by rw[dz];lia),?_⟩;refine⟨gR g C,_,_,cF,?_,zZ⟩;rw[Oz k,iY,L];show _=(uniq (c.take i++[t])).map nk;rw[LZ]
 .obtain⟨g,b,o,y,k,rfl⟩:=p;rw[cC,la,hA]at k;have lu:(uniq c).length<64:=xG (oF un λx e=>inU x ((I x).mp e)) few;refine⟨_,zZ,d,zZ,d,b,uniq c,zZ,y,k,lu,λD bs us H2 g2 hD eD T2 m pw=>?_⟩;exact q D bs us H2 (g.trans g2) (g.free hD) eD T2 (λx=>(m.mem_iff).trans (I x)) pw
def PicsAt(H:Hp)(l:Ad)(d:As)(e:TW):Prop:=H l=some (.lst (d.map .ref))/\d.length=e.length/\ ∀(j:Nat) (a:Ad) (p:cz×cz),d[j]? =some a->e[j]? =some p-> ∃b c,c≠l/\H a=some (.tup [.ref b,.ref c])/\H b=some (.tup (p.1.map nv))/\H c=some (.lst (p.2.map nv))
inductive gc(T:Ad)(pos:Pos)(d:List V)(H:Hp)(Q:VK)(b:XK):Prop|mk:∀(m:Ad) (c:LN) (n:Nat),d=[.ref m]->Mach H m c n->Tabs H->(∀l g e a,Keeps H a->Tabs a->PicsAt a l g e->Told (cI c) c.length (List.range n) e->Q (.ref l) a)->gc T pos d H Q b
def hI(a:cz):List Dt:=(a.map λ(n:Nat)=>(n:Int)).map Dt.int
def CV{a b:cz}(h:hI a=hI b):a=b:=dC.mp (dN Dt.tup h)
def HZ{n:Nat}(h:n<=5):List.range n∈eK n:=by
 have z: ∀k:Fin 6,fV (List.range k)=List.range k:=by decide+kernel
 exact cG.mpr ⟨z ⟨n,()⟩,λr a=>f'.mp a⟩
def KH{T:Ad}(F:Fun K "pictures" "pictures" Cp f fd)(Y:dE P w K mg base "still" 1 [sB] gt)(jS:dE P w K mg base sU 10 [sA,sB] (dS T (⟨49,40,49,93⟩:Pos)))(jA:mg "len"=none)(qO:mg "list"=none):
  FnOk P w K mg base de 12 f fd [sA] (gc T (⟨49,40,49,93⟩:Pos)):=by
 refine F.ok rO (λaa A g s H vs Q E G h=>?_)
 obtain⟨m,ts,n,rfl,M,hT,q⟩:=h;have t1:=M.some1;have n5:=M.n5;obtain⟨_,r0,b1,b2,b3,b4,b5,b6⟩:=M.at (l:=0) ();refine⟨_,(cQ (dj (i:=1) rO.nd zZ (Or.inl zZ) (dH jS G.m zZ (c8 (cD (pv 0) (cD (dH Y G.m zZ (cN (fc gv zZ jA gj (cN (cW dr (pv 0) cR (λ_ _=>rfl)) cJ)) cJ)) db zZ) zZ)))) (cU (dG (iN (Kg zZ) zZ qO boot_list (cN (Ly PySem.F.plainAttrs_dict PySem.F.slot_dict_items PySem.F.type_dict_items JT (pv 1)) cJ))))),?_⟩;refine⟨_,zZ,_,zZ,m,_,_,_,zZ,zZ,Q4 b1,b3,r0,_,zZ,.inr (Q4 b4),?_⟩
 try dsimp only
 rw[cC,b5];refine⟨n,zZ,(),λst H1 r t=>⟨m,st,ts,n,List.range n,zZ,M.same r,t,HZ n5,hT.same r,λD ws as I k2 T2 W _ TT=>?_⟩⟩;refine⟨_,zZ,.inr (.inr (.inl ⟨zZ,.inr ⟨_,W.dict⟩⟩)),zZ,D,_,zZ,W.dict,λv hv=>?_⟩;have u:=cM hv (yP v D);refine⟨v,D,_,zZ,cF,u _ _ W.dict,λl ps y d=>?_⟩;have B:Same (cA I v (yP v D)) y:=λb o e=>by
  rw[d.rest b (dU e d.new) λz=>by rw[d.news b z]at e;cases e];exact e
 have J:Same I y:=u.trans B;refine q l ps ws y ((r.keeps.trans k2).trans J.keeps) (T2.same J) ⟨d.lst,by rw[d.len,IS W.len],λj a p t C=>?_⟩ TT;obtain⟨k,x,b,L,N,f3⟩:=d.is j a t;obtain⟨hj,_⟩:=cP.mp C;obtain⟨c,O⟩: ∃c,as[j]? =some c:=⟨_,cE (by rw[W.len];exact hj)⟩;rw[Nz C O]at L;cases L;have U:=u _ _ (W.list j c p O C);rw[j9]at N;exact⟨b,c,dU U d.new,f3,B _ _ N,B _ _ U⟩
def GH{a b:cz}(h: ∀r,r∈a↔r∈b):fV a=fV b:=by
 unfold fV;refine vo λi _=>?_;rw[lH,gV,gV];exact h i
def vc{H:Hp}{m:Ad}{a:LN}{n:Nat}(M:Mach H m a n){x:cz}{l:Nat}(b:x∈eK n)(c:l<a.length):cI a x l∈eK n:=by
 obtain⟨i,d⟩:=cG.mp b;refine cG.mpr ⟨Ib _,λr e=>?_⟩;obtain⟨y,g,rfl⟩:=dh.mp (Bx e);exact ou M [l] y (d y g) λz h=>by rw[dw.mp h];exact c
theorem AN{H:Hp}{m:Ad}{a:LN}{n:Nat}(M:Mach H m a n): ∀(word:cz) (x:cz),x∈eK n->(∀l∈word,l<a.length)->dv (cI a) x word=fV (nJ a x word)
 | [],x,c,_=>by
  show x=fV (x.map λr=>e7 a r []);rw[show(λr=>e7 a r [])=id from rfl,List.map_id];exact(cG.mp c).1.symm
 | l::word,x,c,h=>by
  have e:=h l (dY ..);have g:=M.n5;show dv (cI a) (cI a x l) word=_;rw[AN M word _ (vc M c e) λy b=>h y (fR _ b)];refine GH λr=>?_;unfold nJ;rw[dh,dh];constructor
  .rintro⟨y,b,rfl⟩;obtain⟨z,d,rfl⟩:=dh.mp (Bx b);exact⟨z,d,zZ⟩
  .rintro⟨z,d,rfl⟩;have i:=ou M [l] z ((cG.mp c).2 z d) λy b=>by rw[dw.mp b];exact e
   exact⟨e7 a z [l],IR (dh.mpr ⟨z,d,zZ⟩) (),zZ⟩
theorem C7{b:Type}{P:Nat->b->Prop}: ∀{n:Nat},(∀j,j<n-> ∃x,P j x)-> ∃a:List b,a.length=n/\ ∀(j:Nat) (x:b),a[j]? =some x->P j x
 |0,_=>⟨[],zZ,λj x e=>by simp at e⟩
 | n+1,h=>by
  obtain⟨a,c,d⟩:=C7 (n:=n) λj g=>h j ();obtain⟨x,i⟩:=h n ();refine⟨a++[x],by simp[c],λj y e=>?_⟩;by_cases g:j<n
  .rw[fe ()]at e;exact d j y e
  .rw[e9 ()]at e;have z:j-a.length=0:=by
    have:=(cP.mp e).1;simp at this;lia
   rw[z]at e;cases e;have k:j=n:=by lia
   subst k;exact i
structure Prs(H:Hp)(l:Ad)(as:As)(bc:List (Ad×Ad))(ws:TW):Prop where
 lst:H l=some (.lst (as.map .ref))
 la:as.length=ws.length
 lb:bc.length=ws.length
 is: ∀(j:Nat) (a:Ad) (q:Ad×Ad) (p:cz×cz),as[j]? =some a->bc[j]? =some q->ws[j]? =some p->q.2≠l/\H a=some (.tup [.ref q.1,.ref q.2])/\H q.1=some (.tup (p.1.map nv))/\H q.2=some (.lst (p.2.map nv))
def PicsAt.prs{H:Hp}{l:Ad}{i:As}{d:TW}(h:PicsAt H l i d): ∃o,Prs H l i o d:=by
 obtain⟨r,s,t⟩:=h;obtain⟨o,u,v⟩:=C7 (n:=d.length) (P:=λj (q:Ad×Ad)=> ∀a p,i[j]? =some a->d[j]? =some p->q.2≠l/\H a=some (.tup [.ref q.1,.ref q.2])/\H q.1=some (.tup (p.1.map nv))/\H q.2=some (.lst (p.2.map nv))) λj x=>by
  obtain⟨a,k⟩: ∃a,i[j]? =some a:=⟨_,cE ()⟩;obtain⟨p,m⟩: ∃p,d[j]? =some p:=⟨_,cE x⟩;obtain⟨b,c,y,z,A,B⟩:=t j a p k m;refine⟨(b,c),λD E e g=>?_⟩;rw[k]at e;rw[m]at g;cases e;cases g;exact⟨y,z,A,B⟩
 exact⟨o,r,s,u,λj a q p k C m=>v j q C a p k m⟩
def Prs.at{H:Hp}{l:Ad}{as:As}{c:List (Ad×Ad)}{b:TW}(h:Prs H l as c b){j:Nat}(i:j<b.length): ∃a q p,as[j]? =some a/\c[j]? =some q/\b[j]? =some p/\q.2≠l/\H a=some (.tup [.ref q.1,.ref q.2])/\H q.1=some (.tup (p.1.map nv))/\H q.2=some (.lst (p.2.map nv)):=by
 have k:=h.la;have m:=h.lb;obtain⟨a,d⟩: ∃a,as[j]? =some a:=⟨_,cE ()⟩;obtain⟨q,e⟩: ∃q,c[j]? =some q:=⟨_,cE ()⟩;obtain⟨p,g⟩: ∃p,b[j]? =some p:=⟨_,cE i⟩;exact⟨a,q,p,d,e,g,h.is j a q p d e g⟩
def Ec(a:LN)(n:Nat)(x:cz):Prop:= ∃word:cz,(∀l∈word,l<a.length)/\dv (cI a) (List.range n) word=x
structure FamOf(ts:LN)(n:Nat)(us:LN):Prop where
 up:us.Pairwise λx y=>gS gl x y=true
 mem: ∀x,x∈us↔(Ec ts n x∨ ∃r,r<n/\x=[r])
def FamOf.uniq{b:LN}{n:Nat}{a c:LN}(d:FamOf b n a)(e:FamOf b n c):a=c:=CM (oA gl a).irr (oA gl a).trans d.up e.up λx=>(d.mem x).trans (e.mem x).symm
def Co{a:LN}{n:Nat}{b:TW}(T:Told (cI a) a.length (List.range n) b)(x:cz):x∈b.map (·.1)↔Ec a n x:=by
 constructor
 .intro h;obtain⟨p,c,rfl⟩:=dh.mp h;obtain⟨d,e⟩:=T.run p c;exact⟨p.2,d,e⟩
 .rintro⟨word,g,rfl⟩;obtain⟨u,i,_⟩:=T.least _ word zZ g;exact dh.mpr ⟨_,i,zZ⟩
def x9{n r:Nat}(b:n<=5)(h:r<n):[r]∈eK n:=by
 have z: ∀k:Fin 5,fV [(k:Nat)]=[(k:Nat)]:=by decide+kernel
 exact cG.mpr ⟨z ⟨r,()⟩,λx a=>by rw[dw.mp a];exact h⟩
def Eu{H:Hp}{m:Ad}{a:LN}{n:Nat}(M:Mach H m a n){x:cz}(h:Ec a n x):x∈eK n:=by
 obtain⟨word,b,rfl⟩:=h;exact v5 (HZ M.n5) (λy c l d=>vc M c d) word b
def Dj(n:Nat):(eK n).length<=32:=dL (iZ _ _) (by rw[cC,iU];decide)
def FamOf.inU{H:Hp}{m:Ad}{a:LN}{n:Nat}{b:LN}(M:Mach H m a n)(h:FamOf a n b){x:cz}(c:x∈b):x∈eK n:=by
 rcases (h.mem x).mp c with z|⟨r,d,rfl⟩
 .exact Eu M z
 .exact x9 M.n5 d
def FamOf.few{H:Hp}{m:Ad}{d:LN}{n:Nat}{c:LN}(M:Mach H m d n)(h:FamOf d n c):c.length<=32:=by
 refine dL (oF (U:=eK n) ?_ λx g=>h.inU M g) (Dj n);exact h.up.imp λ{a b} z e=>by
  subst e;rw[(oA gl c).irr]at z;cases z
def ud{n:Nat}(a:n<=5){x:cz}(h:x∈eK n):x.length<=n:=by
 obtain⟨b,c⟩:=cG.mp h;rw[<-b,M5 a c];exact dL (iZ _ _) (by simp)
def q0{H:Hp}{d:Ad}{o c:HO}{bs:As}{a:LN}(T:TupsAt H bs a)(h:H d=some o)(no: ∀g,o≠ .tup g):TupsAt (cA H d c) bs a:=⟨T.len,λi b u j k=>by
 have z:=T.is i b u j k;rw[cK (kh z h λe=>no _ e.symm)];exact z⟩
def v7{H:Hp}{bs:As}{d:LN}{p:Ad}{u:cz}(h:TupsAt H bs d)(e:H p=some (.tup (u.map nv))):TupsAt H (bs++[p]) (d++[u]):=by
 refine⟨by simp[h.len],λi b v c a=>?_⟩;have l:=h.len;by_cases g:i<d.length
 .rw[fe ()]at c a;exact h.is i b v c a
 .rw[e9 ()]at c a;have z:i-d.length=0:=by
   have:=(cP.mp a).1;simp at this;lia
  rw[l,z]at c;rw[z]at a;cases c;cases a;exact e
def LA{H:Hp}{bs e:As}{d g:LN}(h:TupsAt H bs d)(j:TupsAt H e g):TupsAt H (bs++e) (d++g):=by
 refine⟨by simp[h.len,j.len],λi b v a c=>?_⟩;have l:=h.len;by_cases k:i<d.length
 .rw[fe ()]at a c;exact h.is i b v a c
 .rw[e9 ()]at a c;rw[l]at a;exact j.is _ b v a c
def GB{c d:LN}(h:(Dt.lst (c.map λu=> .tup (hI u)))=Dt.lst (d.map λu=> .tup (hI u))):c=d:=by
 injection h with h
 exact tA (λa b e=>by injection e with e;exact CV e) h
inductive gi(T:Ad)(pos:Pos)(c:List V)(H:Hp)(Q:VK)(b:XK):Prop|mk:∀(m:Ad) (d:LN) (n:Nat),c=[.ref m]->Mach H m d n->Tabs H->(∀D bs e a,Keeps H a->Tabs a->L2.noT H D=none->a D=some (.lst (bs.map .ref))->TupsAt a bs e->FamOf d n e->Q (.ref D) a)->gi T pos c H Q b
def Lq{T:Ad}(F:Fun K "family" "family" vz f fd)(rD:dE P w K mg base "pictures" 12 [sA] (gc T (⟨49,40,49,93⟩:Pos)))(rE:dE P w K mg base "in_order" 5 [sX] gJ)(jA:mg "len"=none)(jC:mg "range"=none):FnOk P w K mg base de 14 f fd [sA] (gi T (⟨49,40,49,93⟩:Pos)):=by
 refine F.ok rW (λak A aa s H vs Q E hr h=>?_)
 obtain⟨m,ts,n,rfl,M,hT,q⟩:=h;have t1:=M.some1;have n1:=M.n1;have n5:=M.n5;obtain⟨_,r0,b1,b2,b3,b4,b5,b6⟩:=M.at (l:=0) ();refine⟨_,(cQ (IL (CompSc.to (N:=[sA,"singles"]) (osc:=cZ vz) (vs:=[uM]) {}) zZ zZ rW.nd (j:=1) zZ zZ (m8 zZ jC (cN (fc gv zZ jA gj (cN (cW dr (pv 0) cR (λ_ _=>rfl)) cJ)) cJ)) (λ_ _ _ _=>i3) (λ_ _ _ _=>(jg (cN (pv 0) cJ)))) (cU (dG (dH rE hr.m zZ (cN (fv C8 (HK (CompSc.to (N:=[sA,"singles"]) (osc:=cZ vz) (vs:=[sB,tN]) {}) zZ (iT (dH rD hr.m zZ (cN (pv 0) cJ))) (ML (CompSc.to (N:=[sA,"singles"]) (osc:=cZ vz) (vs:=[sB,tN]) {}) zZ zZ zZ) (λ_ _ _ _=>i3) (λ_ _ _ _=>(pv 0))) (pv 1)) cJ))))),?_⟩;refine⟨_,zZ,m,_,_,_,zZ,zZ,Q4 b1,b3,r0,_,zZ,.inr (Q4 b4),(n:Int),by rw[cC,b5],(),(),si (λi d c=>Same H c/\ ∃a,d=a.map V.ref/\a.length=i/\TupsAt c a ((List.range i).map λr=>[r])) (by rw[ip];exact small ()) ⟨Same.refl _,[],zZ,zZ,zZ,λi b u e=>by simp at e⟩ (λi d c _ p=>?_) (λi d c hi p=>?_) (λd H1 p U ab=>?_)⟩
 .obtain⟨_,a,rfl,e,_⟩:=p;rw[cC];lia
 .obtain⟨g,a,rfl,e,Y⟩:=p;have e0:V.int (0+(i:Int))=nv i:=by show V.int (0+(i:Int))=V.int (i:Int);rw[pF]
  refine⟨iO,lB ⟨_,zZ,by show 1<=sizeLine;decide,λp hp=>?_⟩⟩;have k:=cM hp (.tup [V.int (0+(i:Int))]);refine⟨g.trans k,a++[p],by simp,by simp[e],?_⟩;rw[zC,eI];refine v7 (Y.same k) ?_;rw[cF,e0];rfl
 obtain⟨g1,a,rfl,er,Y⟩:=p;rw[ip]at Y er;have k1:=cM ab (.lst (a.map V.ref));have I:cA H1 U (.lst (a.map V.ref)) U=some (.lst (a.map V.ref)):=cF;have T2:=Y.same k1;have B:=g1.trans k1;generalize cA H1 U (.lst (a.map V.ref))=H2 at k1 I T2 B⊢;refine⟨_,zZ,m,ts,n,zZ,M.same B,hT.same B,λl as ws H3 k3 T3 ae TT=>?_⟩;obtain⟨bc,C⟩:=ae.prs;have aj:=(M.same B);have few:ws.length<=32:=by
  rw[<-cC (f:=(·.1)) (as:=ws)];exact dL (oF TT.keys λx hx=>Eu M ((Co TT x).mp hx)) (Dj n)
 refine⟨l,zZ,⟨_,Q3 C.lst⟩,m7 (xs:=as.map .ref) (λi d c=>c=H3/\ ∃bs,d=bs.map V.ref/\bs.length=i/\TupsAt H3 bs ((ws.take i).map (·.1))) (by rw[cC,C.la,dz];lia) ⟨zZ,[],zZ,zZ,zZ,λi b u e=>by simp at e⟩ (λi d c _ p=>?_) (λi v d c hv p=>?_) (λd c p c1 af=>?_)⟩
 .obtain⟨rfl,bs,rfl,e,_⟩:=p;exact⟨Q3 C.lst,by rw[cC];lia⟩
 .obtain⟨rfl,bs,rfl,e,J⟩:=p;rw[cV]at hv;obtain⟨a1,ea,rfl⟩:=eU.mp hv;obtain⟨a',q',p',L,al,ag,f0,f1,f2,f3⟩:=C.at (j:=i) (by have:=(cP.mp ea).1;rw[<-C.la];exact this);rw[ea]at L;cases L;refine⟨a1,_,zZ,Q4 f1,zZ,_,_,zZ,_,_,zZ,zZ,Jb,lB ⟨_,zZ,zZ,bs++[q'.1],by simp,by simp[e],?_⟩⟩;rw[iY,ag,eI];exact v7 J f2
 obtain⟨rfl,bs,rfl,e,J⟩:=p;rw[cC,C.la,hA]at J;have G:=cM af (.lst (bs.map V.ref));have O:=G _ _ (k3 _ _ (nU I));have T5:TupsAt (cA c c1 (.lst (bs.map V.ref))) a ((List.range n).map λr=>[r]):=⟨T2.len,λi b u e1 e2=>G _ _ (k3 _ _ (nU (T2.is i b u e1 e2)))⟩;have lb:bs.length=ws.length:=by rw[J.len,cC]
 refine⟨_,zZ,c1,U,_,_,zZ,zZ,Q3 cF,Q3 O,by rw[cC,cC,lb,er,dz];lia,λl2 ah=>?_⟩;have k2:=cM ah (.lst (bs.map V.ref++a.map V.ref));have T6:=(LA (J.same G) T5).same k2;refine⟨l2,bs++a,_,eK n,zZ,by rw[cF,eI],T6,λt ht=>?_,xG (Dj n) (by decide),by rw[dF,cC,cC,iU];lia,λD ds us H5 g5 hD eD T7 mem up=>?_⟩
 .rcases dD.mp ht with z|z
  .exact Eu M ((Co TT t).mp z)
  .obtain⟨r,ai,rfl⟩:=dh.mp z;exact x9 n5 (f'.mp ai)
 .have kk:Keeps H H5:=((B.keeps.trans k3).trans (G.trans k2).keeps).trans g5.keeps;refine q D ds us H5 kk (T3.same ((G.trans k2).trans g5)) ?_ eD T7 ⟨up,λx=>?_⟩
  .cases y:L2.noT H D with
   |none=>rfl
   |some o=>
    have z:=(G.trans k2) _ _ ((B.keeps.trans k3) _ _ y);rw[hD]at z;cases z
  .rw[mem x,dD,Co TT x];refine or_congr Iff.rfl ?_;rw[dh];constructor
   .rintro⟨r,h1,rfl⟩;exact⟨r,f'.mp h1,zZ⟩
   .rintro⟨r,h1,rfl⟩;exact⟨r,f'.mpr h1,zZ⟩
def sub(x y:cz):Bool:=x.all λr=>y.contains r
inductive jy(d:List V)(H:Hp)(Q:VK)(c:XK):Prop|mk:∀(a b:Ad) (x y:cz),d=[.ref a,.ref b]->H a=some (.tup (x.map nv))->H b=some (.tup (y.map nv))->x.length<=5->(∀e,Same H e->Q (.bl (sub x y)) e)->jy d H Q c
def i0(a:LN)(x:cz):LN:=a.filter λu=>decide (u≠x)&&sub u x
def mX(a:LN)(u:cz):Bool:=a.any λv=>decide (v≠u)&&sub u v
def jd(a:LN)(x:cz):LN:=(i0 a x).filter λu=> !mX (i0 a x) u
inductive nI(d:List V)(H:Hp)(Q:VK)(b:XK):Prop|mk:∀(a l:Ad) (x:cz) (bs:As) (c:LN),d=[.ref a,.ref l]->H a=some (.tup (x.map nv))->H l=some (.lst (bs.map .ref))->TupsAt H bs c->x.length<=5->c.length<=32->(∀e,Same H e->Q (.bl (mX c x)) e)->nI d H Q b
inductive i8(T:Ad)(pos:Pos)(d:List V)(H:Hp)(Q:VK)(c:XK):Prop|mk:∀(m p:Ad) (e:LN) (n:Nat) (x:cz),d=[.ref m,.ref p]->Mach H m e n->H p=some (.tup (x.map nv))->Tabs H->(∀D bs g a b,Keeps H b->Tabs b->L2.noT H D=none->b D=some (.lst (bs.map .ref))->TupsAt b bs g->FamOf e n a->g=jd a x->Q (.ref D) b)->i8 T pos d H Q c
def Bs{H:Hp}{d:As}{b:LN}{f:cz->Bool}{i:Nat}{a:Ad}{t:cz}(T:TupsAt H d ((b.take i).filter f))(e:b[i]? =some t)(g:H a=some (.tup (t.map nv))):if f t=true then TupsAt H (d++[a]) ((b.take (i+1)).filter f)else TupsAt H d ((b.take (i+1)).filter f):=by
 have h:(b.take (i+1)).filter f=(b.take i).filter f++(if f t=true then[t]else[]):=by
  rw[iY,e,tv];cases c:f t with
  |true=>simp[c]
  |false=>simp[c]
 rw[h];cases c:f t with
 |true=>exact v7 T g
 |false=>
  rw[wA (by decide),wA (by decide),iV];exact T
def L7(F:Fun K uY uY Bl f fd)(g:mg "all"=none):FnOk P w K mg base de 1 f fd [uE,tG] jy:=by
 refine F.ok No (λj A c s H p Q E t h=>?_)
 obtain⟨a,b,x,y,rfl,d,k,u,q⟩:=h;refine⟨_,(cU (dG (fc (NU zZ) zZ g boot_all (cN (gW (CompSc.to (N:=[uE,tG]) (osc:=cZ Bl) (vs:=[uM]) {}) zZ zZ (ua (pv 0)) (λ_ _ _ _=>i3) (λ_ _ _ _=>(wm (OpR.k (K:=K) (λK=>yj K false) MH zZ) (pv 0) (pv 2) (by with_unfolding_all rfl)))) cJ)))),?_⟩;refine⟨_,zZ,a,zZ,⟨_,Q4 d⟩,zh (f:=λv=>match v with| .int i=> .bl (y.contains i.toNat)|v=>v) (by rw[cC];exact small ()) (Q4 d) (λv Q m q=>?_) (λl n=>?_)⟩
 .obtain⟨r,z,rfl⟩:=dh.mp m;refine⟨_,zZ,_,zZ,b,_,zZ,.inr (Q4 k),zZ,IF _,?_⟩
  try dsimp only
  rw[Ht];exact q
 .have e:(x.map nv).map (λv=>match v with| .int i=>V.bl (y.contains i.toNat)|v=>v)=(x.map λr=>y.contains r).map V.bl:=by
   rw[i4,i4];rfl
  try dsimp only
  rw[e];refine⟨l,_,zZ,Q3 cF,?_⟩;have o:(x.map λr=>y.contains r).all id=sub x y:=by
   unfold sub;rw[List.all_map];rfl
  try dsimp only
  rw[o];exact q _ (cM n _)
def OK(F:Fun K vJ vJ BE f fd)(L:dE P w K mg base uY 1 [uE,tG] jy)(M:mg "any"=none):FnOk P w K mg base de 3 f fd [tW,sX] nI:=by
 refine F.ok Jg (λO A n s H vs Q E r h=>?_)
 obtain⟨a,l,x,bs,j,rfl,U,t,T,Y,few,q⟩:=h;have hu:=r.units;have lb:=T.len;refine⟨_,(cU (dG (fc (E8 zZ) zZ M boot_any (cN (gW (CompSc.to (N:=[tW,sX]) (osc:=cZ BE) (vs:=[tG]) {}) zZ zZ (iT (pv 1)) (λ_ _ _ _=>i3) (λ_ _ _ _=>(Aw (wm (OpR.k (K:=K) (λK=>j7 K true) (AI hu) zZ) (pv 0) (pv 1) (fY _)) (AF (dH L r.m zZ (c8 (cD (pv 1) (cD (pv 0) db zZ) zZ))))))) cJ)))),?_⟩;refine⟨_,zZ,l,zZ,⟨_,Q3 t⟩,m7 (xs:=bs.map .ref) (λi k m=>Same H m/\k=((j.take i).map λv=>decide (v≠x)&&sub x v).map V.bl) (by rw[cC,dz];lia) ⟨Same.refl _,zZ⟩ (λi k m hi p=>?_) (λi v k m y p=>?_) (λk m p c1 o=>?_)⟩
 .obtain⟨g,rfl⟩:=p;exact⟨Q3 (g _ _ t),by simp;lia⟩
 .obtain⟨g,rfl⟩:=p;rw[cV]at y;obtain⟨b,B,rfl⟩:=eU.mp y;have li:=(cP.mp B).1;obtain⟨u,C⟩: ∃u,j[i]? =some u:=⟨_,cE ()⟩;have D:=g _ _ (T.is i b u B C);have G:=g _ _ U;have I:((j.take (i+1)).map λv=>decide (v≠x)&&sub x v).map V.bl=((j.take i).map λv=>decide (v≠x)&&sub x v).map V.bl++[V.bl (decide (u≠x)&&sub x u)]:=by
   rw[iY,C,eI,eI];rfl
  refine⟨iO,lB ?_⟩;refine⟨_,zZ,_,zZ,b,a,0,_,_,zZ,zZ,iX (Q4 D),iX (Q4 G),by decide,λc J=>?_⟩;by_cases e:u=x
  .have d:c=true:=J.mpr (dC.mpr e);subst d;refine⟨_,zZ,fq ⟨g,?_⟩⟩;rw[I,fy (λz=>z e)];rfl
  .have d:c=false:=by
    cases c with
    |false=>rfl
    |true=>exact wC (dC.mp (J.mp zZ)) e
   subst d;refine⟨_,zZ,fH ⟨_,zZ,_,zZ,a,b,x,u,zZ,G,D,Y,λH4 g4=>⟨g.trans g4,?_⟩⟩⟩;rw[I,eJ e,zp]
 .obtain⟨g,rfl⟩:=p;rw[cC,lb,hA];have e2:(j.map λv=>decide (v≠x)&&sub x v).any id=mX j x:=by
   unfold mX;rw[Bv];rfl
  refine⟨c1,_,zZ,Q3 cF,?_⟩
  try dsimp only
  rw[e2];exact q _ (g.trans (cM o _))
def Ld{T:Ad}(F:Fun K sJ sJ xp f fd)(qJ:dE P w K mg base "family" 14 [sA] (gi T (⟨49,40,49,93⟩:Pos)))(jZ:dE P w K mg base uY 1 [uE,tG] jy)(qP:dE P w K mg base vJ 3 [tW,sX] nI):FnOk P w K mg base de 16 f fd [sA,sB] (i8 T (⟨49,40,49,93⟩:Pos)):=by
 refine F.ok rY (λag A ab s H vs Q E hr h=>?_)
 obtain⟨m,p,ts,n,x,rfl,M,hp,hT,q⟩:=h;have hu:=hr.units;have n5:=M.n5;refine⟨_,(cQ (dj (i:=2) rY.nd zZ (Or.inr zZ) (gW (CompSc.to (N:=[sA,sB,uR]) (osc:=cZ xp) (vs:=[tW]) {}) zZ zZ (iT (dH qJ hr.m zZ (cN (pv 0) cJ))) (λ_ _ _ _=>qx (PW.pt (uo (gB (OpR.k (K:=K) (λK=>j7 K true) (AI hu) zZ) (pv 0) (pv 2) (fY _)) (wj (re (dH jZ hr.m zZ (c8 (cD (pv 0) (cD (pv 2) db zZ) zZ)))))))) (λ_ _ _ _=>(pv 0)))) (cU (dG (gW (CompSc.to (N:=[sA,sB,uR]) (osc:=cZ xp) (vs:=[tW]) {}) zZ zZ (iT (pv 2)) (λ_ _ _ _=>qx (xc (re (dH qP hr.m zZ (c8 (cD (pv 0) (cD (pv 3) db zZ) zZ)))))) (λ_ _ _ _=>(pv 0)))))),?_⟩;refine⟨_,zZ,m,ts,n,zZ,M,hT,λl bs a H1 k1 T1 nl el Tf ff=>?_⟩;have few:=ff.few M;have lb:=Tf.len;have ae:=k1 _ _ (nU hp);have l5: ∀u∈a,u.length<=5:=λu h=>dL (ud n5 (ff.inU M h)) n5;refine⟨l,zZ,⟨_,Q3 el⟩,m7 (xs:=bs.map .ref) (λi k r=>Same H1 r/\ ∃d,k=d.map V.ref/\d.length<=i/\TupsAt r d ((a.take i).filter λu=>decide (u≠x)&&sub u x)) (by rw[cC,dz];lia) ⟨Same.refl _,[],zZ,cO _,zZ,λi b u e=>by simp at e⟩ (λi k r hi p=>?_) (λi v k r L p=>?_) (λk H2 p O af=>?_)⟩
 .obtain⟨g,d,rfl,e,_⟩:=p;exact⟨Q3 (g _ _ el),by rw[cC];exact e⟩
 .obtain⟨g,d,rfl,e,U⟩:=p;rw[cV]at L;obtain⟨b,Y,rfl⟩:=eU.mp L;have li:=(cP.mp Y).1;obtain⟨u,B⟩: ∃u,a[i]? =some u:=⟨_,cE ()⟩;have C:=g _ _ (Tf.is i b u Y B);have hx:=g _ _ ae;refine⟨iO,_,zZ,_,zZ,b,_,0,_,_,zZ,zZ,iX (Q4 C),iX (Q4 hx),by decide,λc hc=>⟨_,zZ,?_⟩⟩;by_cases ex:u=x
  .have G:c=true:=hc.mpr (dC.mpr ex);subst G;have z:=Bs U B C;rw[fy (λz=>z ex),Bu,wA (by decide)]at z;refine fq (fq ⟨g,d,zZ,(),z⟩)
  .have G:c=false:=by
    cases c with
    |false=>rfl
    |true=>exact wC (dC.mp (hc.mp zZ)) ex
   subst G;refine fH ⟨_,zZ,_,zZ,b,_,u,x,zZ,C,hx,l5 u (cY B),λH4 I=>⟨_,zZ,?_⟩⟩;have z:=Bs (U.same I) B (I _ _ C);rw[eJ ex,zp]at z;cases c2:sub u x with
   |true=>
    rw[c2,wB zZ]at z;exact fH ⟨_,zZ,g.trans I,d++[b],by simp,by simp;exact e,z⟩
   |false=>
    rw[c2,wA (by decide)]at z;exact fq ⟨g.trans I,d,zZ,(),z⟩
 obtain⟨g2,d,rfl,_,U⟩:=p;rw[cC,lb,hA]at U;have Tw:TupsAt H2 d (i0 a x):=U;have kw:=cM af (.lst (d.map V.ref));have t:cA H2 O (.lst (d.map V.ref)) O=some (.lst (d.map V.ref)):=cF;have J:=Tw.same kw;have g3:=g2.trans kw;generalize cA H2 O (.lst (d.map V.ref))=H3 at kw t J g3⊢;have lw:(i0 a x).length<=32:=dL (iZ _ _) few;have lc:=Tw.len;have aa: ∀u∈i0 a x,u∈a:=λu h=>(dP.mp h).1;refine⟨_,zZ,O,zZ,⟨_,Q3 t⟩,m7 (xs:=d.map .ref) (λi k r=>Same H3 r/\ ∃j,k=j.map V.ref/\j.length<=i/\TupsAt r j (((i0 a x).take i).filter λu=> !mX (i0 a x) u)) (by rw[cC,dz];lia) ⟨Same.refl _,[],zZ,cO _,zZ,λi b u e=>by simp at e⟩ (λi k r hi p=>?_) (λi v k r L p=>?_) (λk H4 p D hD=>?_)⟩
 .obtain⟨g,j,rfl,e,_⟩:=p;exact⟨Q3 (g _ _ t),by rw[cC];exact e⟩
 .obtain⟨g,j,rfl,e,Td⟩:=p;rw[cV]at L;obtain⟨b,Y,rfl⟩:=eU.mp L;have li:=(cP.mp Y).1;obtain⟨u,B⟩: ∃u,(i0 a x)[i]? =some u:=⟨_,cE ()⟩;have C:=g _ _ (J.is i b u Y B);refine⟨iO,_,zZ,_,zZ,b,O,u,d,i0 a x,zZ,C,g _ _ t,J.same g,l5 u (aa u (cY B)),lw,λH5 g5=>⟨_,zZ,?_⟩⟩;have z:=Bs (Td.same g5) B (g5 _ _ C);cases c2:mX (i0 a x) u with
  |true=>
   rw[c2,wA (by decide)]at z;exact fq ⟨g.trans g5,j,zZ,(),z⟩
  |false=>
   rw[c2,wB (by decide)]at z;exact fH ⟨_,zZ,g.trans g5,j++[b],by simp,by simp;exact e,z⟩
 obtain⟨I,j,rfl,_,Td⟩:=p;rw[cC,lc,hA]at Td;have kD:=cM hD (.lst (j.map V.ref));have gg:=g3.trans (I.trans kD);refine q D j _ a _ (k1.trans gg.keeps) (T1.same gg) ?_ cF (Td.same kD) ff rfl;cases y:L2.noT H D with
 |none=>rfl
 |some o=>
  have z:=(g3.trans I) _ _ (k1 _ _ y);rw[hD]at z;cases z
def Rch(ts:LN)(x y:cz):Prop:= ∃word:cz,(∀l∈word,l<ts.length)/\dv (cI ts) x word=y
open Classical in
noncomputable def eY (a:LN) (x y:cz):Bool:=decide (Rch a x y)
def cL{a:LN}{x y:cz}:eY a x y=true↔Rch a x y:=by
 unfold eY;exact @decide_eq_true_iff _ (Classical.propDecidable _)
def Rch.refl(ts:LN)(x:cz):Rch ts x x:=⟨[],λ_ h=>(nomatch h),zZ⟩
def Rch.trans{ts:LN}{x y z:cz}(a:Rch ts x y)(b:Rch ts y z):Rch ts x z:=by
 obtain⟨u,c,rfl⟩:=a;obtain⟨v,d,rfl⟩:=b;refine⟨u++v,λl e=>(dD.mp e).elim (c l) (d l),?_⟩;unfold dv;rw[rj]
def B9{a:LN}{x:cz}{b:TW}(T:Told (cI a) a.length x b)(y:cz):y∈b.map (·.1)↔Rch a x y:=by
 constructor
 .intro h;obtain⟨p,c,rfl⟩:=dh.mp h;obtain⟨d,e⟩:=T.run p c;exact⟨p.2,d,e⟩
 .rintro⟨word,g,rfl⟩;obtain⟨u,i,_⟩:=T.least _ word zZ g;exact dh.mpr ⟨_,i,zZ⟩
abbrev WE:=Ad×TW×As
def gK(a:LN)(ys:List WE):List (List dB×V):=a4g (a.map λx=>(x,[])) (ys.map (·.1))
structure WB(H:Hp)(D:Ad)(ts:LN)(xs:LN)(ys:List WE):Prop where
 len:ys.length=xs.length
 each: ∀(i:Nat) (x:cz) (y:WE),xs[i]? =some x->ys[i]? =some y->WordsAt H y.1 y.2.1 y.2.2/\Told (cI ts) ts.length x y.2.1/\y.1≠D
 nd:xs.Nodup
def WB.same{H c:Hp}{D:Ad}{d e:LN}{ys:List WE}(h:WB H D d e ys)(g:Same H c):WB c D d e ys:=⟨h.len,λi x y j k=>let⟨a,b⟩:=h.each i x y j k;⟨a.same g,b⟩,h.nd⟩
def Oy{H b:Hp}{D:Ad}{c:TW}{d:As}(W:WordsAt H D c d)(g:Keeps H b):WordsAt b D c d:=⟨W.len,g _ _ (nU W.dict),λj a p e h=>g _ _ (nU (W.list j a p e h))⟩
def WB.keeps{H c:Hp}{D:Ad}{d e:LN}{ys:List WE}(h:WB H D d e ys)(g:Keeps H c):WB c D d e ys:=⟨h.len,λi x y j k=>let⟨a,b⟩:=h.each i x y j k;⟨Oy a g,b⟩,h.nd⟩
def wO{a:LN}{ys:List WE}(h:ys.length=a.length):(gK a ys).map (·.1)=a.map nk:=by
 unfold gK L2.a4g
 induction a generalizing ys with
 |nil=>rfl
 | cons x a b=>
  cases ys with
  |nil=>simp at h
  |cons y ys=>
   have z:=b (ys:=ys) (by simpa using h);simp only[List.map_cons,List.zipWith_cons_cons];rw[z]
def WB.off{H:Hp}{D:Ad}{e g:LN}{ys:List WE}{d:List (List dB×V)}{o:HO}(h:WB H D e g ys)(k:H D=some (.dT d)):WB (cA H D o) D e g ys:=by
 refine⟨h.len,λi x y m n=>?_,h.nd⟩;obtain⟨a,b,c⟩:=h.each i x y m n;refine⟨⟨a.len,by rw[cK c];exact a.dict,λj l p q r=>?_⟩,b,c⟩;have z:=a.list j l p q r;rw[cK (nE z k)];exact z
def yZ(a:LN):((a.map λx=>((x,[]):cz×cz)).map (·.1))=a:=by
 rw[i4];exact List.map_id' a
def WB.get{H:Hp}{D b:Ad}{e c:LN}{ys:List WE}{x:cz}(h:WB H D e c ys)(l:Rd H D (.dT (gK c ys)))(m:x∈c)(n:H b=some (.tup (x.map nv))): ∃W g k,DGet H D (.ref b) (some (.ref W))/\WordsAt H W g k/\Told (cI e) e.length x g/\ ∃i:Nat,c[i]? =some x/\ys[i]? =some (W,g,k):=by
 obtain⟨i,d⟩:=gA.mp m;have o:=(cP.mp d).1;have q:=h.len;obtain⟨y,j⟩: ∃y,ys[i]? =some y:=⟨_,cE ()⟩;obtain⟨a,t,_⟩:=h.each i x y d j;have v:iQ (gK c ys) (nk x)=some (.ref y.1):=zU (p:=(x,[])) (by rw[yZ];exact h.nd) (by rw[cV,d];rfl) (by rw[cV,j];rfl);exact⟨y.1,y.2.1,y.2.2,.inr ⟨_,_,b,l,zZ,by rw[j9];exact n,v.symm⟩,a,t,i,d,j⟩
def BZ{H:Hp}{W c:Ad}{b:LN}{d:TW}{g:As}{x y:cz}(a:WordsAt H W d g)(t:Told (cI b) b.length x d)(h:H c=some (.tup (y.map nv))): ∃o,DGet H W (.ref c) o/\o.isSome=eY b x y:=by
 refine⟨_,.inr ⟨_,nk y,c,.inl a.dict,zZ,by rw[j9];exact h,zZ⟩,?_⟩;by_cases m:y∈d.map (·.1)
 .rw[cL.mpr ((B9 t y).mp m)];obtain⟨p,i,rfl⟩:=dh.mp m;obtain⟨l,e,_⟩:=a.word t.keys i;rw[e];rfl
 .rw[u4 m];cases z:eY b x y with
  |false=>rfl
  |true=>exact wC ((B9 t y).mpr (cL.mp z)) m
noncomputable def dm (ts a:LN) (x:cz):LN:=a.filter λy=>eY ts x y&&eY ts y x
noncomputable def di (ts a:LN):iS:=(a.filter λx=>(dm ts a x).head? ==some x).map (dm ts a)
def big(a:LN):LN:=a.filter λx=>decide (1<x.length)
inductive eG(T:Ad)(pos:Pos)(h:List V)(H:Hp)(Q:VK)(e:XK):Prop|mk:∀(m:Ad) (g:LN) (n:Nat),h=[.ref m]->Mach H m g n->Tabs H->(∀D a d c,Keeps H c->Tabs c->L2.noT H D=none->FamOf g n a->c D=some (.dT (gK (big a) d))->WB c D g (big a) d->(∀y∈d,∀b∈y.2.2,L2.noT H b=none)->d.Pairwise (λp q=> ∀b∈p.2.2,b∉q.2.2)->Q (.ref D) c)->eG T pos h H Q e
inductive jp(d:List V)(H:Hp)(Q:VK)(c:XK):Prop|mk:∀(D p:Ad) (o:Obj) (e a:LN) (g:List WE) (x:cz),d=[.ref D,.ref p]->H D=some (.frz o (.dT (gK a g)))->WB H D e a g->H p=some (.tup (x.map nv))->x∈a->a.length<=32->(∀l bs b,Same H b->H l=none->b l=some (.lst (bs.map .ref))->TupsAt b bs (dm e a x)->Q (.ref l) b)->jp d H Q c
def MD{T:Ad}(F:Fun K uO uO CP f fd)(qJ:dE P w K mg base "family" 14 [sA] (gi T (⟨49,40,49,93⟩:Pos)))(jS:dE P w K mg base sU 10 [sA,sB] (dS T (⟨49,40,49,93⟩:Pos)))(jA:mg "len"=none):FnOk P w K mg base de 16 f fd [sA] (eG T (⟨49,40,49,93⟩:Pos)):=by
 refine F.ok qA (λau A ah s H vs Q E hr h=>?_)
 obtain⟨m,ts,n,rfl,M,hT,q⟩:=h;have hu:=hr.units;have ai:=jq hr;refine⟨_,(cQ (dj (i:=1) qA.nd zZ (Or.inl zZ) yL) (cQ (iH gY zZ (iT (dH qJ hr.m zZ (cN (pv 0) cJ))) (fb (i:=2) qA.nd zZ (Or.inl zZ)) (cU (gk (gB vW (fc gv zZ jA gj (cN (pv 2) cJ)) cR (fY _)) (cU (vf ai (pv 1) (pv 2) (dH jS hr.m zZ (c8 (cD (pv 0) (cD (pv 2) db zZ) zZ))) zZ)) gO))) (cU (dG (pv 1))))),?_⟩;intro D hD;have kD:=cM hD (.dT []);refine⟨_,zZ,m,ts,n,zZ,M.same kD,hT.same kD,λso fs d H1 k1 T1 av aa Tf ff=>?_⟩;have aj:=k1 _ _ (nU (cF:cA H D (.dT []) D=_));have ak:=kD.keeps.trans k1;have lf:=Tf.len;have few:=ff.few M;have al:d.Nodup:=ff.up.imp λ{a b} z e=>by
  subst e;rw[(oA gl d).irr]at z;cases z
 have ab:=CF hD
 let Pv:Nat->L2.St->Hp->Prop:=λi σ N=>Keeps H N/\Tabs N/\N so=some (.lst (fs.map .ref))/\TupsAt N fs d/\ ∃k o2,N D=some (.dT (gK (big (d.take i)) k))/\WB N D ts (big (d.take i)) k/\(∀y∈k,∀b∈y.2.2,L2.noT H b=none)/\k.Pairwise (λp q=> ∀b∈p.2.2,b∉q.2.2)/\σ=[some (.ref m),some (.ref D),o2]
 refine⟨so,zZ,⟨_,Q3 aa⟩,pK (xs:=fs.map .ref) Pv ⟨ak,T1,aa,Tf,[],none,aj,⟨zZ,λi x y e=>by simp[big]at e,List.nodup_nil⟩,λ_ h=>(nomatch h),.nil,zZ⟩ (λi σ N _ p=>Q3 p.2.2.1) (λi v σ H2 hv p=>?_) (λσ H2 p=>?_)⟩
 .obtain⟨Y,T2,O,C,k,o2,r,B,nw,ap,rfl⟩:=p;rw[cV]at hv;obtain⟨b,eb,rfl⟩:=eU.mp hv;have li:=(cP.mp eb).1;obtain⟨x,ex⟩: ∃x,d[i]? =some x:=⟨_,cE ()⟩;have hb:=C.is i b x eb ex;have mx:=cY ex;have G:big (d.take (i+1))=big (d.take i)++(if 1<x.length then[x]else[]):=by
   unfold big;rw[iY,ex,tv];by_cases c:1<x.length
   .rw[wB c];simp[c]
   .rw[wA c];simp[c]
  refine⟨_,zZ,b,_,zZ,.inr (Q4 hb),_,_,zZ,zZ,_,zZ,mK (λc=>?_) (λc=>?_)⟩
  .have c1:1<x.length:=by
    have z:=ie c;rw[cC]at z;lia
   rw[wB c1]at G;refine⟨_,zZ,_,zZ,m,b,ts,n,x,zZ,M.keeps Y,hb,ff.inU M mx,T2,λW ws as H3 k3 T3 Wd U TT=>?_⟩;have t:=k3 _ _ (nU r);have am:=k3 _ _ (nU hb);have an:=B.keeps k3;have WD:W≠D:=λz=>by
    subst z;have z2:=U W (dY ..);rw[nU r]at z2;cases z2
   have xn:x∉big (d.take i):=λh=>by
    have h1:=(dP.mp h).1;obtain⟨j,ej⟩:=gA.mp h1;have lj:=(cP.mp ej).1;rw[fi]at lj;rw[pG ()]at ej;have:=(jx () al).mp (ej.trans ex.symm)
    lia
   have vn:iQ (gK (big (d.take i)) k) (nk x)=none:=u4 (by rw[yZ];exact xn);have lk:(gK (big (d.take i)) k).length<sizeLine:=by
    rw[<-cC (f:=(·.1)),wO B.len,cC,dz];have z1:(big (d.take i)).length<=(d.take i).length:=iZ _ _;rw[fi]at z1;lia
   refine⟨_,zZ,_,zZ,D,_,zZ,DPut.t t (by rw[j9];exact am) lk,?_⟩;have ae:=k3 _ _ (nU O);have ao:TupsAt H3 fs d:=⟨C.len,λi b u I J=>k3 _ _ (nU (C.is i b u I J))⟩;have ek:jv (gK (big (d.take i)) k) (nk x) (.ref W)=gK (big (d.take (i+1))) (k++[(W,ws,as)]):=by
    rw[Ex _ vn,G];unfold gK;rw[eI,eI];exact(C6 (ws:=(big (d.take i)).map λx=>(x,[])) (as:=k.map (·.1)) (p:=(x,[])) (a:=W) (by simp[B.len])).symm
   have wo:=an.off (o:= .dT (gK (big (d.take (i+1))) (k++[(W,ws,as)]))) t;have Wo:WordsAt (cA H3 D (.dT (gK (big (d.take (i+1))) (k++[(W,ws,as)])))) W ws as:=⟨Wd.len,by rw[cK WD];exact Wd.dict,λj l p h1 h2=>by
    have z:=Wd.list j l p h1 h2;rw[cK (nE z t)];exact z⟩
   rw[ek];refine⟨λL o g=>?_,?_,?_,?_,k++[(W,ws,as)],_,cF,⟨?_,λj x' y' I J=>?_,?_⟩,?_,?_,zZ⟩
   .rw[cK λz=>?_]
    .exact(Y.trans k3) _ _ g
    .subst z;rw[ab]at g;cases g
   .exact T3.most λL u nd _ g=>by rw[cK (kh g t λe=>nd _ e)];exact g
   .rw[cK (nE ae t)];exact ae
   .exact q0 ao t λ_ e=>nomatch e
   .rw[G,dF,dF,B.len];rfl
   .rw[G]at I;have hl:=B.len;by_cases hj:j<k.length
    .rw[fe ()]at I;rw[fe hj]at J;exact wo.each j x' y' I J
    .rw[e9 ()]at I J;have z:j-k.length=0:=by
      have:=(cP.mp J).1;simp at this;lia
     rw[<-hl,z]at I;rw[z]at J;cases I;cases J;exact⟨Wo,TT,WD⟩
   .rw[G,BS];refine⟨B.nd,by simp,λa ha c hc e=>xn ?_⟩;rw[dw.mp hc]at e;rw[<-e];exact ha
   .intro y hy L g
    rcases dD.mp hy with h|h
    .exact nw y h L g
    .rw[dw.mp h]at g;have z:=U L (.tail _ g);cases y2:L2.noT H L with
     |none=>rfl
     |some o=>
      have z3:=Y _ _ y2;rw[qm z3 (u8 y2).2]at z;cases z
   .rw[jt];refine⟨ap,ul _ _,λp hp q' hq L g af=>?_⟩;rw[dw.mp hq]at af;have z:=U L (.tail _ af);obtain⟨j,ej⟩:=gA.mp hp;have lj:=(cP.mp ej).1;have hl:=B.len;obtain⟨x',aq⟩: ∃x',(big (d.take i))[j]? =some x':=⟨_,cE ()⟩;obtain⟨a',_⟩:=B.each j x' p aq ej;obtain⟨j2,ag⟩:=gA.mp g;have ar:=(cP.mp ag).1;have z2:=a'.list j2 L _ ag (cE (by rw[<-a'.len];exact ar));rw[nU z2]at z;cases z
  .have c1: ¬1<x.length:=by
    have z:=wD (qd.mpr c);rw[cC]at z;lia
   rw[wA c1,iV]at G;refine⟨Y,T2,O,C,k,_,?_,?_,nw,ap,zZ⟩
   .rw[G];exact r
   .rw[G];exact B
 .obtain⟨Y,T2,O,C,k,o2,r,B,nw,ap,rfl⟩:=p;rw[cC,lf,hA]at r B;exact⟨_,zZ,q D d k H2 Y T2 ab ff r B nw ap⟩
def Ju(F:Fun K vK vK Bw f fd):FnOk P w K mg base de 1 f fd [sT,sB] jp:=by
 refine F.ok Nn (λaa A G s H vs Q E T h=>?_)
 obtain⟨D,p,o,j,I,ys,x,rfl,k,n,U,hx,few,q⟩:=h;have hu:=T.units;have d:=jq T;refine⟨_,(cU (dG (gW (CompSc.to (N:=[sT,sB]) (osc:=cZ Bw) (vs:=[tG]) {}) zZ zZ (Ik (pv 0)) (λ_ _ _ _=>qx (PW.pt (uo (oB (uy d (pv 0) (og d (pv 1) (pv 2) (λ_ _=>rfl)))) (wj (oB (uy d (pv 2) (og d (pv 1) (pv 0) (λ_ _=>rfl)))))))) (λ_ _ _ _=>(pv 0))))),?_⟩;refine⟨_,zZ,D,_,I,zZ,wO n.len,.inr ⟨o,k⟩,λo' r fz=>?_⟩;have e2:o'=o/\r=H:=by
  rcases fz with⟨e,rfl⟩|⟨e,_⟩
  .rw[k]at e;injection e with e
   injection e with e _
   exact⟨e.symm,zZ⟩
  .rw[k]at e;cases e
 obtain⟨rfl,rfl⟩:=e2;have Y:Rd r D (.dT (gK I ys)):= .inr ⟨_,k⟩;refine Mm (wO n.len) (λi g v=>v=r/\ ∃c,g=c.map V.ref/\c.length<=i/\TupsAt r c ((I.take i).filter λy=>eY j x y&&eY j y x)) (by rw[dz];lia) ⟨zZ,[],zZ,cO _,zZ,λi b u e=>by simp at e⟩ (λi g v _ l=>?_) (λi a t g v et J l=>?_) (λg v l B m=>?_)
 .obtain⟨rfl,c,rfl,e,_⟩:=l;exact⟨k,by rw[cC];exact e⟩
 .obtain⟨rfl,c,rfl,e,C⟩:=l;have z:=Bs (f:=λy=>eY j x y&&eY j y x) C et J;obtain⟨W,ws,as,dg,wa,tt,_⟩:=n.get Y hx U;obtain⟨o1,d1,s1⟩:=BZ wa tt J;have ht:=cY et;obtain⟨W2,ab,ae,L,M,O,_⟩:=n.get Y ht J;obtain⟨o2,d2,s2⟩:=BZ M O U;refine⟨iO,_,zZ,_,zZ,_,zZ,D,_,zZ,dg,W,o1,zZ,d1,_,zZ,?_⟩;rw[s1];cases B:eY j x t with
  |false=>
   rw[B,Bu,wA (by decide)]at z;exact fq (fq ⟨zZ,c,zZ,(),z⟩)
  | true=>
   rw[B,zp]at z;refine fH ⟨_,zZ,_,zZ,_,zZ,D,_,zZ,L,W2,o2,zZ,d2,_,zZ,?_⟩;rw[s2];cases c2:eY j t x with
   |true=>
    rw[c2,wB zZ]at z;exact fH ⟨_,zZ,zZ,c++[a],by simp,by simp;exact e,z⟩
   |false=>
    rw[c2,wA (by decide)]at z;exact fq ⟨zZ,c,zZ,(),z⟩
 .obtain⟨rfl,c,rfl,_,C⟩:=l;rw[hA]at C;have kc:=cM m (.lst (c.map V.ref));exact q B c _ kc m cF (C.same kc)
structure LsAt(H:Hp)(as:As)(cs:iS):Prop where
 len:as.length=cs.length
 is: ∀(i:Nat) (a:Ad) (c:LN),as[i]? =some a->cs[i]? =some c-> ∃bs:As,H a=some (.lst (bs.map .ref))/\TupsAt H bs c
def LsAt.same{H b:Hp}{d:As}{e:iS}(h:LsAt H d e)(g:Same H b):LsAt b d e:=⟨h.len,λi a c j k=>let⟨bs,l,m⟩:=h.is i a c j k;⟨bs,g _ _ l,m.same g⟩⟩
def LsAt.off{H:Hp}{l:Ad}{j:List V}{o:HO}{b:As}{d:iS}(h:LsAt H b d)(k:H l=some (.lst j))(no:l∉b):LsAt (cA H l o) b d:=⟨h.len,λi a c g m=>by
 obtain⟨bs,n,p⟩:=h.is i a c g m;refine⟨bs,?_,q0 p k λ_ e=>nomatch e⟩;rw[cK λ(z:a=l)=>no (by rw[<-z];exact cY g)];exact n⟩
def LsAt.snoc{H:Hp}{j:As}{g:iS}{a:Ad}{c:LN}{bs:As}(h:LsAt H j g)(k:H a=some (.lst (bs.map .ref)))(T:TupsAt H bs c):LsAt H (j++[a]) (g++[c]):=by
 refine⟨by simp[h.len],λi b v e d=>?_⟩;have l:=h.len;by_cases m:i<g.length
 .rw[fe ()]at e d;exact h.is i b v e d
 .rw[e9 ()]at e d;have z:i-g.length=0:=by
   have:=(cP.mp d).1;simp at this;lia
  rw[l,z]at e;rw[z]at d;cases e;cases d;exact⟨bs,k,T⟩
def Es{ts a:LN}{x:cz}(b:x∈a):x∈dm ts a x:=dP.mpr ⟨b,by rw[cL.mpr (Rch.refl ts x)];rfl⟩
inductive iz(h:List V)(H:Hp)(Q:VK)(d:XK):Prop|mk:∀(D:Ad) (i b:LN) (e:List WE),h=[.ref D]->H D=some (.dT (gK b e))->WB H D i b e->b.length<=32->(∀l o g c,Same (cA H D (.frz o (.dT (gK b e)))) c->H l=none->c l=some (.lst (g.map .ref))->LsAt c g (di i b)->(∀a∈g,H a=none)->Q (.ref l) c)->iz h H Q d
def LC(F:Fun K uJ uJ Dk f fd)(qQ:dE P w K mg base vK 1 [sT,sB] jp):FnOk P w K mg base de 3 f fd [sT] iz:=by
 refine F.ok kI (λaj A aa s H vs Q E hr h=>?_)
 obtain⟨D,g,d,v,rfl,hD,wb,few,q⟩:=h;have hu:=hr.units;have ak:=jq hr;refine⟨_,(cQ (dj (i:=1) kI.nd zZ (Or.inl zZ) (gI cJ)) (cQ (iH gY zZ (Ik (pv 0)) (fb (i:=2) kI.nd zZ (Or.inl zZ)) (cQ (dj (i:=3) kI.nd zZ (Or.inl zZ) (dH qQ hr.m zZ (c8 (cD (pv 0) (cD (pv 2) db zZ) zZ)))) (cU (gk (gB (tD hu) (cW fX (pv 3) cR (λ_ _=>rfl)) (pv 2) (fY _)) (cU (ju (hE hV ko lE ku (pv 1) (cN (pv 3) cJ)))) gO)))) (cU (dG (pv 1))))),?_⟩;refine⟨by show 0<=sizeLine;decide,λj m=>?_⟩;have kf:=cM m (.lst []);have L:=kf _ _ hD;have M:j≠D:=(dU hD m).symm;refine⟨_,zZ,D,_,d,zZ,wO wb.len,.inl L,λo H2 fz=>?_⟩;have e2:H2=cA (cA H j (.lst [])) D (.frz o (.dT (gK d v))):=by
  rcases fz with⟨e,_⟩|⟨_,e⟩
  .rw[L]at e;cases e
  .exact e
 have gz:Same (cA H D (.frz o (.dT (gK d v)))) H2:=λb u I=>by
  rw[e2];by_cases z:b=D
  .subst z;rw[cF]at I⊢;exact I
  .rw[cK z]at I⊢;exact kf _ _ I
 have wz:WB (cA H D (.frz o (.dT (gK d v)))) D g d v:=wb.off hD;have ab:H2 j=some (.lst []):=by rw[e2,cK M,cF]
 have ae:cA H D (.frz o (.dT (gK d v))) j=none:=by rw[cK M];exact m
 clear e2 fz
 let Pv:Nat->L2.St->Hp->Prop:=λi T U=>Same (cA H D (.frz o (.dT (gK d v)))) U/\ ∃k o2 o3,U j=some (.lst (k.map .ref))/\j∉k/\(∀a∈k,H a=none)/\k.length<=i/\LsAt U k (((d.take i).filter λx=>(dm g d x).head? ==some x).map (dm g d))/\T=[some (.ref D),some (.ref j),o2,o3]
 refine Py (wO wb.len) Pv ⟨gz,[],none,none,ab,by simp,(λ_ h=>nomatch h),Nat.le_refl _,⟨zZ,λi a c e=>by simp at e⟩,zZ⟩ (λi T U _ p=>p.1 _ _ cF) (λi a x T H3 ex Y p=>?_) (λT H3 p=>?_)
 .obtain⟨B,k,o2,o3,n,C,r,af,N,rfl⟩:=p;have mx:=cY ex;refine⟨_,zZ,_,zZ,D,a,o,g,d,v,x,zZ,B _ _ cF,wz.same B,Y,mx,few,λl bs H4 J nl el Tl=>?_⟩;have lb:=Tl.len;have self:=Es (ts:=g) mx;obtain⟨y,rest,ea⟩: ∃y rest,dm g d x=y::rest:=by
   cases z:dm g d x with
   |nil=>rw[z]at self;cases self
   |cons y rest=>exact⟨y,rest,zZ⟩
  have b1:0<bs.length:=by
   rw[lb,ea];simp
  obtain⟨b,eb⟩: ∃b,bs[0]? =some b:=⟨_,cE b1⟩;have I:H4 b=some (.tup (y.map nv)):=Tl.is 0 b y eb (by rw[ea];rfl);have ag:lF (bs.map V.ref) ((0:Nat):Int)=some (.ref b):=gF (by rw[cV,eb];rfl);have nx:((d.take (i+1)).filter λx=>(dm g d x).head? ==some x).map (dm g d)=((d.take i).filter λx=>(dm g d x).head? ==some x).map (dm g d)++(if y=x then[dm g d x]else[]):=by
   rw[iY,ex,tv,eI];by_cases c:y=x
   .rw[wB c];simp[ea,c]
   .rw[wA c];simp[ea,c]
  refine⟨_,zZ,l,_,_,_,zZ,zZ,Q3 el,ag,_,zZ,b,a,0,_,_,zZ,zZ,iX (Q4 I),iX (Q4 (J _ _ Y)),by decide,λc hc=>⟨_,zZ,?_⟩⟩;have t:=J _ _ n;have ah:l≠j:=(dU n nl).symm;have ai:H l=none:=by
   cases z:H l with
   |none=>rfl
   | some u=>
    by_cases e:l=D
    .have O:=B _ _ (cF (H:=H) (a:=D) (o:= .frz o (.dT (gK d v))));rw[<-e,nl]at O;cases O
    .have O:=B l u (by rw[cK e];exact z);rw[nl]at O;cases O
  by_cases e:y=x
  .have G:c=true:=hc.mpr (dC.mpr e);subst G;rw[wB e]at nx;refine fH ⟨_,zZ,.inl ⟨zZ,_,Q3 t⟩,_,zZ,j,_,_,zZ,zZ,t,by rw[cC,dz];have:=(cP.mp ex).1;lia,?_⟩;have L4:=(N.same J).snoc el Tl;have na:j∉k++[l]:=λz=>(dD.mp z).elim C λz=>ah (dw.mp z).symm
   refine⟨gR (B.trans J) ae,k++[l],_,_,by rw[cF,eI];rfl,na,(λa Y=>(dD.mp Y).elim (r a) λz=>by rw[dw.mp z];exact ai),by rw[dF];simp;lia,?_,zZ⟩;rw[nx];exact L4.off t na
  .have G:c=false:=by
    cases c with
    |false=>rfl
    |true=>exact wC (dC.mp (hc.mp zZ)) e
   subst G;rw[wA e,iV]at nx;refine fq ⟨B.trans J,k,_,_,t,C,r,(),?_,zZ⟩;rw[nx];exact N.same J
 .obtain⟨B,k,o2,o3,n,C,r,af,N,rfl⟩:=p;rw[hA]at N;exact⟨_,zZ,q j o k H3 B m n N r⟩
noncomputable def dA (ts:LN) (cs:iS) (c:LN):Bool:=cs.any λd=>decide (d≠c)&&eY ts (d.headD []) (c.headD [])
def A2{K:Q5}{H:Hp}{a:Ad}{bs:As}{c:LN}{n:Nat}(g:H a=some (.lst (bs.map .ref)))(T:TupsAt H bs c):Rep K H (n+2) (.lst (c.map λu=> .tup (hI u))) (.ref a):=by
 refine .lst (Q3 g) (by rw[cC,cC,T.len]) λi d v b e=>?_;rw[cV]at b e;obtain⟨p,h,rfl⟩:=eU.mp b;obtain⟨a,j,rfl⟩:=eU.mp e;exact iX (Q4 (T.is i a p j h))
def EE{H:Hp}{bs:As}{c:LN}(T:TupsAt H bs c)(d:c≠[]): ∃b,lF (bs.map V.ref) 0=some (.ref b)/\H b=some (.tup ((c.headD []).map nv))/\c.headD []∈c:=by
 have e:=T.len;obtain⟨y,rest,g⟩: ∃y rest,c=y::rest:=by
  cases c with
  |nil=>exact wC zZ d
  |cons y rest=>exact⟨y,rest,zZ⟩
 subst g;obtain⟨b,a⟩: ∃b,bs[0]? =some b:=⟨_,cE (by rw[e];simp)⟩;have z:lF (bs.map V.ref) ((0:Nat):Int)=some (.ref b):=gF (by rw[cV,a];rfl);exact⟨b,z,T.is 0 b y a zZ,dY ..⟩
inductive jc(h:List V)(H:Hp)(Q:VK)(e:XK):Prop|mk:∀(D a l:Ad) (i g:LN) (j:List WE) (c:LN) (b:iS) (bs k:As),h=[.ref D,.ref a,.ref l]->Rd H D (.dT (gK g j))->WB H D i g j->H a=some (.lst (bs.map .ref))->TupsAt H bs c->H l=some (.lst (k.map .ref))->LsAt H k b->c≠[]->(∀d∈b,d≠[]/\ ∀x∈d,x∈g)->b.length<=32->(∀m,Same H m->Q (.bl (dA i b c)) m)->jc h H Q e
def Jp(F:Fun K "is_led_to" "is_led_to" Bk f fd)(rS:mg "any"=none):FnOk P w K mg base de 1 f fd [sT,sX,tJ] jc:=by
 refine F.ok N6 (λaa A r s H vs Q E M h=>?_)
 obtain⟨D,a,l,j,xs,ys,c,k,bs,as,rfl,rd,wb,O,T,U,L,cne,t,few,q⟩:=h;have hu:=M.units;have m:=jq M;have la:=L.len;obtain⟨b0,u,x,_⟩:=EE T cne;refine⟨_,(cU (dG (fc (E8 zZ) zZ rS boot_any (cN (gW (CompSc.to (N:=[sT,sX,tJ]) (osc:=cZ Bk) (vs:=[tG]) {}) zZ zZ (iT (pv 2)) (λ_ _ _ _=>i3) (λ_ _ _ _=>(Aw (wm (OpR.k (K:=K) (λK=>j7 K true) (AI hu) zZ) (pv 0) (pv 2) (fY _)) (AF (Ji (uy m (cW (IxR.k (K:=K) oh fX zZ) (pv 2) cR (λ_ _=>rfl)) (og m (pv 1) (cW (IxR.k (K:=K) oh fX zZ) (pv 0) cR (λ_ _=>rfl)) (λ_ _=>rfl)))))))) cJ)))),?_⟩;refine⟨_,zZ,l,zZ,⟨_,Q3 U⟩,m7 (xs:=as.map .ref) (λi b n=>n=H/\b=((k.take i).map λd=>decide (d≠c)&&eY j (d.headD []) (c.headD [])).map V.bl) (by rw[cC,dz];lia) ⟨zZ,zZ⟩ (λi b n hi p=>?_) (λi v b n Y p=>?_) (λb n p c1 y=>?_)⟩
 .obtain⟨rfl,rfl⟩:=p;exact⟨Q3 U,by simp;lia⟩
 .obtain⟨rfl,rfl⟩:=p;rw[cV]at Y;obtain⟨e,ee,rfl⟩:=eU.mp Y;have li:=(cP.mp ee).1;obtain⟨d,B⟩: ∃d,k[i]? =some d:=⟨_,cE ()⟩;obtain⟨ds,he,Td⟩:=L.is i e d ee B;obtain⟨C,dx⟩:=t d (cY B);obtain⟨b1,G,I,m1⟩:=EE Td C;have nx:((k.take (i+1)).map λd=>decide (d≠c)&&eY j (d.headD []) (c.headD [])).map V.bl=((k.take i).map λd=>decide (d≠c)&&eY j (d.headD []) (c.headD [])).map V.bl++[V.bl (decide (d≠c)&&eY j (d.headD []) (c.headD []))]:=by
   rw[iY,B,eI,eI];rfl
  refine⟨iO,lB ?_⟩;refine⟨_,zZ,_,zZ,e,a,1,_,_,zZ,zZ,A2 he Td,A2 O T,by decide,λJ hc=>?_⟩;by_cases o:d=c
  .have g:J=true:=hc.mpr (by rw[o]);subst g;refine⟨_,zZ,fq ⟨zZ,?_⟩⟩;rw[nx,fy (λz=>z o)];rfl
  .have g:J=false:=by
    cases J with
    |false=>rfl
    |true=>exact wC (GB (hc.mp zZ)) o
   subst g;obtain⟨W,ws,wa,dg,wt,tt,_⟩:=wb.get rd (dx _ m1) I;obtain⟨o1,d1,s1⟩:=BZ wt tt x;refine⟨_,zZ,fH ⟨_,zZ,a,_,_,_,zZ,zZ,Q3 O,u,_,zZ,_,zZ,e,_,_,_,zZ,zZ,Q3 he,G,D,_,zZ,dg,W,o1,zZ,d1,zZ,?_⟩⟩;rw[nx,eJ o,zp,s1]
 .obtain⟨rfl,rfl⟩:=p;rw[cC,la,hA];have e2:(k.map λd=>decide (d≠c)&&eY j (d.headD []) (c.headD [])).any id=dA j k c:=by
   unfold dA;rw[Bv];rfl
  refine⟨c1,_,zZ,Q3 cF,?_⟩
  try dsimp only
  rw[e2];exact q _ (cM y _)
inductive Ord (ts:LN):iS->List LN->Prop
 |nil:Ord ts [] []
 |cons {cs told:iS} {s:LN} (h:(cs.filter λc=> !dA ts cs c).head? =some s) (r:Ord ts (cs.filter λc=>decide (c≠s)) told):Ord ts cs (s::told)
def v9(a:LN)(b:iS):Prop:= ∀c∈b,∀d∈b,eY a (c.headD []) (d.headD [])=true->eY a (d.headD []) (c.headD [])=true->c=d
def G0{a:Type}{xs:List a}{p q:a->Bool}(h: ∀z∈xs,p z=true->q z=true)(e: ∃z∈xs,q z=true/\p z=false):xs.countP p<xs.countP q:=by
 induction xs with
 |nil=>
  obtain⟨z,hz,_⟩:=e;cases hz
 | cons x xs d=>
  rw[AA,AA];have mono:xs.countP p<=xs.countP q:=List.countP_mono_left λz hz g=>h z (.tail _ hz) g;obtain⟨z,hz,b,c⟩:=e
  rcases dZ.mp hz with rfl|hz
  .rw[b,c];simp;lia
  .have:=d (λz hz=>h z (.tail _ hz)) ⟨z,hz,b,c⟩;have i:=h x (dY ..);cases j:p x with
   |true=>
    rw[i j];simp;lia
   |false=>
    simp;split<;>lia
theorem EI{ts:LN}{cs:iS}(un:v9 ts cs): ∀(k:Nat) (s:LN),s∈cs->cs.countP (λt=>eY ts (t.headD []) (s.headD []))<=k-> ∃s∈cs,dA ts cs s=false
 |0,s,a,g=>by
  have z:0<cs.countP (λt=>eY ts (t.headD []) (s.headD [])):=List.countP_pos_iff.mpr ⟨s,a,cL.mpr (Rch.refl ts _)⟩;lia
 | k+1,s,a,g=>by
  cases c:dA ts cs s with
  |false=>exact⟨s,a,c⟩
  | true=>
   obtain⟨d,b,e⟩:=Bz.mp c;rw[lU,vV]at e;obtain⟨h,r⟩:=e;have lt:=G0 (xs:=cs) (p:=λt=>eY ts (t.headD []) (d.headD [])) (q:=λt=>eY ts (t.headD []) (s.headD [])) (λz _ i=>cL.mpr ((cL.mp i).trans (cL.mp r))) ⟨s,a,cL.mpr (Rch.refl ts _),by
    cases z:eY ts (s.headD []) (d.headD [])with
    |false=>rfl
    |true=>exact wC (un d b s a r z) h⟩
   exact EI un k d b ()
def IX{H:Hp}{d as:As}{b:iS}{f:LN->Bool}{i:Nat}{a:Ad}{c:LN}(L:LsAt H d ((b.take i).filter f))(g:b[i]? =some c){bs:As}(h:H a=some (.lst (bs.map .ref)))(T:TupsAt H bs c):if f c=true then LsAt H (d++[a]) ((b.take (i+1)).filter f)else LsAt H d ((b.take (i+1)).filter f):=by
 have e:(b.take (i+1)).filter f=(b.take i).filter f++(if f c=true then[c]else[]):=by
  rw[iY,g,tv];cases z:f c with
  |true=>simp[z]
  |false=>simp[z]
 by_cases z:f c=true
 .rw[wB z,e,wB z];exact L.snoc h T
 .rw[wA z,e,wA z,iV];exact L
inductive ga(m:List V)(H:Hp)(Q:VK)(g:XK):Prop|mk:∀(D l:Ad) (h i:LN) (n:List WE) (c:iS) (j:As),m=[.ref D,.ref l]->Rd H D (.dT (gK i n))->WB H D h i n->H l=some (.lst (j.map .ref))->LsAt H j c->(∀d∈c,d≠[]/\ ∀x∈d,x∈i)->v9 h c->c.length<=32->(∀k b told e,Same H e->H k=none->e k=some (.lst (b.map .ref))->LsAt e b told->Ord h c told->told.length<=32->(∀d∈told,d∈c)->(∀a∈b,a∈j)->Q (.ref k) e)->ga m H Q g
def IQ{H b:Hp}{a:Ad}{u:HO}(h:Rd H a u)(g:Same H b):Rd b a u:=h.elim (λe=> .inl (g _ _ e)) λ⟨o,e⟩=> .inr ⟨o,g _ _ e⟩
def Pp(F:Fun K uG uG wY f fd)(rA:dE P w K mg base "is_led_to" 1 [sT,sX,tJ] jc):FnOk P w K mg base de 3 f fd [sT,tJ] ga:=by
 refine F.ok kC (λaT A aJ s H vs Q E hr h=>?_)
 obtain⟨D,l0,M,xs,ys,aa,ab,rfl,rd,wb,av,L0,aK,un,few,q⟩:=h;have hu:=hr.units;have aU:=jq hr;refine⟨_,(cQ (dj (i:=2) kC.nd zZ (Or.inl zZ) (gI cJ)) (cQ (FN gY (Fn (pv 1) (λ_=>rfl)) (cQ (dj (i:=3) kC.nd zZ (Or.inr zZ) (gW (CompSc.to (N:=[sT,tJ,"told","free"]) (osc:=cZ wY) (vs:=[sX]) {}) zZ zZ (iT (pv 1)) (λ_ _ _ _=>qx (xc (re (dH rA hr.m zZ (c8 (cD (pv 1) (cD (pv 0) (cD (pv 2) db zZ) zZ) zZ)))))) (λ_ _ _ _=>(pv 0)))) (cQ (ju (hE hV ko lE ku (pv 2) (cN (cW fX (pv 3) cR (λ_ _=>rfl)) cJ))) (cU (dj (i:=1) kC.nd zZ (Or.inr zZ) (gW (CompSc.to (N:=[sT,tJ,"told","free"]) (osc:=cZ wY) (vs:=[sX]) {}) zZ zZ (iT (pv 1)) (λ_ _ _ _=>qx (gB (OpR.k (K:=K) (λK=>j7 K true) (AI hu) zZ) (pv 0) (cW (IxR.k (K:=K) oh fX zZ) (pv 4) cR (λ_ _=>rfl)) (fY _))) (λ_ _ _ _=>(pv 0)))))))) (cU (dG (pv 2))))),?_⟩;refine⟨by show 0<=sizeLine;decide,λt O=>?_⟩;have kf:=cM O (.lst []);have aw:t∉ab:=λz=>by
  obtain⟨j,ej⟩:=gA.mp z;have lj:=(cP.mp ej).1;obtain⟨bs,e,_⟩:=L0.is j t _ ej (cE (by rw[<-L0.len];exact lj));rw[O]at e;cases e
 let Wv:Nat->L2.St->Hp->Prop:=λm σ C=>Same H C/\ ∃l B n k told o3,C l=some (.lst (B.map .ref))/\LsAt C B n/\l≠t/\t∉B/\(∀c∈n,c∈aa)/\C t=some (.lst (k.map .ref))/\LsAt C k told/\t∉k/\(∀c∈told,c∈aa)/\told.length+n.length<=32/\(∀a∈B,a∈ab)/\(∀a∈k,a∈ab)/\(∀rest,Ord M n rest->Ord M aa (told++rest))/\m=n.length/\σ=[some (.ref D),some (.ref l),some (.ref t),o3]
 refine⟨Wv,⟨_,kf,l0,ab,aa,[],[],none,kf _ _ av,L0.same kf,dU av O,aw,λc h=>h,cF,⟨zZ,λi a c e=>by simp at e⟩,by simp,λc h=>(nomatch h),by simpa using few,(λ_ h=>h),(λ_ h=>nomatch h),λrest h=>h,zZ,zZ⟩,λm σ H1 p=>?_⟩;obtain⟨g1,l,B,n,k,told,o3,el,L,aL,ak,G,al,am,aM,ag,aV,ia,ax,ah,hm,rfl⟩:=p;have la:=L.len;have aW:=am.len;refine⟨_,zZ,!(B.map V.ref).isEmpty,.inl ⟨_,Q3 el,zZ⟩,?_⟩;by_cases an:n=[]
 .subst an;have e:B=[]:=pZ.mp la;subst e;rw[wA (by simp)];have od:=ah [] .nil;rw[iV]at od;exact⟨_,zZ,q t k told H1 g1 O al am od () ag ax⟩
 have ne:B≠[]:=λz=>an (pZ.mp (by rw[<-la,z];rfl));have c1:(!(B.map V.ref).isEmpty)=true:=by
  cases B with
  |nil=>exact wC zZ ne
  |cons=>rfl
 rw[c1];refine fH ?_;refine⟨λay C=> ∃m',m'<m/\Wv m' ay C,λay C h=>h,?_⟩;have ai: ∀d∈n,d≠[]/\ ∀x∈d,x∈xs:=λd hd=>aK d (G d hd);have aN:v9 M n:=λc hc d hd=>un c (G c hc) d (G d hd);have aO:=wb.same g1;have aP:=IQ rd g1;refine⟨_,zZ,l,zZ,⟨_,Q3 el⟩,m7 (xs:=B.map .ref) (λi u C=>Same H1 C/\ ∃r,u=r.map V.ref/\r.length<=i/\(∀e∈r,e∈B)/\LsAt C r ((n.take i).filter λc=> !dA M n c)) (by rw[cC,dz];lia) ⟨Same.refl _,[],zZ,cO _,λ_ h=>(nomatch h),⟨zZ,λi a c e=>by simp at e⟩⟩ (λi u C hi p=>?_) (λi v u C hv p=>?_) (λu H2 p fr ao=>?_)⟩
 .obtain⟨g,r,rfl,e,_⟩:=p;exact⟨Q3 (g _ _ el),by rw[cC];exact e⟩
 .obtain⟨g,r,rfl,e,sb,Le⟩:=p;rw[cV]at hv;obtain⟨a,ea,rfl⟩:=eU.mp hv;have li:=(cP.mp ea).1;obtain⟨c,ec⟩: ∃c,n[i]? =some c:=⟨_,cE ()⟩;obtain⟨bs,ha,Ta⟩:=(L.same g).is i a c ea ec;have mc:=cY ec;refine⟨iO,_,zZ,_,zZ,_,zZ,D,a,l,M,xs,ys,c,n,bs,B,zZ,IQ aP g,aO.same g,ha,Ta,g _ _ el,L.same g,(ai c mc).1,ai,(),λH4 g4=>⟨_,zZ,?_⟩⟩;have z:=IX (as:=B) (f:=λc=> !dA M n c) (Le.same g4) ec (g4 _ _ ha) (Ta.same g4);cases c2:dA M n c with
  |false=>
   rw[c2,wB (show(!false)=true from rfl)]at z;refine fH ⟨_,zZ,g.trans g4,r++[a],by simp,by simp;exact e,λe' he=>?_,z⟩;exact(dD.mp he).elim (sb e') λh=>by rw[dw.mp h];exact cY ea
  |true=>
   rw[c2,wA (by decide)]at z;exact fq ⟨g.trans g4,r,zZ,(),sb,z⟩
 obtain⟨g2,r,rfl,_,sb,Le⟩:=p;rw[cC,la,hA]at Le;have k3:=cM ao (.lst (r.map V.ref));have ap:cA H2 fr (.lst (r.map V.ref)) fr=some (.lst (r.map V.ref)):=cF;have az:fr≠t:=(dU (g2 _ _ al) ao).symm;have aX:fr≠l:=(dU (g2 _ _ el) ao).symm;have J:=g2.trans k3;have aq:=Le.same k3;generalize cA H2 fr (.lst (r.map V.ref))=H3 at k3 ap J aq⊢;obtain⟨s0,aQ,aR⟩: ∃s∈n,dA M n s=false:=by
  cases n with
  |nil=>exact wC zZ an
  |cons c n=>exact EI aN _ c (dY ..) (cO _)
 have mf:s0∈n.filter λc=> !dA M n c:=dP.mpr ⟨aQ,by rw[aR];rfl⟩;obtain⟨s,hs⟩: ∃s,(n.filter λc=> !dA M n c).head? =some s:=by
  cases z:n.filter λc=> !dA M n c with
  |nil=>rw[z]at mf;cases mf
  |cons y ys=>exact⟨y,zZ⟩
 have ms:s∈n:=(dP.mp (List.mem_of_mem_head? hs)).1;have aA:(n.filter λc=> !dA M n c)[0]? =some s:=by rw[<-List.head?_eq_getElem?];exact hs
 have le:=aq.len;obtain⟨a,ea⟩: ∃a,r[0]? =some a:=⟨_,cE (by rw[le];exact(cP.mp aA).1)⟩;have aB:lF (r.map V.ref) ((0:Nat):Int)=some (.ref a):=gF (by rw[cV,ea];rfl);obtain⟨bs,ha,Ta⟩:=aq.is 0 a s ea aA;have aC:=sb a (cY ea);have aD:a≠t:=λz=>ak (z▸aC);have I:=J _ _ al;refine⟨_,zZ,.inl ⟨zZ,_,Q3 I⟩,_,zZ,fr,_,_,_,zZ,zZ,Q3 ap,aB,t,_,_,zZ,zZ,I,by rw[cC,dz];lia,?_⟩;have g4:Same H (cA H3 t (.lst (k.map V.ref++[.ref a]))):=gR (g1.trans J) O;have aE:t∉k++[a]:=λz=>(dD.mp z).elim aM λz=>aD (dw.mp z).symm;have L4:=((am.same J).snoc ha Ta).off (o:= .lst (k.map V.ref++[.ref a])) I aE;have aF:=(L.same J).off (o:= .lst (k.map V.ref++[.ref a])) I ak;have T:cA H3 t (.lst (k.map V.ref++[.ref a])) t=some (.lst ((k++[a]).map V.ref)):=by rw[cF,eI];rfl
 have ar:cA H3 t (.lst (k.map V.ref++[.ref a])) l=some (.lst (B.map V.ref)):=by
  rw[cK aL];exact J _ _ el
 have aj:cA H3 t (.lst (k.map V.ref++[.ref a])) fr=some (.lst (r.map V.ref)):=by
  rw[cK az];exact ap
 have aG:cA H3 t (.lst (k.map V.ref++[.ref a])) a=some (.lst (bs.map V.ref)):=by
  rw[cK aD];exact ha
 have aH:TupsAt (cA H3 t (.lst (k.map V.ref++[.ref a]))) bs s:=q0 Ta I λ_ e=>nomatch e;generalize cA H3 t (.lst (k.map V.ref++[.ref a]))=H4 at g4 L4 aF T ar aj aG aH⊢;refine⟨_,zZ,l,zZ,⟨_,Q3 ar⟩,m7 (xs:=B.map .ref) (λi u C=>C=H4/\ ∃r,u=r.map V.ref/\r.length<=i/\(∀e∈r,e∈B)/\LsAt H4 r ((n.take i).filter λc=>decide (c≠s))) (by rw[cC,dz];lia) ⟨zZ,[],zZ,cO _,λ_ h=>(nomatch h),⟨zZ,λi a c e=>by simp at e⟩⟩ (λi u C hi p=>?_) (λi v u C hv p=>?_) (λu H5 p wl aI=>?_)⟩
 .obtain⟨rfl,r,rfl,e,_⟩:=p;exact⟨Q3 ar,by rw[cC];exact e⟩
 .obtain⟨rfl,U,rfl,e,Y,ae⟩:=p;rw[cV]at hv;obtain⟨b,eb,rfl⟩:=eU.mp hv;have li:=(cP.mp eb).1;obtain⟨c,ec⟩: ∃c,n[i]? =some c:=⟨_,cE ()⟩;obtain⟨ds,hb,Tb⟩:=aF.is i b c eb ec;have z:=IX (as:=B) (f:=λc=>decide (c≠s)) ae ec hb Tb;refine⟨iO,_,zZ,_,zZ,fr,_,_,_,zZ,zZ,Q3 aj,aB,b,a,1,_,_,zZ,zZ,A2 hb Tb,A2 aG aH,by decide,λcc hc=>⟨_,zZ,?_⟩⟩;by_cases af:c=s
  .have au:cc=true:=hc.mpr (by rw[af]);subst au;rw[fy (λz=>z af),wA (by decide)]at z;exact fq ⟨zZ,U,zZ,(),Y,z⟩
  .have au:cc=false:=by
    cases cc with
    |false=>rfl
    |true=>exact wC (GB (hc.mp zZ)) af
   subst au;rw[eJ af,wB zZ]at z;refine fH ⟨_,zZ,zZ,U++[b],by simp,by simp;exact e,λe' he=>?_,z⟩;exact(dD.mp he).elim (Y e') λh=>by rw[dw.mp h];exact cY eb
 obtain⟨rfl,U,rfl,_,Y,ae⟩:=p;rw[cC,la,hA]at ae;have k5:=cM aI (.lst (U.map V.ref));have less:(n.filter λc=>decide (c≠s)).length<n.length:=by
  rw[<-DG];have z:=G0 (xs:=n) (p:=λc=>decide (c≠s)) (q:=λ_=>true) (λ_ _ _=>rfl) ⟨s,ms,zZ,fy λz=>z zZ⟩;rw[List.countP_true]at z;exact z
 refine⟨(n.filter λc=>decide (c≠s)).length,(),g4.trans k5,wl,U,n.filter λc=>decide (c≠s),k++[a],told++[s],_,cF,ae.same k5,(dU T aI).symm,λz=>ak (Y _ z),λc hc=>G c (dP.mp hc).1,k5 _ _ T,L4.same k5,aE,λc hc=>(dD.mp hc).elim (ag c) λh=>by rw[dw.mp h];exact G s ms,by rw[dF];simp only[List.length_singleton];lia,(λb hb=>ia b (Y b hb)),(λb hb=>(List.mem_append.mp hb).elim (ax b) λz=>by rw[List.mem_singleton.mp z];exact ia a aC),λrest aS=>?_,zZ,zZ⟩;rw[fO];exact ah _ (.cons hs aS)
def OO{H b:Hp}{a:Ad}{u:HO}(h:Rd H a u)(no: ∀c,u≠ .tbl c)(g:Keeps H b):Rd b a u:=h.elim (λe=> .inl (g _ _ (qm e no))) λ⟨o,e⟩=> .inr ⟨o,g _ _ (nU e)⟩
def pY{H a:Hp}{bs:As}{c:LN}(T:TupsAt H bs c)(g:Keeps H a):TupsAt a bs c:=⟨T.len,λi b u d e=>g _ _ (nU (T.is i b u d e))⟩
def LsAt.keeps{H b:Hp}{d:As}{e:iS}(h:LsAt H d e)(g:Keeps H b):LsAt b d e:=⟨h.len,λi a c j k=>let⟨bs,l,m⟩:=h.is i a c j k;⟨bs,g _ _ (nU l),pY m g⟩⟩
def WB.off2{H:Hp}{D l:Ad}{d e:LN}{ys:List WE}{n:List V}{o:HO}(h:WB H D d e ys)(q:H l=some (.lst n))(no: ∀y∈ys,l∉y.2.2):WB (cA H l o) D d e ys:=by
 refine⟨h.len,λi x y r g=>?_,h.nd⟩;obtain⟨a,b,c⟩:=h.each i x y r g;refine⟨⟨a.len,by rw[cK (nE a.dict q)];exact a.dict,λj k p m s=>?_⟩,b,c⟩;rw[cK λ(z:k=l)=>no y (cY g) (by rw[<-z];exact cY m)];exact a.list j k p m s
def iD{ts b:LN}{c:LN}(h:c∈di ts b):c≠[]/\c=dm ts b (c.headD [])/\c.headD []∈b/\ ∀x∈c,x∈b/\Rch ts (c.headD []) x/\Rch ts x (c.headD []):=by
 obtain⟨x,i,rfl⟩:=dh.mp h;obtain⟨g,j⟩:=dP.mp i;have e:(dm ts b x).headD []=x:=by
  have z:(dm ts b x).head? =some x:=eq_of_beq j;cases y:dm ts b x with
  |nil=>rw[y]at z;cases z
  |cons a m=>
   rw[y]at z;injection z with z
 refine⟨λz=>?_,by rw[e],by rw[e];exact g,λy k=>?_⟩
 .have s:=Es (ts:=ts) g;rw[z]at s;cases s
 .obtain⟨l,d⟩:=dP.mp k;rw[lU]at d;rw[e];exact⟨l,cL.mp d.1,cL.mp d.2⟩
def Jc(e j:LN):v9 e (di e j):=λc k d l g i=>by
 obtain⟨_,m,_⟩:=iD k;obtain⟨_,n,_⟩:=iD l;rw[m,n];generalize c.headD []=x at g i;generalize d.headD []=y at g i;refine vo λz _=>?_;have go: ∀{x y:cz},eY e x y=true->eY e y x=true->(eY e x z&&eY e z x)=true->(eY e y z&&eY e z y)=true:=λ{x y} a b h=>by
  rw[lU]at h⊢;exact⟨cL.mpr ((cL.mp b).trans (cL.mp h.1)),cL.mpr ((cL.mp h.2).trans (cL.mp a))⟩
 rw[lH];exact⟨go g i,go i g⟩
def LevAt(H:Hp)(l:Ad)(g e:LN)(j:LN)(m:List WE)(a:Ad)(c:LN):Prop:= ∃(s t v:Ad) (bs h d:As) (i:Nat) (y:WE),H a=some (.tup [.ref s,.ref t,.ref v])/\s≠l/\t≠l/\v≠l/\l∉d/\H s=some (.lst (bs.map .ref))/\TupsAt H bs c/\H t=some (.lst (h.map .ref))/\TupsAt H h (jd e (c.headD []))/\H v=some (.lst (d.map .ref))/\d.length=c.length/\j[i]? =some (c.headD [])/\m[i]? =some y/\Told (cI g) g.length (c.headD []) y.2.1/\
 (∀b∈d,b∈y.2.2)/\ ∀(k:Nat) (x:cz) (b:Ad),c[k]? =some x->d[k]? =some b-> ∃word,(x,word)∈y.2.1/\H b=some (.lst (word.map nv))
def LevAt.keeps{H r:Hp}{l:Ad}{u d z:LN}{ys:List WE}{a:Ad}{c:LN}(h:LevAt H l u d z ys a c)(g:Keeps H r):LevAt r l u d z ys a c:=by
 obtain⟨s,t,v,bs,A,B,i,y,C,D,E,G,I,J,L,M,N,e,j,m,n,o,p,q⟩:=h;refine⟨s,t,v,bs,A,B,i,y,g _ _ (nU C),D,E,G,I,g _ _ (nU J),pY L g,g _ _ (nU M),pY N g,g _ _ (nU e),j,m,n,o,p,λk x b O Q=>?_⟩;obtain⟨word,T,U⟩:=q k x b O Q;exact⟨word,T,g _ _ (nU U)⟩
def LevAt.off{H:Hp}{l:Ad}{A d B:LN}{C:List WE}{a:Ad}{c:LN}{M:List V}{o:HO}(h:LevAt H l A d B C a c)(g:H l=some (.lst M)):LevAt (cA H l o) l A d B C a c:=by
 obtain⟨s,t,v,bs,N,O,i,y,D,E,G,I,J,Q,T,U,Y,j,m,n,p,q,r,u⟩:=h;refine⟨s,t,v,bs,N,O,i,y,by rw[cK (nE D g)];exact D,E,G,I,J,by rw[cK E];exact Q,q0 T g (λ_ e=>nomatch e),by rw[cK G];exact U,q0 Y g (λ_ e=>nomatch e),by rw[cK I];exact j,m,n,p,q,r,λk x b e1 L=>?_⟩;obtain⟨word,z1,z2⟩:=u k x b e1 L;refine⟨word,z1,?_⟩;rw[cK λ(z:b=l)=>J (by rw[<-z];exact cY L)];exact z2
structure LevsAt(H:Hp)(l:Ad)(ts fam xs:LN)(ys:List WE)(as:As)(told:iS):Prop where
 len:as.length=told.length
 is: ∀(i:Nat) (a:Ad) (c:LN),as[i]? =some a->told[i]? =some c->LevAt H l ts fam xs ys a c
def E3(H b:Hp)(a:Ad):Prop:= ∃s t v,b a=some (.tup [.ref s,.ref t,.ref v])/\L2.noT H s=none/\L2.noT H t=none/\L2.noT H v=none
inductive gm(T:Ad)(pos:Pos)(k:List V)(H:Hp)(Q:VK)(h:XK):Prop|mk:∀(m:Ad) (e:LN) (n:Nat),k=[.ref m]->Mach H m e n->Tabs H->(∀l i told d j g,Keeps H g->Tabs g->L2.noT H l=none->g l=some (.lst (i.map .ref))->FamOf e n d->Ord e (di e (big d)) told->(∀c∈told,c∈di e (big d))->told.length<=32->LevsAt g l e d (big d) j i told->(∀y∈j,∀b∈y.2.2,L2.noT H b=none)->j.Pairwise (λp q=> ∀b∈p.2.2,b∉q.2.2)->(∀a∈i,E3 H g a)->Q (.ref l) g)->gm T pos k H Q h
def OA{T:Ad}(F:Fun K "levels" "levels" Av f fd)(kU:dE P w K mg base uO 16 [sA] (eG T (⟨49,40,49,93⟩:Pos)))(kP:dE P w K mg base uJ 3 [sT] iz)(kJ:dE P w K mg base uG 3 [sT,tJ] ga)(rV:dE P w K mg base sJ 16 [sA,sB] (i8 T (⟨49,40,49,93⟩:Pos))):FnOk P w K mg base de 18 f fd [sA] (gm T (⟨49,40,49,93⟩:Pos)):=by
 refine F.ok qI (λbi A aU s H vs Q E hr h=>?_)
 obtain⟨m,ts,n,rfl,M,hT,q⟩:=h;have hu:=hr.units;have aA:=jq hr;refine⟨_,(cQ (dj (i:=1) qI.nd zZ (Or.inr zZ) (dH kU hr.m zZ (cN (pv 0) cJ))) (cQ (dj (i:=2) qI.nd zZ (Or.inl zZ) (gI cJ)) (cQ (iH gY zZ (iT (dH kJ hr.m zZ (c8 (cD (pv 1) (cD (dH kP hr.m zZ (cN (pv 1) cJ)) db zZ) zZ)))) (fb (i:=3) qI.nd zZ (Or.inl zZ)) (cQ (dj (i:=4) qI.nd zZ (Or.inr zZ) (cW fX (pv 3) cR (λ_ _=>rfl))) (cQ (IL (CompSc.to (N:=[sA,sT,"told",sX,"face","ways"]) (osc:=cZ Av) (vs:=[sB]) {}) zZ zZ qI.nd (j:=5) zZ zZ (iT (pv 3)) (λ_ _ _ _=>i3) (λ_ _ _ _=>(og aA (og aA (pv 2) (pv 5) (λ_ _=>rfl)) (pv 0) (λ_ _=>rfl)))) (cU (ju (hE hV ko lE ku (pv 2) (cN (jg (c8 (cD (pv 3) (cD (dH rV hr.m zZ (c8 (cD (pv 0) (cD (pv 4) db zZ) zZ))) (cD (pv 5) db zZ) zZ) zZ))) cJ))))))) (cU (dG (pv 2)))))),?_⟩;refine⟨_,zZ,m,ts,n,zZ,M,hT,λD l ys H1 k1 T1 nD ff eD wb nw ap=>?_⟩;have few:=ff.few M;have O:(big l).length<=32:=dL (iZ _ _) few;refine⟨by show 0<=sizeLine;decide,λto af=>?_⟩;have kt:=cM af (.lst []);have aB: ∀y∈ys,to∉y.2.2:=λy hy r=>by
  obtain⟨j,ej⟩:=gA.mp hy;have lj:=(cP.mp ej).1;have hl:=wb.len;obtain⟨x',aV⟩: ∃x',(big l)[j]? =some x':=⟨_,cE ()⟩;obtain⟨a',_⟩:=wb.each j x' y aV ej;obtain⟨j2,aC⟩:=gA.mp r;have aW:=(cP.mp aC).1;have U:=a'.list j2 to _ aC (cE (by rw[<-a'.len];exact aW));rw[af]at U;cases U
 have aX:to≠D:=(dU eD af).symm;have ar:=kt _ _ eD;refine⟨_,zZ,_,zZ,D,ts,big l,ys,zZ,ar,wb.same kt,O,λwl o as H3 g3 bj aY Lw aD=>?_⟩;have aE:H3 D=some (.frz o (.dT (gK (big l) ys))):=g3 _ _ cF;have aF:WB H3 D ts (big l) ys:=((wb.same kt).off ar).same g3;have au: ∀{b:Ad} {u:HO},b≠D->cA H1 to (.lst []) b=some u->H3 b=some u:=λnb r=>g3 _ _ (by rw[cK nb];exact r);have Y:H3 to=some (.lst []):=au aX cF;have aZ: ∀{b:Ad} {u:HO},L2.noT H b=some u->b≠D:=λr z=>by
  subst z;rw[nD]at r;cases r
 have a0:Keeps H H3:=λb u r=>au (aZ r) (kt _ _ (k1 _ _ r));have T3:Tabs H3:=(T1.same kt).most λb u nd _ r=>au (kh r ar λe=>nd _ e) r;have a1: ∀d∈di ts (big l),d≠[]/\ ∀x∈d,x∈big l:=λd hd=>⟨(iD hd).1,λx hx=>((iD hd).2.2.2 x hx).1⟩;have aG:(di ts (big l)).length<=32:=by
  unfold di;rw[cC];exact dL (iZ _ _) O
 refine⟨D,wl,ts,big l,ys,_,as,zZ,.inr ⟨o,aE⟩,aF,aY,Lw,a1,Jc ts _,aG,λol ag told H4 g4 a2 aH Lo od a3 sub a4=>?_⟩;have lo:=Lo.len;have aI:ol≠to:=(dU Y a2).symm;have an:to∉ag:=λz=>by
  obtain⟨j,ej⟩:=gA.mp z;have lj:=(cP.mp ej).1;obtain⟨bs,e,_⟩:=Lo.is j to _ ej (cE (by rw[<-lo];exact lj));have ec:=l6 (show j<told.length by lia);have C:=g4 _ _ Y;rw[e]at C;injection C with C
  injection C with C
  have U:bs=[]:=List.map_eq_nil_iff.mp C;obtain⟨a5,e',a6⟩:=Lo.is j to _ ej (cE ());rw[e]at e';injection e' with e'
  injection e' with e'
  rw[U]at e';have z3:a5=[]:=List.map_eq_nil_iff.mp e'.symm;have z4:=a6.len;rw[z3]at z4;exact(iD (sub _ ec)).1 (pZ.mp z4.symm)
 have a7:Keeps H H4:=a0.trans g4.keeps;have T4:=T3.same g4;have aJ:=g4 _ _ Y;have aK:L2.noT H to=none:=by
  cases z:L2.noT H to with
  |none=>rfl
  |some u=>
   have U:=k1 _ _ z;rw[af]at U;cases U
 let Pv:Nat->L2.St->Hp->Prop:=λi σ t=>Keeps H t/\Tabs t/\t ol=some (.lst (ag.map .ref))/\LsAt t ag told/\Rd t D (.dT (gK (big l) ys))/\WB t D ts (big l) ys/\ ∃ls o3 o4 o5,t to=some (.lst (ls.map .ref))/\LevsAt t to ts l (big l) ys ls (told.take i)/\(∀a∈ls,E3 H t a)/\σ=[some (.ref m),some (.ref D),some (.ref to),o3,o4,o5]
 refine⟨ol,zZ,⟨_,Q3 aH⟩,pK (xs:=ag.map .ref) Pv ⟨a7,T4,aH,Lo,.inr ⟨o,g4 _ _ aE⟩,aF.same g4,[],none,none,none,aJ,⟨zZ,λi a c e=>by simp at e⟩,(λ_ h=>nomatch h),zZ⟩ (λi σ t _ p=>Q3 p.2.2.1) (λi v σ H5 hv p=>?_) (λσ H5 p=>?_)⟩
 .obtain⟨k5,T5,ao,av,aw,ax,ls,o3,o4,o5,I,aa,ay,rfl⟩:=p;rw[cV]at hv;obtain⟨a,ea,rfl⟩:=eU.mp hv;have li:=(cP.mp ea).1;obtain⟨c,ec⟩: ∃c,told[i]? =some c:=⟨_,cE ()⟩;obtain⟨bs,ha,Ta⟩:=av.is i a c ea ec;obtain⟨cne,_,cx,call⟩:=iD (sub c (cY ec));obtain⟨b0,a8,aL,m0⟩:=EE Ta cne;have bk:=Ta.len;have bl:c.length<=32:=by
   rw[(iD (sub c (cY ec))).2.1];exact dL (iZ _ _) O
  have a9:a≠to:=λz=>an (z▸cY ea);obtain⟨W,ws,wa,dg,wt,tt,ix,ex,ey⟩:=ax.get aw cx aL;refine⟨_,zZ,a,_,_,_,zZ,zZ,Q3 ha,a8,?_⟩;refine⟨_,zZ,a,zZ,⟨_,Q3 ha⟩,m7 (xs:=bs.map .ref) (λj ah t=>t=H5/\ ∃G:As,ah=G.map V.ref/\G.length=j/\(∀b∈G,b∈wa)/\ ∀(k:Nat) (x:cz) (b:Ad),c[k]? =some x->G[k]? =some b-> ∃word,(x,word)∈ws/\H5 b=some (.lst (word.map nv))) (by rw[cC,dz];lia) ⟨zZ,[],zZ,zZ,λ_ h=>(nomatch h),λk x b _ e=>by simp at e⟩ (λj ah t hi p=>?_) (λj v ah t hv p=>?_) (λah t p J ai=>?_)⟩
  .obtain⟨rfl,G,rfl,e,_⟩:=p;exact⟨Q3 ha,by rw[cC];lia⟩
  .obtain⟨rfl,G,rfl,e,sb,al⟩:=p;rw[cV]at hv;obtain⟨b,eb,rfl⟩:=eU.mp hv;have lj:=(cP.mp eb).1;obtain⟨x,az⟩: ∃x,c[j]? =some x:=⟨_,cE ()⟩;have r:=Ta.is j b x eb az;obtain⟨_,r1,_⟩:=call x (cY az);obtain⟨⟨x',u⟩,hp,e'⟩:=dh.mp ((B9 tt x).mpr r1);have B:x'=x:=e';subst B;obtain⟨aM,v1,v2⟩:=wt.word tt.keys hp;have ba:DGet t W (.ref b) (some (.ref aM)):= .inr ⟨_,nk x',b,.inl wt.dict,zZ,by rw[j9];exact r,v1.symm⟩;refine⟨iO,lB ⟨_,zZ,_,zZ,D,_,zZ,dg,_,zZ,W,_,zZ,ba,zZ,G++[aM],by simp,by simp[e],λb' aj=>?_,λk x b' L B=>?_⟩⟩
   .exact(dD.mp aj).elim (sb b') λh=>by rw[dw.mp h];exact J1 v1
   .by_cases hk:k<G.length
    .rw[fe hk]at B;exact al k x b' L B
    .rw[e9 ()]at B;have z:k-G.length=0:=by
      have:=(cP.mp B).1;simp at this;lia
     rw[z]at B;cases B;have kj:k=j:=by lia
     subst kj;rw[az]at L;cases L;exact⟨u,hp,v2⟩
  .obtain⟨rfl,G,rfl,bb,sb,al⟩:=p;rw[cC]at bb;have kw:=cM ai (.lst (G.map V.ref));have aN:J≠to:=(dU I ai).symm;have aO:cA t J (.lst (G.map V.ref)) J=some (.lst (G.map V.ref)):=cF;generalize cA t J (.lst (G.map V.ref))=H6 at kw aO⊢;have ab:=kw _ _ I;refine⟨_,zZ,.inl ⟨zZ,_,Q3 ab⟩,_,zZ,_,zZ,_,zZ,m,b0,ts,n,c.headD [],zZ,(M.keeps k5).same kw,kw _ _ aL,T5.same kw,λtl ds us aP H7 k7 T7 ak bc Td bd be=>?_⟩;have ef:aP=l:=bd.uniq ff;subst ef;subst be;have aQ:=k7 _ _ (nU ab);have aR:tl≠to:=λz=>by
    subst z;rw[nU ab]at ak;cases ak
   refine⟨_,zZ,by show 3<=sizeLine;decide,λlv bf=>?_⟩;have kl:=cM bf (.tup [.ref a,.ref tl,.ref J]);have am:cA H7 lv (.tup [.ref a,.ref tl,.ref J]) lv=some (.tup [.ref a,.ref tl,.ref J]):=cF;have kk:Keeps t (cA H7 lv (.tup [.ref a,.ref tl,.ref J])):=(kw.keeps.trans k7).trans kl.keeps;have aS:Keeps H6 (cA H7 lv (.tup [.ref a,.ref tl,.ref J])):=k7.trans kl.keeps;have aq:=kl _ _ bc;have aT:=Td.same kl;have T8:=T7.same kl;have g:=kl _ _ aQ;generalize cA H7 lv (.tup [.ref a,.ref tl,.ref J])=H8 at kl am kk aS aq aT T8 g⊢;have bg:=aa.len;rw[fi]at bg;refine⟨to,_,_,zZ,zZ,g,by rw[cC,dz];lia,?_⟩;have ae: ∀{b:Ad} {u:HO},t b=some u->(∀ps,u≠ .tbl ps)->H8 b=some u:=λr no=>kk _ _ (qm r no)
   refine⟨λb u r=>?_,?_,?_,?_,?_,?_,ls++[lv],_,_,_,by rw[cF,eI];rfl,⟨?_,λj a' c' L B=>?_⟩,λa' bh=>?_,zZ⟩
   .rw[cK λ(z:b=to)=>by subst z;rw[aK]at r;cases r];exact(k5.trans kk) _ _ r
   .exact T8.most λb' u _ nl aj=>by rw[cK (kh aj g λe=>nl _ e)];exact aj
   .rw[cK aI];exact ae ao λ_ e=>nomatch e
   .exact(av.keeps kk).off g an
   .rcases OO aw (λ_ e=>nomatch e) kk with z|⟨o',z⟩
    .exact .inl (by rw[cK (nE z g)];exact z)
    .exact .inr ⟨o',by rw[cK (nE z g)];exact z⟩
   .exact(ax.keeps kk).off2 g aB
   .rw[dF,fi];simp only[List.length_singleton];lia
   .have lt':told.take (i+1)=told.take i++[c]:=by rw[iY,ec];rfl
    rw[lt']at B;by_cases hj:j<ls.length
    .rw[fe hj]at L;rw[fe (by rw[fi];lia)]at B;exact((aa.is j a' c' L B).keeps kk).off g
    .rw[e9 ()]at L;rw[e9 (by rw[fi];lia)]at B;have z:j-ls.length=0:=by
      have:=(cP.mp L).1;simp at this;lia
     have z':j-(told.take i).length=0:=by rw[fi];lia
     rw[z]at L;rw[z']at B;cases L;cases B;refine LevAt.off ⟨a,tl,J,bs,ds,G,ix,(W,ws,wa),am,a9,aR,aN,λz=>aB _ (cY ey) (sb _ z),ae ha (λ_ e=>nomatch e),pY Ta kk,aq,aT,aS _ _ (nU aO),(),ex,ey,tt,sb,λk x b L B=>?_⟩ g;obtain⟨word,C,U⟩:=al k x b L B;exact⟨word,C,ae U λ_ e=>nomatch e⟩
   .rcases dD.mp bh with z|z
    .obtain⟨s',t',v',C,U⟩:=ay a' z;exact⟨s',t',v',(by rw[cK (nE (ae C λ_ e=>nomatch e) g)];exact ae C λ_ e=>nomatch e),U⟩
    .rw[dw.mp z];refine⟨a,tl,J,by rw[cK (nE am g)];exact am,?_,?_,?_⟩
     .have C:=aD a (a4 a (cY ea));cases y:L2.noT H a with
      |none=>rfl
      |some u=>
       rw[kt _ _ (k1 _ _ y)]at C;cases C
     .cases y:L2.noT H tl with
      |none=>rfl
      |some u=>
       have C:=kw _ _ (k5 _ _ y);rw[qm C (u8 y).2]at ak;cases ak
     .cases y:L2.noT H J with
      |none=>rfl
      |some u=>
       rw[k5 _ _ y]at ai;cases ai
 .obtain⟨k5,T5,ao,av,aw,ax,ls,o3,o4,o5,I,aa,ay,rfl⟩:=p;rw[cC,lo,hA]at aa;exact⟨_,zZ,q to ls told l ys H5 k5 T5 aK I ff od sub a3 aa nw ap ay⟩
def cX{x y:cz}:sub x y=true↔ ∀r∈x,r∈y:=by
 unfold sub;rw[sf];exact⟨λh r a=>gV.mp (h r a),λh r a=>gV.mpr (h r a)⟩
def G8{n:Nat}{u v:cz}(d:u∈eK n)(g:v∈eK n)(h:sub u v=true)(j:u≠v):u.length<v.length:=by
 obtain⟨a,_⟩:=cG.mp d;obtain⟨b,_⟩:=cG.mp g;have s:=cX.mp h;have e: ∃z∈List.range 5,u.contains z=false/\v.contains z=true:=by
  refine Bf λno=>j ?_;rw[<-a,<-b];unfold fV;refine vo λz k=>?_;rw[lH];constructor
  .exact λq=>gV.mpr (s z (gV.mp q))
  .intro q;cases c:u.contains z with
   |true=>rfl
   |false=>exact wC ⟨z,k,c,q⟩ no
 have z:=Ef (xs:=List.range 5) (p:=λi=>u.contains i) (q:=λi=>v.contains i) (λz _ q=>gV.mpr (s z (gV.mp q))) e;rw[DG,DG]at z;unfold fV at a b;rw[a,b]at z;exact z
structure TileFacts(fam:LN)(x:cz)(us:LN):Prop where
 mem: ∀u∈us,u∈fam/\u≠x/\sub u x=true
 apart: ∀u∈us,∀v∈us,u≠v->sub u v=false
 up:us.Pairwise λa b=>gS gl a b=true
 all: ∀u∈fam,u≠x->sub u x=true-> ∃t∈us,sub u t=true
 few:us.length<=32
 few2:fam.length<=32
 l5: ∀u∈fam,u.length<=5
def qr{H:Hp}{m:Ad}{y:LN}{n:Nat}{a:LN}(M:Mach H m y n)(k:FamOf y n a)(x:cz):TileFacts a x (jd a x):=by
 have few:=k.few M;have b: ∀u,u∈i0 a x↔u∈a/\u≠x/\sub u x=true:=λu=>by
  unfold i0;rw[dP,lU,vV]
 have l: ∀u,mX (i0 a x) u=true↔ ∃v∈i0 a x,v≠u/\sub u v=true:=λu=>by
  unfold mX;rw[Bz];constructor
  .rintro⟨v,i,e⟩;rw[lU,vV]at e;exact⟨v,i,e⟩
  .rintro⟨v,i,e⟩;exact⟨v,i,by rw[lU,vV];exact e⟩
 have g: ∀u,u∈jd a x↔u∈i0 a x/\mX (i0 a x) u=false:=λu=>by
  unfold jd;rw[dP];refine and_congr Iff.rfl ?_;cases mX (i0 a x) u<;>simp
 have A: ∀u∈a,u.length<=5:=λu h=>dL (ud M.n5 (k.inU M h)) M.n5;have o: ∀(d:Nat) (u:cz),u∈i0 a x->5-u.length<=d-> ∃t∈jd a x,sub u t=true:=by
  intro d
  induction d with
  | zero=>
   intro u j B;cases c:mX (i0 a x) u with
   |false=>exact⟨u,(g u).mpr ⟨j,c⟩,cX.mpr λr q=>q⟩
   |true=>
    obtain⟨v,p,i,e⟩:=(l u).mp c;have:=G8 (k.inU M ((b u).mp j).1) (k.inU M ((b v).mp p).1) e (fh i)
    have:=A v ((b v).mp p).1;lia
  | succ d C=>
   intro u j B;cases c:mX (i0 a x) u with
   |false=>exact⟨u,(g u).mpr ⟨j,c⟩,cX.mpr λr q=>q⟩
   |true=>
    obtain⟨v,p,i,e⟩:=(l u).mp c;have:=G8 (k.inU M ((b u).mp j).1) (k.inU M ((b v).mp p).1) e (fh i)
    obtain⟨t,ht,s⟩:=C v p ();exact⟨t,ht,cX.mpr λr q=>cX.mp s r (cX.mp e r q)⟩
 refine⟨λu j=>(b u).mp ((g u).mp j).1,λu j v p D=>?_,?_,λu i e s=>o 5 u ((b u).mpr ⟨i,e,s⟩) (),?_,few,A⟩
 .cases c:sub u v with
  |false=>rfl
  |true=>
   have z:=(l u).mpr ⟨v,((g v).mp p).1,fh D,c⟩;rw[((g u).mp j).2]at z;cases z
 .exact(k.up.filter _).filter _
 .exact dL (iZ _ _) (dL (iZ _ _) few)
def FX(x:cz):gS gl x x=false:=(oA gl [x]).irr x
def vp{K:Q5}{H:Hp}{fs:As}{b:LN}{n:Nat}(T:TupsAt H fs b)(i:Nat)(d:Dt)(v:V)(c:(b.map λu=>Dt.tup (hI u))[i]? =some d)(e:(fs.map V.ref)[i]? =some v):Rep K H (n+1) d v:=by
 rw[cV]at c e;obtain⟨p,g,rfl⟩:=eU.mp c;obtain⟨a,h,rfl⟩:=eU.mp e;exact iX (Q4 (T.is i a p h g))
def K5{u:cz}{a:LN}:Dt.tup (hI u)∈a.map (λu=>Dt.tup (hI u))↔u∈a:=by
 rw[dh];constructor
 .rintro⟨v,c,b⟩;injection b with b
  rw[<-CV b];exact c
 .exact λh=>⟨u,h,zZ⟩
def lW(f:Nat->Nat):Nat->Nat->Nat
 |0,r=>r
 |k+1,r=>lW f k (f r)
theorem Cq(f:Nat->Nat): ∀(a b r:Nat),lW f (a+b) r=lW f b (lW f a r)
 |0,b,r=>by rw[wh];rfl
 |a+1,b,r=>by
  rw[Nat.add_right_comm];exact Cq f a b (f r)
theorem vd{f:Nat->Nat}{d r:Nat}(h:lW f d r=r): ∀k,lW f (d * k) r=r
 |0=>rfl
 |k+1=>by rw[Nat.mul_succ,Cq,vd h k,h]
def C3(a:LN)(r:Nat)(u v:cz):e7 a r (u++v)=e7 a (e7 a r u) v:=by
 unfold e7;rw[rj]
def rb(u:cz):Nat->List Nat
 |0=>[]
 |k+1=>u++rb u k
theorem Il(a:LN)(u:cz): ∀(k r:Nat),e7 a r (rb u k)=lW (λr=>e7 a r u) k r
 |0,_=>rfl
 |k+1,r=>by
  show e7 a r (u++rb u k)=_;rw[C3,Il a u k];rfl
theorem F'{u:cz}{l:Nat}: ∀{k:Nat},l∈rb u k->l∈u
 |0,h=>nomatch h
 |k+1,h=>(dD.mp h).elim id F'
def zX(a:LN)(x u v:cz):dv (cI a) x (u++v)=dv (cI a) (dv (cI a) x u) v:=by
 unfold dv;rw[rj]
def BO{n:Nat}{x y:cz}(a:x∈eK n)(b:y∈eK n)(h: ∀r,r∈x↔r∈y):x=y:=by
 rw[<-(cG.mp a).1,<-(cG.mp b).1];exact GH h
def EA{n:Nat}{x:cz}(a:x∈eK n):x.Nodup:=by
 rw[<-(cG.mp a).1];unfold fV;exact List.Nodup.sublist tF List.nodup_range
def mR{H:Hp}{m:Ad}{b:LN}{n:Nat}(M:Mach H m b n){x word:cz}(d:x∈eK n)(hw: ∀l∈word,l<b.length){r:Nat}:r∈dv (cI b) x word↔ ∃a∈x,e7 b a word=r:=by
 have g:=M.n5;rw[AN M word x d hw];constructor
 .intro h;obtain⟨a,c,e⟩:=dh.mp (Bx h);exact⟨a,c,e⟩
 .rintro⟨a,c,rfl⟩;have:=ou M word a ((cG.mp d).2 a c) hw;exact IR (dh.mpr ⟨a,c,zZ⟩) ()
def ot{H:Hp}{m:Ad}{a:LN}{n:Nat}(M:Mach H m a n){x word:cz}(b:x∈eK n)(hw: ∀l∈word,l<a.length):dv (cI a) x word∈eK n:=v5 b (λy c l d=>vc M c d) word hw
structure Bij(ts:LN)(x y w p:cz):Prop where
 to:dv (cI ts) x w=y
 fro:dv (cI ts) y p=x
 lw: ∀l∈w,l<ts.length
 lp: ∀l∈p,l<ts.length
 here: ∀r∈x,e7 ts (e7 ts r w) p=r
 there: ∀r∈y,e7 ts (e7 ts r p) w=r
def Bij.symm{a:LN}{x y w p:cz}(b:Bij a x y w p):Bij a y x p w:=⟨b.fro,b.to,b.lp,b.lw,b.there,b.here⟩
def OW{x:cz}{f:Nat->Nat}(nd:x.Nodup)(j: ∀r∈x,∃c∈x,f c=r): ∀a∈x,∀b∈x,f a=f b->a=b:=λa d b k e=>by
 by_cases g:a=b
 .exact g
 have z:=wJ (l₂:=(x.erase a).map f) nd λr l=>by
  obtain⟨c,m,h⟩:=j r l;by_cases i:c=a
  .exact dh.mpr ⟨b,(Ao (fh g)).mpr k,by rw[<-e,<-i,h]⟩
  .exact dh.mpr ⟨c,(Ao i).mpr m,h⟩
 rw[cC,Em d]at z;have:=zA d;lia
theorem Dg{x:cz}{f:Nat->Nat}(a: ∀r∈x,f r∈x): ∀(k r:Nat),r∈x->lW f k r∈x
 |0,_,h=>h
 |k+1,r,h=>Dg a k (f r) (a r h)
theorem Hg{x:cz}{f:Nat->Nat}(c: ∀r∈x,f r∈x)(inj: ∀a∈x,∀b∈x,f a=f b->a=b): ∀(k:Nat),∀a∈x,∀b∈x,lW f k a=lW f k b->a=b
 |0,_,_,_,_,e=>e
 |k+1,a,d,b,g,e=>inj a d b g (Hg c inj k (f a) (c a d) (f b) (c b g) e)
def xP{x:cz}{f:Nat->Nat}(p:x.length<=5)(g: ∀r∈x,f r∈x)(inj: ∀a∈x,∀b∈x,f a=f b->a=b)(r:Nat)(k:r∈x):lW f 60 r=r:=by
 have: ∃d,1<=d/\d<=5/\lW f d r=r:=by
  by_cases h: ∃i j,i<j/\j<=5/\lW f i r=lW f j r
  .obtain⟨i,j,l,m,c⟩:=h;refine⟨j-i,(),(),?_⟩;have e:j=(j-i)+i:=by lia
   rw[e,Cq]at c;exact(Hg g inj i r k _ (Dg g (j-i) r k) c).symm
  .have nd:((List.range 6).map λi=>lW f i r).Nodup:=by
    rw[Fm,wG];refine Dh ?_ List.pairwise_lt_range;intro i j q n lt e;exact h ⟨i,j,lt,by have:=f'.mp n;lia,e⟩
   have z:=wJ (l₂:=x) nd λy o=>by
    obtain⟨i,_,rfl⟩:=dh.mp o;exact Dg g i r k
   rw[cC,iU]at z;lia
 obtain⟨d,l,m,c⟩:=this;have:d=1∨d=2∨d=3∨d=4∨d=5:=by lia
 rcases this with rfl|rfl|rfl|rfl|rfl
 .exact vd c 60
 .exact vd c 30
 .exact vd c 20
 .exact vd c 15
 .exact vd c 12
def Dq{H:Hp}{m:Ad}{a:LN}{n:Nat}(M:Mach H m a n){x y w:cz}(b:x∈eK n)(i: ∀l∈w,l<a.length)(e:dv (cI a) x w=y)(back:Rch a y x): ∃p,Bij a x y w p:=by
 obtain⟨v,s,B⟩:=back;have t:y∈eK n:=by rw[<-e];exact ot M b i
 have d: ∀l∈w++v,l<a.length:=λl o=>(dD.mp o).elim (i l) (s l);have u:dv (cI a) x (w++v)=x:=by rw[zX,e,B]
 have C: ∀r∈x,e7 a r (w++v)∈x:=λr c=>by
  have z:=(mR M b d).mpr ⟨r,c,zZ⟩;rw[u]at z;exact z
 have D: ∀r∈x,∃j∈x,e7 a j (w++v)=r:=λr c=>(mR M b d).mp (by rw[u];exact c);have inj:=OW (EA b) D;have E:=xP (f:=λr=>e7 a r (w++v)) (dL (ud M.n5 b) M.n5) C inj;have here: ∀r∈x,e7 a (e7 a r w) (v++rb (w++v) 59)=r:=λr c=>by
  rw[<-C3,<-fO,C3,Il];exact E r c
 have q: ∀l∈v++rb (w++v) 59,l<a.length:=λl o=>(dD.mp o).elim (s l) λh=>d l (F' h);have g: ∀r∈y,e7 a (e7 a r (v++rb (w++v) 59)) w=r:=λr c=>by
  rw[<-e]at c;obtain⟨j,k,rfl⟩:=(mR M b i).mp c;rw[here j k]
 refine⟨v++rb (w++v) 59,e,BO (ot M t q) b λr=>?_,i,q,here,g⟩;rw[mR M t q];constructor
 .rintro⟨j,k,rfl⟩;rw[<-e]at k;obtain⟨G,A,rfl⟩:=(mR M b i).mp k;rw[here G A];exact A
 .intro h;exact⟨e7 a r w,by rw[<-e];exact(mR M b i).mpr ⟨r,h,zZ⟩,here r h⟩
def Bij.back{H:Hp}{m:Ad}{a:LN}{n:Nat}(M:Mach H m a n){x y w p u:cz}(b:Bij a x y w p)(c:u∈eK n)(s:sub u x=true):dv (cI a) (dv (cI a) u w) p=u:=by
 have d:=cX.mp s;have e:=ot M c b.lw;refine BO (ot M e b.lp) c λr=>?_;rw[mR M e b.lp];constructor
 .rintro⟨j,i,rfl⟩;obtain⟨g,h,rfl⟩:=(mR M c b.lw).mp i;rw[b.here g (d g h)];exact h
 .intro z;exact⟨e7 a r w,(mR M c b.lw).mpr ⟨r,z,zZ⟩,b.here r (d r z)⟩
def zc{H:Hp}{m:Ad}{a:LN}{n:Nat}(M:Mach H m a n){u v w:cz}(d:u∈eK n)(e:v∈eK n)(b: ∀l∈w,l<a.length)(s:sub u v=true):sub (dv (cI a) u w) (dv (cI a) v w)=true:=by
 refine cX.mpr λr g=>?_;obtain⟨c,h,rfl⟩:=(mR M d b).mp g;exact(mR M e b).mpr ⟨c,cX.mp s c h,zZ⟩
def D6{H:Hp}{m:Ad}{b:LN}{n:Nat}{a:LN}(M:Mach H m b n)(g:FamOf b n a){u w:cz}(h:u∈a)(c: ∀l∈w,l<b.length):dv (cI b) u w∈a:=by
 have d:=M.n5;refine(g.mem _).mpr ?_
 rcases (g.mem u).mp h with⟨i,j,k⟩|⟨r,e,rfl⟩
 .refine .inl ⟨i++w,λl o=>(dD.mp o).elim (j l) (c l),?_⟩;rw[zX,k]
 .have lt:=ou M w r e c;refine .inr ⟨e7 b r w,lt,BO (ot M (x9 d e) c) (x9 d lt) λq=>?_⟩;rw[mR M (x9 d e) c];constructor
  .rintro⟨s,p,rfl⟩;rw[dw.mp p];exact dw.mpr rfl
  .intro z;exact⟨r,dw.mpr zZ,(dw.mp z).symm⟩
def Ii{n:Nat}{u v:cz}(c:u∈eK n)(d:v∈eK n)(a:sub u v=true)(b:sub v u=true):u=v:=BO c d λr=>⟨cX.mp a r,cX.mp b r⟩
def BV{u v w:cz}(a:sub u v=true)(b:sub v w=true):sub u w=true:=cX.mpr λr c=>cX.mp b r (cX.mp a r c)
def oN{H:Hp}{m:Ad}{i:LN}{n:Nat}{a:LN}(M:Mach H m i n)(d:FamOf i n a){x u:cz}:u∈jd a x↔u∈a/\u≠x/\sub u x=true/\ ∀v∈a,v≠x->sub v x=true->sub u v=true->v=u:=by
 have b:=qr M d x;constructor
 .intro j;obtain⟨c,g,h⟩:=b.mem u j;refine⟨c,g,h,λv k o p l=>?_⟩;obtain⟨t,ht,st⟩:=b.all v k o p;have q:u=t:=by
   by_cases e:u=t
   .exact e
   .have z:=b.apart u j t ht e;rw[BV l st]at z;cases z
  subst q;exact Ii (d.inU M k) (d.inU M c) st l
 .rintro⟨c,g,h,r⟩;obtain⟨t,ht,st⟩:=b.all u c g h;obtain⟨s,y,A⟩:=b.mem t ht;rw[<-r t s y A st];exact ht
def we{H:Hp}{m:Ad}{a:LN}{n:Nat}{c:LN}(M:Mach H m a n)(d:FamOf a n c){x y w p u:cz}(k:x∈eK n)(b:Bij a x y w p)(q:u∈jd c x):dv (cI a) u w∈jd c y:=by
 obtain⟨l,r,i,s⟩:=(oN M d).mp q;have t:y∈eK n:=by rw[<-b.to];exact ot M k b.lw
 have g:=d.inU M l;have gU:=ot M g b.lw;have A:sub (dv (cI a) u w) y=true:=by
  have z:=zc M g k b.lw i;rw[b.to]at z;exact z
 refine(oN M d).mpr ⟨D6 M d l b.lw,λe=>r ?_,A,λv o B j C=>?_⟩
 .rw[<-b.back M g i,e,b.fro]
 .have h:=d.inU M o;have bs:=b.symm;have D:=D6 M d o b.lp;have E:dv (cI a) v p≠x:=λe=>B (by rw[<-bs.back M h j,e,b.to]);have G:sub (dv (cI a) v p) x=true:=by
   have z:=zc M h t b.lp j;rw[b.fro]at z;exact z
  have I:sub u (dv (cI a) v p)=true:=by
   have z:=zc M gU h b.lp C;rw[b.back M g i]at z;exact z
  rw[<-bs.back M h j,s _ D E G I]
def LvH(H:Hp)(a:Ad)(c h:LN)(d:LN):Prop:= ∃(s t v:Ad) (bs ds e:As),H a=some (.tup [.ref s,.ref t,.ref v])/\H s=some (.lst (bs.map .ref))/\TupsAt H bs c/\H t=some (.lst (ds.map .ref))/\TupsAt H ds h/\H v=some (.lst (e.map .ref))/\e.length=d.length/\ ∀(k:Nat) (b:Ad) (g:cz),e[k]? =some b->d[k]? =some g->H b=some (.lst (g.map nv))
def LvH.same{H e:Hp}{a:Ad}{c i d:LN}(h:LvH H a c i d)(g:Same H e):LvH e a c i d:=by
 obtain⟨s,t,v,bs,ds,j,l,m,n,o,p,q,r,u⟩:=h;exact⟨s,t,v,bs,ds,j,g _ _ l,g _ _ m,n.same g,g _ _ o,p.same g,g _ _ q,r,λk b x y z=>g _ _ (u k b x y z)⟩
structure LvP(ts fam:LN)(c us wds:LN):Prop where
 cls:c∈di ts (big fam)
 tl:us=jd fam (c.headD [])
 len:wds.length=c.length
 go: ∀(k:Nat) (x wd:cz),c[k]? =some x->wds[k]? =some wd->(∀l∈wd,l<ts.length)/\dv (cI ts) (c.headD []) wd=x
inductive i9(h:List V)(H:Hp)(Q:VK)(d:XK):Prop|mk:∀(m a:Ad) (k j:Nat) (e:LN) (n:Nat) (c i b:LN) (u g:cz),h=[.ref m,.ref a,nv k,nv j]->Mach H m e n->LvH H a c i b->i[j]? =some u->b[k]? =some g->u∈eK n->(∀l∈g,l<e.length)->ww H ((dv (cI e) u g).map nv) Q->i9 h H Q d
inductive fN(j:List V)(H:Hp)(Q:VK)(g:XK):Prop|mk:∀(m a:Ad) (k:Nat) (h:LN) (n:Nat) (c d b:LN) (i:cz),j=[.ref m,.ref a,nv k]->Mach H m h n->LvH H a c d b->b[k]? =some i->(∀u∈d,u∈eK n)->d.length<=32->(∀l∈i,l<h.length)->(∀l o e,Same H e->e l=some (.lst (o.map .ref))->TupsAt e o (d.map λu=>dv (cI h) u i)->Q (.ref l) e)->fN j H Q g
def ke(a b:LN)(h c:cz)(l:Nat)(d:cz):Prop:=d.length=b.length/\ ∀(j:Nat) (u:cz) (e:Nat),b[j]? =some u->d[j]? =some e-> ∃g,b[e]? =some g/\dv (cI a) g c=cI a (dv (cI a) u h) l
inductive fI(o:List V)(H:Hp)(Q:VK)(i:XK):Prop|mk:∀(m a:Ad) (k l:Nat) (d:LN) (n:Nat) (g c j b:LN) (x q:cz),o=[.ref m,.ref a,nv k,nv l]->Mach H m d n->FamOf d n g->LvH H a c j b->LvP d g c j b->c[k]? =some x->b[k]? =some q->l<d.length->((cI d x l∉c-> ∀e,Same H e->Q .non e))->(∀(r:Nat) (h:cz),c[r]? =some (cI d x l)->b[r]? =some h-> ∀p s e,Same H e->e p=some (.tup (s.map nv))->ke d j q h l s->Q (.ref p) e)->fI o H Q i
theorem Cc{b:Type}{d:b}: ∀{ds:List b},d∈ds-> ∃j:Nat,ds[j]? =some d/\ ∀i:Nat,i<j->ds[i]? ≠some d
 | [],h=>nomatch h
 | e::ds,h=>by
  by_cases z:e=d
  .exact⟨0,by rw[z];rfl,λi c=>wC c (tq i)⟩
  .obtain⟨j,g,k⟩:=Cc (ds:=ds) ((dZ.mp h).resolve_left λa=>z a.symm);refine⟨j+1,g,λi c=>?_⟩;cases i with
   |zero=>exact λa=>z (by injection a)
   |succ i=>exact k i ()
def n9{u:cz}{a:LN}:Dt.tup (hI u)∈a.map (λu=>Dt.tup (hI u))↔u∈a:=K5
def eW{u:cz}{a:LN}{j:Nat}:(a.map λu=>Dt.tup (hI u))[j]? =some (Dt.tup (hI u))↔a[j]? =some u:=by
 rw[cV];constructor
 .intro h;obtain⟨v,c,b⟩:=eU.mp h;injection b with b
  rw[<-CV b];exact c
 .intro h;rw[h];rfl
def LvP.bij{H:Hp}{m:Ad}{d:LN}{n:Nat}{a c i b:LN}(M:Mach H m d n)(j:FamOf d n a)(g:LvP d a c i b){k:Nat}{x e:cz}(h:c[k]? =some x)(l:b[k]? =some e): ∃p,Bij d (c.headD []) x e p:=by
 obtain⟨_,_,o,call⟩:=iD g.cls;obtain⟨q,r⟩:=g.go k x e h l;exact Dq M (j.inU M (dP.mp o).1) q r (call x (cY h)).2.2
def Fj{H:Hp}{m:Ad}{a:LN}{n:Nat}{d c j e:LN}(M:Mach H m a n)(b:FamOf a n d)(g:LvP a d c j e){k t l:Nat}{x o h:cz}(v:c[k]? =some x)(E:e[k]? =some o)(G:l<a.length)(y:c[t]? =some (cI a x l))(q:e[t]? =some h){u:cz}(I:u∈j):cI a (dv (cI a) u o) l∈j.map λu=>dv (cI a) u h:=by
 obtain⟨_,_,J,call⟩:=iD g.cls;have L:=b.inU M (dP.mp J).1;obtain⟨p,N⟩:=g.bij M b v E;obtain⟨p',A⟩:=g.bij M b y q;obtain⟨O,r,Q⟩:=call x (cY v);obtain⟨T,U,s⟩:=call _ (cY y);have B:=b.inU M (dP.mp O).1;have Y:=b.inU M (dP.mp T).1;obtain⟨p2,b2⟩:=Dq M (w:=[l]) B (λz hz=>by rw[dw.mp hz];exact G) zZ (s.trans r);have i:=I;rw[g.tl]at i;have t1:=we M b L N i;have C:cI a (dv (cI a) u o) l∈jd d (cI a x l):=we M b B b2 t1;obtain⟨f1,f2,f3,_⟩:=(oN M b).mp C;have D:=we M b Y A.symm C;rw[<-g.tl]at D;exact dh.mpr ⟨_,D,A.symm.back M (b.inU M f1) f3⟩
def LvP.nd{i:LN}{n:Nat}{d c j g:LN}(k:FamOf i n d)(l:LvP i d c j g):c.Nodup:=by
 have h:d.Nodup:=k.up.imp λ{a b} z e=>by
  subst e;rw[(oA gl d).irr]at z;cases z
 rw[(iD l.cls).2.1];exact List.Nodup.sublist (tF.trans tF) h
def LvP.inU{H:Hp}{m:Ad}{b:LN}{n:Nat}{a c d e:LN}(M:Mach H m b n)(h:FamOf b n a)(i:LvP b a c d e):(∀u∈d,u∈eK n)/\d.length<=32:=by
 have g:=qr M h (c.headD []);rw[<-i.tl]at g;exact⟨λu j=>h.inU M (g.mem u j).1,g.few⟩
def Ou(F:Fun K "tile" "tile" Cv f fd)(C:dE P w K mg base tY 3 [sA,sB,tN] (dQ K)):FnOk P w K mg base de 5 f fd [sA,sL,"k","j"] i9:=by
 refine F.ok MP (λD A e s H vs Q E l h=>?_)
 obtain⟨m,a,k,j,G,n,c,us,I,u,g,rfl,M,J,o,r,i,t,q⟩:=h;have hu:=l.units;obtain⟨s',L,N,bs,O,T,v,h2,h3,U,x,Y,h7,h8⟩:=J;have l5:=x.len;have lj:=(cP.mp o).1;have lk:=(cP.mp r).1;obtain⟨d,y⟩: ∃d,O[j]? =some d:=⟨_,cE ()⟩;obtain⟨b,z⟩: ∃b,T[k]? =some b:=⟨_,cE ()⟩;have hd:=x.is j d u y o;have hb:=h8 k b g z r;refine⟨_,(cU (dG (dH C l.m zZ (c8 (cD (pv 0) (cD (cW fX (cW dr (pv 1) cR (λ_ _=>rfl)) (pv 3) (λ_ _=>rfl)) (cD (cW fX (cW dr (pv 1) cR (λ_ _=>rfl)) (pv 2) (λ_ _=>rfl)) db zZ) zZ) zZ))))),?_⟩;refine⟨_,zZ,_,zZ,a,_,_,_,zZ,zZ,Q4 v,zZ,_,zZ,L,_,_,_,zZ,zZ,Q3 U,gF (by rw[cV,y];rfl),_,zZ,a,_,_,_,zZ,zZ,Q4 v,zZ,_,zZ,N,_,_,_,zZ,zZ,Q3 Y,gF (by rw[cV,z];rfl),m,d,b,G,n,u,g,zZ,M,Q4 hd,dL (ud M.n5 i) M.n5,(cG.mp i).2,Q3 hb,t,λp H2 g2 B=>?_⟩;rw[<-AN M g u i t]at B;exact q p H2 g2 B
def Nh(F:Fun K uF uF AK f fd)(L:dE P w K mg base "tile" 5 [sA,sL,"k","j"] i9)(O:mg "len"=none)(T:mg "range"=none):FnOk P w K mg base de 7 f fd [sA,sL,"k"] fN:=by
 refine F.ok Ln (λU A t s H vs Q E B h=>?_)
 obtain⟨m,a,k,C,n,c,j,v,D,rfl,M,G,Y,uU,few,lw,q⟩:=h;have hu:=B.units;obtain⟨s',t',v',bs,ds,cs,h1,h2,h3,h4,h5,h6,h7,h8⟩:=id G;have l5:=h5.len;refine⟨_,(cU (dG (gW (CompSc.to (N:=[sA,sL,"k"]) (osc:=cZ AK) (vs:=["j"]) {}) zZ zZ (m8 zZ T (cN (fc gv zZ O gj (cN (cW dr (pv 1) cR (λ_ _=>rfl)) cJ)) cJ)) (λ_ _ _ _=>i3) (λ_ _ _ _=>(dH L B.m zZ (c8 (cD (pv 1) (cD (pv 2) (cD (pv 3) (cD (pv 0) db zZ) zZ) zZ) zZ))))))),?_⟩;refine⟨_,zZ,a,_,_,_,zZ,zZ,Q4 h1,zZ,t',_,zZ,.inl (Q3 h4),(j.length:Int),by rw[cC,l5],(),(),si (λi l o=>Same H o/\ ∃d,l=d.map V.ref/\d.length=i/\TupsAt o d ((j.take i).map λu=>dv (cI C) u D)) (by rw[ip];exact small ()) ⟨Same.refl _,[],zZ,zZ,zZ,λi b u e=>by simp at e⟩ (λi l o _ p=>?_) (λi l o hi p=>?_) (λl H1 p sg x=>?_)⟩
 .obtain⟨_,d,rfl,e,_⟩:=p;rw[cC];lia
 .obtain⟨g,d,rfl,e,r⟩:=p;have e0:V.int (0+(i:Int))=nv i:=by show V.int (0+(i:Int))=V.int (i:Int);rw[pF]
  have y:i<j.length:=by simpa using hi
  obtain⟨u,z⟩: ∃u,j[i]? =some u:=⟨_,cE y⟩;rw[e0];refine⟨iO,lB ⟨_,zZ,_,zZ,_,zZ,_,zZ,m,a,k,i,C,n,c,j,v,u,D,zZ,M.same g,G.same g,z,Y,uU u (cY z),lw,λp H2 I e2=>?_⟩⟩;refine⟨g.trans I,d++[p],by simp,by simp[e],?_⟩;rw[iY,z,eI];exact v7 (r.same I) e2
 obtain⟨g1,d,rfl,er,r⟩:=p;rw[ip,hA]at r;have J:=cM x (.lst (d.map V.ref));exact q sg d _ (g1.trans J) cF (r.same J)
def K3(F:Fun K tR tR Az f fd)(jK:dE P w K mg base tY 3 [sA,sB,tN] (dQ K))(jN:dE P w K mg base uF 7 [sA,sL,"k"] fN)(jD:mg "tuple"=none):FnOk P w K mg base de 9 f fd [sA,sL,"k",sK] fI:=by
 refine F.ok qF (λay A an s H vs Q E hr h=>?_)
 obtain⟨m,a,k,l,o,n,ao,c,us,J,x,wd,rfl,M,ff,lv,lp,ex,ew,ll,q1,q2⟩:=h;have hu:=hr.units;obtain⟨s',t',v',bs,ds,cs,h1,h2,h3,h4,h5,h6,h7,h8⟩:=id lv;obtain⟨cne,az,cx,call⟩:=iD lp.cls;have lb:=h3.len;have lk:=(cP.mp ex).1;obtain⟨b,eb⟩: ∃b,bs[k]? =some b:=⟨_,cE ()⟩;have hb:=h3.is k b x eb ex;have ab: ∀y∈big ao,y∈eK n:=λy hy=>ff.inU M (dP.mp hy).1;have mx:=cY ex;have hU:=ab x (call x mx).1;refine⟨_,(cQ (dj (i:=4) qF.nd zZ (Or.inl zZ) (dH jK hr.m zZ (c8 (cD (pv 0) (cD (cW fX (cW dr (pv 1) cR (λ_ _=>rfl)) (pv 2) (λ_ _=>rfl)) (cD (gI (cN (pv 3) cJ)) db zZ) zZ) zZ)))) (cQ (gk (gB (MZ hu) (pv 4) (cW dr (pv 1) cR (λ_ _=>rfl)) (by with_unfolding_all rfl)) (cU (dG vT)) gO) (cQ (dj (i:=5) qF.nd zZ (Or.inr zZ) (dH jN hr.m zZ (c8 (cD (pv 0) (cD (pv 1) (cD (hE hV vv vw (xF hu) (cW dr (pv 1) cR (λ_ _=>rfl)) (cN (pv 4) cJ)) db zZ) zZ) zZ)))) (cU (dG (iN n6 zZ jD mz (cN (gW (CompSc.to (N:=[sA,sL,"k",sK,uK,"ends"]) (osc:=cZ Az) (vs:=[tW]) {}) zZ zZ (iT (dH jN hr.m zZ (c8 (cD (pv 0) (cD (pv 1) (cD (pv 2) db zZ) zZ) zZ)))) (λ_ _ _ _=>i3) (λ_ _ _ _=>(JA (K:=K) jf zZ (hE hV vv vw (xF hu) (pv 6) (cN (dH jK hr.m zZ (c8 (cD (pv 1) (cD (pv 0) (cD (gI (cN (pv 4) cJ)) db zZ) zZ) zZ))) cJ))))) cJ))))))),?_⟩;obtain⟨uU,few⟩:=lp.inU M ff;have ae:=(lp.go k x wd ex ew).1;have l1: ∀z∈[l],z<o.length:=λz hz=>by rw[dw.mp hz];exact ll
 refine⟨_,zZ,_,zZ,a,_,_,_,zZ,zZ,Q4 h1,zZ,_,zZ,s',_,_,_,zZ,zZ,Q3 h2,gF (by rw[cV,eb];rfl),_,zZ,by show 1<=sizeLine;decide,λp1 L=>?_⟩;have G:=cM L (.lst [nv l]);refine⟨m,b,p1,o,n,x,[l],zZ,M.same G,Q4 (G _ _ hb),dL (ud M.n5 hU) M.n5,(cG.mp hU).2,Q3 cF,l1,λth H2 ap I=>?_⟩;have B:=G.trans ap;have O:H2 th=some (.tup ((cI o x l).map nv)):=I;generalize hy:cI o x l=y at O q1 q2;have T:=B _ _ h2;refine⟨_,zZ,_,zZ,a,_,_,_,zZ,zZ,Q4 (B _ _ h1),zZ,s',1,.tup (hI y),c.map λu=>Dt.tup (hI u),_,zZ,Q3 T,by rw[cC,cC,lb],iX (Q4 O),vp (h3.same B),by decide,λcc hc=>⟨_,zZ,?_⟩⟩;by_cases my:y∈c
 .have U:cc=true:=hc.mpr (n9.mpr my);subst U;refine fq ?_;obtain⟨k',ey,no⟩:=Cc my;have aq:=(cP.mp ey).1;obtain⟨q,C⟩: ∃q,J[k']? =some q:=⟨_,cE (by rw[lp.len];exact aq)⟩;have af:=(lp.go k' y q ey C).1;refine⟨_,zZ,_,zZ,_,zZ,a,_,_,_,zZ,zZ,Q4 (B _ _ h1),zZ,.inl ⟨zZ,_,Q3 T⟩,_,zZ,s',_,1,.tup (hI y),c.map λu=>Dt.tup (hI u),_,k',zZ,zZ,Q3 T,by rw[cC,cC,lb],iX (Q4 O),vp (h3.same B),by decide,eW.mpr ey,λi hi e=>no i hi (eW.mp e),?_⟩;refine⟨m,a,k',o,n,c,us,J,q,zZ,M.same B,lv.same B,C,uU,few,af,λen es H3 ar ag ah=>?_⟩;have g3:=B.trans ar;have len:=ah.len;rw[cC]at len;refine⟨_,zZ,_,zZ,_,zZ,m,a,k,o,n,c,us,J,wd,zZ,M.same g3,lv.same g3,ew,uU,few,ae,λpl ps H4 Y ai aj=>?_⟩;have g4:=g3.trans Y;have as:=aj.len;rw[cC]at as;refine⟨pl,zZ,⟨_,Q3 ai⟩,m7 (xs:=ps.map .ref) (λi D H'=>Same H4 H'/\ ∃t:cz,D=t.map nv/\t.length=i/\ ∀(j:Nat) (u:cz) (j':Nat),us[j]? =some u->t[j]? =some j'-> ∃u',us[j']? =some u'/\dv (cI o) u' q=cI o (dv (cI o) u wd) l) (by rw[cC,dz];lia) ⟨Same.refl _,[],zZ,zZ,λj u j' _ e=>by simp at e⟩ (λi D H' hi p=>?_) (λi v D H' hv p=>?_) (λD H5 p tl au=>?_)⟩
  .obtain⟨g,t,rfl,e,_⟩:=p;exact⟨Q3 (g _ _ ai),by rw[cC];lia⟩
  .obtain⟨g,t,rfl,e,al⟩:=p;rw[cV]at hv;obtain⟨d,ed,rfl⟩:=eU.mp hv;have li:=(cP.mp ed).1;obtain⟨u,eu⟩: ∃u,us[i]? =some u:=⟨_,cE ()⟩;have mu:=cY eu;have hd:=g _ _ (aj.is i d _ ed (by rw[cV,eu];rfl));have ak:=ot M (uU u mu) ae;have gH:=g4.trans g;refine⟨iO,lB ⟨_,zZ,.inl ⟨zZ,_,Q3 ((Y.trans g) _ _ ag)⟩,_,zZ,_,zZ,_,zZ,by show 1<=sizeLine;decide,λp1 L=>?_⟩⟩;have G:=cM L (.lst [nv l]);refine⟨m,d,p1,o,n,_,[l],zZ,M.same (gH.trans G),Q4 (G _ _ hd),dL (ud M.n5 ak) M.n5,(cG.mp ak).2,Q3 cF,l1,λca H6 am e6=>?_⟩;have av:H6 ca=some (.tup ((cI o (dv (cI o) u wd) l).map nv)):=e6;have g6:=(Y.trans g).trans (G.trans am);have mi:=Fj M ff lp ex ew ll (by rw[hy];exact ey) C mu;obtain⟨j0,aa,aw⟩:=Cc mi;refine⟨en,_,1,.tup (hI (cI o (dv (cI o) u wd) l)),(us.map λu=>dv (cI o) u q).map λu=>Dt.tup (hI u),_,j0,zZ,zZ,Q3 (g6 _ _ ag),by rw[cC,cC,cC,len],iX (Q4 av),vp (ah.same g6),by decide,eW.mpr aa,λi hi e=>aw i hi (eW.mp e),?_⟩;refine⟨g.trans (G.trans am),t++[j0],by simp,by simp[e],λj u2 j' e1 I=>?_⟩;by_cases hj:j<t.length
   .rw[fe hj]at I;exact al j u2 j' e1 I
   .rw[e9 ()]at I;have z:j-t.length=0:=by
     have:=(cP.mp I).1;simp at this;lia
    rw[z]at I;cases I;have ji:j=i:=by lia
    subst ji;rw[eu]at e1;cases e1;rw[cV]at aa;obtain⟨u',f1,f2⟩:=eU.mp aa;exact⟨u',f1,f2⟩
  .obtain⟨g5,t,rfl,ej,al⟩:=p;rw[cC]at ej;have kt:=cM au (.lst (t.map nv));refine⟨tl,_,zZ,.inl ⟨Q3 cF,λr ax=>?_⟩⟩;have kr:=cM ax (.tup (t.map nv));exact q2 k' q ey C r t _ (((g4.trans g5).trans kt).trans kr) cF ⟨(),al⟩
 .have U:cc=false:=by
   cases cc with
   |false=>rfl
   |true=>exact wC (n9.mp (hc.mp zZ)) my
  subst U;exact fH (q1 my H2 B)
def Ea:(fS[0]'(by decide))∈fS:=l6 _
def DH:(fS[1]'(by decide))∈fS:=l6 _
def iR(t u:cz):cz:=fV (u.map λr=>t.getD r 0)
def mh{a:cz}{r:Nat}:r∈fV a↔r<5/\r∈a:=by
 unfold fV;rw[dP,f',gV]
def Nq{a b:cz}(h: ∀r,r∈a↔r∈b):fV a=fV b:=by
 unfold fV;refine vo λi _=>?_;rw[lH,gV,gV];exact h i
def Fv{f:Nat->Nat}{n r:Nat}(h:r<n):((List.range n).map f).getD r 0=f r:=by
 rw[eC,cV,oV h];rfl
def NL{H:Hp}{m:Ad}{a:LN}{n:Nat}(M:Mach H m a n){u w:cz}(b:u∈eK n)(c: ∀l∈w,l<a.length):dv (cI a) u w=iR (wp a n w) u:=by
 rw[AN M w u b c];unfold iR nJ wp
 congr 1
 refine uq λr d=>?_;rw[Fv ((cG.mp b).2 r d)]
def N'{H:Hp}{m:Ad}{a:LN}{n:Nat}(M:Mach H m a n){w:cz}(b: ∀l∈w,l<a.length):wp a n w∈mF n n:=by
 refine dJ.mpr ⟨Pe a n w,λr c=>?_⟩;obtain⟨x,d,rfl⟩:=dh.mp c;exact ou M w x (f'.mp d) b
def dO(a:LN)(x:cz):Nat:=a.findIdx λy=>decide (y=x)
def iP{a:LN}{x:cz}(h:x∈a):dO a x<a.length/\a[dO a x]? =some x:=by
 have l:dO a x<a.length:=List.findIdx_lt_length_of_exists ⟨x,h,eJ zZ⟩;refine⟨l,?_⟩;rw[cE l];have z:decide (a[dO a x]=x)=true:=List.findIdx_getElem (p:=λy=>decide (y=x)) (w:=l);rw[ie z]
def u9{a:LN}{x:cz}{j:Nat}(nd:a.Nodup)(h:a[j]? =some x):dO a x=j:=by
 obtain⟨l,e⟩:=iP (cY h);exact(jx l nd).mp (e.trans h.symm)
def vh(a:LN)(t:cz):cz:=a.map λu=>dO a (iR t u)
def gU(a:LN)(n:Nat):LN:=((mF n n).filter λt=>a.all λu=>a.contains (iR t u)).map (vh a)
def gC{a:LN}{n:Nat}{x:cz}:x∈gU a n↔ ∃t∈mF n n,(∀u∈a,iR t u∈a)/\x=vh a t:=by
 unfold gU;rw[dh];constructor
 .rintro⟨t,ht,rfl⟩;obtain⟨b,c⟩:=dP.mp ht;exact⟨t,b,λu d=>gV.mp (sf.mp c u d),zZ⟩
 .rintro⟨t,b,c,rfl⟩;exact⟨t,dP.mpr ⟨b,sf.mpr λu d=>gV.mpr (c u d)⟩,zZ⟩
def EU{a:LN}{n:Nat}(h:n<=5):(gU a n).length<=4000:=by
 unfold gU;rw[cC];exact dL (iZ _ _) (Lc h)
def EX{a:LN}{n:Nat}{x:cz}(h:x∈gU a n):x.length=a.length/\ ∀r∈x,r<a.length:=by
 obtain⟨t,_,g,rfl⟩:=gC.mp h;refine⟨by simp[vh],λr b=>?_⟩;obtain⟨u,c,rfl⟩:=dh.mp b;exact(iP (g u c)).1
def Cf{a:LN}{n:Nat}(nd:a.Nodup)(d: ∀u∈a,u∈eK n):List.range a.length∈gU a n:=by
 have b: ∀u∈a,iR (List.range n) u=u:=λu c=>by
  obtain⟨e,g⟩:=cG.mp (d u c);unfold iR;have:u.map (λr=>(List.range n).getD r 0)=u.map id:=uq λr i=>by
   rw[eC,oV (g r i)];rfl
  rw[this,List.map_id,e]
 refine gC.mpr ⟨List.range n,MS n,λu c=>by rw[b u c];exact c,?_⟩;refine oj λj=>?_;unfold vh;rw[cV];by_cases h:j<a.length
 .rw[oV h,cE h];show some j=some (dO a (iR (List.range n) a[j]));rw[b _ (l6 h),u9 nd (cE h)]
 .rw[j4 (by simp;lia),List.getElem?_eq_none ()];rfl
def OH{n:Nat}{t b u:cz}(m:n<=5)(ht:t∈mF n n)(j:u∈eK n):iR b (iR t u)=iR (eF t b) u:=by
 obtain⟨g,k⟩:=dJ.mp ht;obtain⟨_,h⟩:=cG.mp j;unfold iR;refine Nq λr=>?_;have e: ∀x∈u,(eF t b).getD x 0=b.getD (t.getD x 0) 0:=λx a=>by
  have i:x<t.length:=by rw[g];exact h x a
  unfold eF;rw[eC,cV,cE i,eC (l:=t),cE i];rfl
 have c: ∀x∈u,t.getD x 0<5:=λx a=>by
  have:=xh k (by rw[g];exact h x a);lia
 rw[dh,dh];constructor
 .rintro⟨y,d,rfl⟩;obtain⟨_,d⟩:=mh.mp d;obtain⟨x,a,rfl⟩:=dh.mp d;exact⟨x,a,e x a⟩
 .rintro⟨x,a,rfl⟩;exact⟨t.getD x 0,mh.mpr ⟨c x a,dh.mpr ⟨x,a,zZ⟩⟩,(e x a).symm⟩
def Nw{n:Nat}{t a:cz}(h:t∈mF n n)(b:a∈mF n n):eF t a∈mF n n:=by
 obtain⟨c,d⟩:=dJ.mp h;obtain⟨e,g⟩:=dJ.mp b;refine dJ.mpr ⟨by unfold eF;rw[List.length_map,c],λr i=>?_⟩;obtain⟨x,j,rfl⟩:=dh.mp i;exact xh g (by rw[e];exact d x j)
def ED{a:LN}{n:Nat}{x y:cz}(h:n<=5)(i: ∀u∈a,u∈eK n)(j:x∈gU a n)(k:y∈gU a n):eF x y∈gU a n:=by
 obtain⟨t,d,g,rfl⟩:=gC.mp j;obtain⟨c,m,o,rfl⟩:=gC.mp k;have e: ∀u∈a,iR (eF t c) u=iR c (iR t u):=λu b=>(OH h d (i u b)).symm;refine gC.mpr ⟨eF t c,Nw d m,λu b=>by rw[e u b];exact o _ (g u b),?_⟩;unfold vh;show(a.map λu=>dO a (iR t u)).map (λx=>(a.map λu=>dO a (iR c u)).getD x 0)=_;rw[i4];refine uq λu b=>?_;obtain⟨l,p⟩:=iP (g u b);show(a.map λu=>dO a (iR c u)).getD (dO a (iR t u)) 0=dO a (iR (eF t c) u);rw[eC,cV,p,e u b];rfl
def wq{H:Hp}{m:Ad}{g:LN}{n:Nat}{d c i h:LN}(M:Mach H m g n)(k:FamOf g n d)(l:LvP g d c i h):i.Nodup:=by
 have j:=qr M k (c.headD []);rw[<-l.tl]at j;exact j.up.imp λ{a b} z e=>by
  subst e;rw[FX]at z;cases z
def E9{H:Hp}{m:Ad}{d:LN}{n:Nat}{r c i o:LN}(M:Mach H m d n)(B:FamOf d n r)(s:LvP d r c i o){k E l:Nat}{x q t v:cz}(T:c[k]? =some x)(U:o[k]? =some q)(Y:l<d.length)(ey:c[E]? =some (cI d x l))(C:o[E]? =some t)(G:ke d i q t l v):
  v∈gU i n:=by
 obtain⟨I,_⟩:=s.inU M B;have nd:=wq M B s;have D:=(s.go k x q T U).1;obtain⟨p,b⟩:=s.bij M B ey C;have J:=qr M B (c.headD []);rw[<-s.tl]at J;have L: ∀z∈q++[l]++p,z<d.length:=λz hz=>by
  rcases dD.mp hz with h|h
  .rcases dD.mp h with h|h
   .exact D z h
   .rw[dw.mp h];exact Y
  .exact b.lp z h
 have y: ∀(j:Nat) (u:cz) (a:Nat),i[j]? =some u->v[j]? =some a->i[a]? =some (iR (wp d n (q++[l]++p)) u):=λj u a N g=>by
  obtain⟨O,Q,f2⟩:=G.2 j u a N g;have A:=cY Q;rw[<-NL M (I u (cY N)) L,zX,zX];show i[a]? =some (dv (cI d) (cI d (dv (cI d) u q) l) p);rw[<-f2,b.back M (I O A) (J.mem O A).2.2];exact Q
 have lj:=G.1;refine gC.mpr ⟨_,N' M L,λu hu=>?_,?_⟩
 .obtain⟨j,g⟩:=vR hu;obtain⟨a,e⟩: ∃a,v[j]? =some a:=⟨_,cE (by rw[lj];exact(cP.mp g).1)⟩;exact cY (y j u a g e)
 .refine oj λj=>?_;unfold vh;rw[cV];cases g:i[j]? with
  |none=>
   have:=List.getElem?_eq_none_iff.mp g;rw[j4 ()];rfl
  |some u=>
   have:=(cP.mp g).1;obtain⟨a,e⟩: ∃a,v[j]? =some a:=⟨_,cE ()⟩;rw[e];exact dN some (u9 nd (y j u a g e)).symm
def Pn{H:Hp}{m:Ad}{g:LN}{n:Nat}{h c r i:LN}(M:Mach H m g n)(s:FamOf g n h)(t:LvP g h c r i){D l:Nat}{y E d G k:cz}(Q:c[D]? =some y)(x:i[D]? =some d)(z:ke g r E d l G)(o:ke g r E d l k):G=k:=by
 obtain⟨I,_⟩:=t.inU M s;have nd:=wq M s t;obtain⟨p,b⟩:=t.bij M s Q x;have A:=qr M s (c.headD []);rw[<-t.tl]at A;refine y4 (by rw[z.1,o.1]) λj a T J U=>?_;obtain⟨u,L⟩: ∃u,r[j]? =some u:=⟨_,cE (by rw[<-z.1];exact(cP.mp J).1)⟩;obtain⟨v,B,Y⟩:=z.2 j u a L J;obtain⟨C,N,g2⟩:=o.2 j u T L U;have O:=cY B;have q:=cY N;have e:v=C:=by
  rw[<-b.back M (I v O) (A.mem v O).2.2,<-b.back M (I C q) (A.mem C q).2.2,Y,g2]
 subst e;exact(jx (cP.mp B).1 nd).mp (B.trans N.symm)
def Gz{H:Hp}{m:Ad}{d:LN}{n:Nat}{b c j g:LN}(M:Mach H m d n)(h:FamOf d n b)(k:LvP d b c j g):0<j.length:=by
 obtain⟨_,_,o,_⟩:=iD k.cls;obtain⟨p,a⟩:=dP.mp o;have i:=qr M h (c.headD []);rw[<-k.tl]at i;obtain⟨_,l⟩:=cG.mp (h.inU M p);cases e:c.headD []with
 |nil=>
  rw[e]at a;cases a
 | cons r s=>
  rw[e]at i l a;obtain⟨t,ht,_⟩:=i.all [r] ((h.mem [r]).mpr (.inr ⟨r,l r (dY ..),zZ⟩)) (λz=>by
   have q:=dN List.length z;have a:=ie a;rw[<-q]at a;simp at a) (by simp[sub])
  exact zA ht
structure Makers(ts c us wds mk:LN):Prop where
 mem: ∀t∈mk,∃(k l k':Nat) (x wd wd':cz),c[k]? =some x/\wds[k]? =some wd/\l<ts.length/\c[k']? =some (cI ts x l)/\wds[k']? =some wd'/\ke ts us wd wd' l t
 all: ∀(k l:Nat) (x wd:cz),c[k]? =some x->wds[k]? =some wd->l<ts.length->cI ts x l∈c-> ∃(k':Nat) (wd' t:cz),t∈mk/\c[k']? =some (cI ts x l)/\wds[k']? =some wd'/\ke ts us wd wd' l t
theorem Fp: ∀{ws:TW} {as:As},as.length=ws.length->(a4g ws as).map (·.1)=(ws.map (·.1)).map nk
 | [],[],_=>rfl
 |p::ws,a::as,h=>dN (nk p.1:: ·) (Fp (ws:=ws) (as:=as) (Nat.succ.inj h))
def nY(a:LN)(x:cz)(i:Nat):cz:=eF x (a.getD i [])
inductive fE(j:List V)(H:Hp)(Q:VK)(h:XK):Prop|mk:∀(m a:Ad) (e:LN) (n:Nat) (d c i b:LN),j=[.ref m,.ref a]->Mach H m e n->FamOf e n d->LvH H a c i b->LvP e d c i b->(∀l k mk g,Same H g->g l=some (.lst (k.map .ref))->TupsAt g k mk->Makers e c i b mk->mk.length<=200->Q (.ref l) g)->fE j H Q h
inductive hR(k:List V)(H:Hp)(Q:VK)(i:XK):Prop|mk:∀(m a:Ad) (g:LN) (n:Nat) (d c h b:LN),k=[.ref m,.ref a]->Mach H m g n->FamOf g n d->LvH H a c h b->LvP g d c h b->Tabs H->(∀l bs j mk o e,Keeps H e->Tabs e->L2.noT H l=none->e l=some (.lst (bs.map .ref))->TupsAt e bs j->j.Perm (o.map (·.1))->j.Pairwise (λx y=>eR x y=true)->Makers g c h b mk->Told (nY mk) mk.length (List.range h.length) o->Q (.ref l) e)->hR k H Q i
def LG(F:Fun K tZ tZ Dx f fd)(jJ:dE P w K mg base tR 9 [sA,sL,"k",sK] fI)(jA:mg "len"=none)(jC:mg "range"=none):FnOk P w K mg base de 11 f fd [sA,sL] fE:=by
 refine F.ok jR (λam A ai s H vs Q E hr h=>?_)
 obtain⟨m,a,G,n,aj,c,us,B,rfl,M,ff,lv,lp,q⟩:=h;have hu:=hr.units;refine⟨_,(cQ (dj (i:=2) jR.nd zZ (Or.inl zZ) (gI cJ)) (cQ (iH gY zZ (m8 zZ jC (cN (fc gv zZ jA gj (cN (cW dr (pv 1) cR (λ_ _=>rfl)) cJ)) cJ)) (fb (i:=3) jR.nd zZ (Or.inl zZ)) (cU (iH gY zZ (m8 zZ jC (cN (fc gv zZ jA gj (cN (pv 0) cJ)) cJ)) (fb (i:=4) jR.nd zZ (Or.inl zZ)) (cQ (dj (i:=5) jR.nd zZ (Or.inl zZ) (dH jJ hr.m zZ (c8 (cD (pv 0) (cD (pv 1) (cD (pv 3) (cD (pv 4) db zZ) zZ) zZ) zZ)))) (cU (gk (gB Fk (pv 5) vT (fY _)) (cU (ju (hE hV ko lE ku (pv 2) (cN (pv 5) cJ)))) gO)))))) (cU (dG (pv 2))))),?_⟩;obtain⟨s',t',v',bs,ds,cs,h1,h2,h3,h4,h5,h6,h7,h8⟩:=id lv;have lb:=h3.len;have t1:=M.some1;have t4:=M.few;obtain⟨rs,hm,ak,_⟩:=M.refs;have an:c.length<=32:=by
  rw[(iD lp.cls).2.1];exact dL (iZ _ _) (dL (iZ _ _) (ff.few M))
 refine⟨by show 0<=sizeLine;decide,λfo ab=>?_⟩;have k0:=cM ab (.lst [])
 let Mk:Nat->Nat->List cz->Prop:=λk l g=>g.length<=4 * k+l/\(∀t∈g,∃(k l J:Nat) (x C o:cz),c[k]? =some x/\B[k]? =some C/\l<G.length/\c[J]? =some (cI G x l)/\B[J]? =some o/\ke G us C o l t)/\
  ∀(i j:Nat) (x C:cz),(i<k∨i=k/\j<l)->c[i]? =some x->B[i]? =some C->j<G.length->cI G x j∈c-> ∃(J:Nat) (o t:cz),t∈g/\c[J]? =some (cI G x j)/\B[J]? =some o/\ke G us C o j t
 let Pk:Nat->L2.St->Hp->Prop:=λk T U=>Same H U/\ ∃(y:As) (g:LN) (o3 Y o5:Option V),U fo=some (.lst (y.map .ref))/\TupsAt U y g/\Mk k 0 g/\T=[some (.ref m),some (.ref a),some (.ref fo),o3,Y,o5]
 refine⟨_,zZ,a,_,_,_,zZ,zZ,Q4 (k0 _ _ h1),zZ,s',_,zZ,.inl (Q3 (k0 _ _ h2)),(c.length:Int),by rw[cC,lb],(),(),wK Pk ⟨k0,[],[],none,none,none,cF,⟨zZ,λi b u e=>by simp at e⟩,⟨Nat.zero_le _,(λt ht=>nomatch ht),λi j x C aa=>by lia⟩,zZ⟩ (λk T H1 hk p=>?_) (λT H1 p=>?_)⟩
 .obtain⟨g1,y,g,o3,Y,o5,L,T1,K1,rfl⟩:=p;have ae:k<c.length:=by simpa using hk
  have zk:V.int ((0:Int)+((k:Nat):Int))=nv k:=by show V.int (0+(k:Int))=V.int (k:Int);rw[pF]
  rw[zk];obtain⟨C,ew⟩: ∃C,B[k]? =some C:=⟨_,cE (by rw[lp.len];exact ae)⟩;obtain⟨x,ex⟩: ∃x,c[k]? =some x:=⟨_,cE ae⟩
  let Pl:Nat->L2.St->Hp->Prop:=λl T U=>Same H U/\ ∃(y:As) (g:LN) (Y o5:Option V),U fo=some (.lst (y.map .ref))/\TupsAt U y g/\Mk k l g/\T=[some (.ref m),some (.ref a),some (.ref fo),some (nv k),Y,o5]
  refine⟨_,zZ,m,_,zZ,.inr (Q4 (g1 _ _ hm)),(G.length:Int),by rw[cC,ak],(),(),wK Pl ⟨g1,y,g,_,_,L,T1,K1,zZ⟩ (λl T H2 hl p=>?_) (λT H2 p=>?_)⟩
  .obtain⟨g2,y,g,Y,o5,N,T2,K2,rfl⟩:=p;have af:l<G.length:=by simpa using hl
   have zl:V.int ((0:Int)+((l:Nat):Int))=nv l:=by show V.int (0+(l:Int))=V.int (l:Int);rw[pF]
   rw[zl];obtain⟨kz,km,O⟩:=K2;refine⟨_,zZ,_,zZ,_,zZ,_,zZ,m,a,k,l,G,n,aj,c,us,B,x,C,zZ,M.same g2,ff,lv.same g2,lp,ex,ew,af,λmy H3 g3=>?_,λJ o ey ag tp js H3 g3 ah tb=>?_⟩
   .refine⟨_,zZ,zZ,_,zZ,fq ⟨g2.trans g3,y,g,_,_,g3 _ _ N,T2.same g3,⟨(),km,λi j x' r aa d v I D=>?_⟩,zZ⟩⟩;by_cases z:i=k/\j=l
    .obtain⟨rfl,rfl⟩:=z;rw[ex]at d;cases d;exact wC D my
    .exact O i j x' r () d v I D
   .refine⟨_,zZ,zZ,_,zZ,fH ?_⟩;have e3:=g3 _ _ N;have lq:=T2.len;refine⟨_,zZ,.inl ⟨zZ,_,Q3 e3⟩,_,zZ,fo,_,_,zZ,zZ,e3,by rw[cC,dz];lia,?_⟩;refine⟨gR (g2.trans g3) ab,y++[tp],g++[js],_,_,by rw[cF,eI];rfl,v7 ⟨lq,λi b u L N=>?_⟩ ?_,⟨by rw[dF,wM];lia,λt ht=>?_,λi j x' r aa d v I D=>?_⟩,zZ⟩
    .have z:=(T2.same g3).is i b u L N;rw[cK (nE z e3)];exact z
    .rw[cK (nE ah e3)];exact ah
    .rcases dD.mp ht with z|z
     .exact km t z
     .rw[dw.mp z];exact⟨k,l,J,x,C,o,ex,ew,af,ey,ag,tb⟩
    .by_cases z:i=k/\j=l
     .obtain⟨rfl,rfl⟩:=z;rw[ex]at d;cases d;rw[ew]at v;cases v;exact⟨J,o,js,dD.mpr (.inr (dw.mpr zZ)),ey,ag,tb⟩
     .obtain⟨k2,al,t,r1,r2⟩:=O i j x' r () d v I D;exact⟨k2,al,t,dD.mpr (.inl r1),r2⟩
  .obtain⟨g2,y,g,Y,o5,N,T2,⟨kz,km,O⟩,rfl⟩:=p;have el:(G.length:Int).toNat=G.length:=ip _;rw[el]at kz O;exact⟨g2,y,g,_,_,_,N,T2,⟨(),km,λi j x' r aa d v I D=>O i j x' r () d v I D⟩,zZ⟩
 .obtain⟨g1,y,g,o3,Y,o5,L,T1,⟨kz,km,O⟩,rfl⟩:=p;have el:(c.length:Int).toNat=c.length:=ip _;rw[el]at kz O;exact⟨_,zZ,q fo y g H1 g1 L T1 ⟨km,λk l x C L N e3 e4=>O k l x C (.inl (cP.mp L).1) L N e3 e4⟩ ()⟩
def Hn{J c I C:Ad}{oc:Obj}{z D:LN}{n:Nat}{L:As}{B:Hp}{pm M:Vl}{a:Arguments}{i:Expr}{d:Scope}{sx fx a1 a2:Expr}{kw N:List Keyword}{lp cp O rp:Pos}{s0:Stmt}(e:ka oC=[s0,.Return (some (.Call sx [.Call fx [a1,a2,.Lambda a i d lp] kw cp] N O)) rp])
  (kK:dE P w K mg base vI 1 [uE,tG] fG) (T:B I=some (.lst (L.map .ref))) (Tm:TupsAt B L z) (mU: ∀t∈z,t∈gU D n) (few:D.length<=32) (h1:B J=some (jk J (iK sF a i d uS c pm (.ref C) M))) (h2:B c=some (hX c I oc)) (h3:B C=some (lG C sF)):
  FnOk P w K mg base de 5 J (iK sF a i d uS c pm (.ref C) M) [tX,"number"] (eZ (Same B) (gU D n) z.length (nY z))/\Binds K (iK sF a i d uS c pm (.ref C) M) [tX,"number"] []:=by
 cases e;refine⟨IU (k:=4) (m:=I) (oc:=oc) ⟨zZ,zZ,zZ,by decide+kernel,by decide+kernel,zZ,by decide+kernel⟩ (λvs H Q E h=>?_) (λvs H Q E h=>?_) (λA U s H vs Q E hr h=>?_),.all λD T=>match D,T with| [_,_],_=>rfl⟩
 .obtain⟨t,x,l,rfl,_⟩:=h;rfl
 .obtain⟨t,x,l,rfl,g,_⟩:=h;exact⟨g _ _ h1,g _ _ h2,g _ _ h3⟩
 .obtain⟨t,x,l,rfl,g,ht,hx,Y,q⟩:=h;refine⟨_,(dH kK hr.m zZ (c8 (cD (pv 0) (cD (cW fX (pv 2) (pv 1) (λ_ _=>rfl)) db zZ) zZ))),?_⟩;have hc:=g _ _ h2;have off: ∀{b:Ad} {u:HO},(∀φ,u≠ .ext φ)->H b=some u->(L2.drop H c) b=some u:=λnu hb=>by
   rw[eV (kh hb hc λe=>nu _ e)];exact hb
  have ln:=Tm.len;obtain⟨r,er⟩: ∃r,L[l]? =some r:=⟨_,cE ()⟩;have et:z[l]? =some (z.getD l []):=by rw[eC,cE Y];rfl
  have aa:=off (u:= .tup _) (λ_ e=>nomatch e) (g _ _ (Tm.is l r _ er et));have mt:=mU _ (cY et);obtain⟨x1,x2⟩:=EX hx;obtain⟨y1,y2⟩:=EX mt;refine⟨_,zZ,_,zZ,_,zZ,I,_,_,_,zZ,zZ,Q3 (off (u:= .lst _) (λ_ e=>nomatch e) (g _ _ T)),gF (j:=l) (v:= .ref r) (by rw[cV,er];rfl),t,r,x,z.getD l [],zZ,off (u:= .tup _) (λ_ e=>nomatch e) ht,aa,λy G=>by rw[y1];exact x2 y G,(),λp H3 g3 e3 free=>q p _ (λy o ho=>?_) ?_⟩
  .by_cases G:y=c
   .subst G;rw[hc]at ho;cases ho;exact cF
   .rw[cK G];exact g3 _ _ (by rw[eV G];exact ho)
  .rw[cK (dU e3 free)];exact e3
def MT{cd T:Ad}(F:DefAt K sV oC f fd .none (.ref cd))(hC:PySem.W.CodeHd base cd T)(bm:oQ mg base)(hq:((sF:Str),(⟨121,61,121,110⟩:Pos),T)∈fS)(kF:dE P w K mg base tZ 11 [sA,sL] fE)(kW:dE P w K mg base "still" 1 [sB] gt)(kK:dE P w K mg base vI 1 [uE,tG] fG)
  (kZ:AX P w K mg base tK 8 ["start","letters",uH,uX] (eE P w K mg base) [.non]) (jA:mg "len"=none) (jW:mg "sorted"=none):FnOk P w K mg base de 13 f fd [sA,sL] hR:=by
 refine F.fnOk rH (λvs H Q E h=>?_) (λA an s H vs Q E h hr=>?_)
 .obtain⟨m,a,ts,n,af,c,us,ag,rfl,_⟩:=h;rfl
 obtain⟨m,a,ts,n,af,c,us,ag,rfl,M,ff,lv,lp,hT,q⟩:=h;refine⟨_,?_,(cQ (dj (i:=2) rH.nd zZ (Or.inr zZ) (dH kF hr.m zZ (c8 (cD (pv 0) (cD (pv 1) db zZ) zZ)))) (cU (dG (fc (O' zZ) zZ jW Ag (cN (GW kZ hr.m zZ (j:=2) zZ zZ zZ zZ (c8 (cD (dH kW hr.m zZ (cN (fc gv zZ jA gj (cN (cW dr (pv 1) cR (λ_ _=>rfl)) cJ)) cJ)) (cD (fc gv zZ jA gj (cN (pv 2) cJ)) (cD (Iq (qual:=sF) zZ hC bm (λ_ _ _ _ _=>rfl) zZ zZ) db zZ) zZ) zZ))) cJ)))))⟩;refine⟨_,zZ,_,zZ,m,a,ts,n,af,c,us,ag,zZ,M,ff,lv,lp,λlm rs mk H1 g1 ao Tm Mk am=>?_⟩;obtain⟨s',t',v',bs,ds,cs,h1,h2,h3,h4,h5,h6,h7,h8⟩:=id (lv.same g1);have l5:=h5.len;obtain⟨uU,few⟩:=lp.inU M ff;have n5:=M.n5;have nd:=wq M ff lp;have mU: ∀t∈mk,t∈gU us n:=λt ht=>by
  obtain⟨k,l,k',x,wd,aq,e1,e2,e3,e4,e5,e6⟩:=Mk.mem t ht;exact E9 M ff lp e1 e2 e3 e4 e5 e6
 refine⟨_,zZ,a,_,_,_,zZ,zZ,Q4 h1,zZ,t',_,zZ,.inl (Q3 h4),?_⟩
 try dsimp only
 rw[cC,l5];refine⟨us.length,zZ,(),λst H2 g2 e2=>?_⟩;have L:=g2 _ _ ao;have ab:=Tm.same g2;have T2:Tabs H2:=(hT.same g1).same g2;refine⟨_,zZ,lm,_,zZ,.inl (Q3 L),?_⟩
 try dsimp only
 rw[cC,ab.len];have ah: ∀(B:Hp) (D:Ad) (ws:TW) (as:As),Keeps H B->Tabs B->WordsAt B D ws as->Told (nY mk) mk.length (List.range us.length) ws->jr [.ref D] B Q:=λB D ws as k3 t3 W TT=>by
  have inG: ∀p∈ws,p.1∈gU us n:=λp hp=>by
   obtain⟨r1,r2⟩:=TT.run p hp;rw[<-r2];refine v5 (Cf nd uU) (λx hx l hl=>ED n5 uU hx ?_) p.2 r1;rw[eC,cE hl];exact mU _ (l6 hl)
  refine⟨D,_,ws.map (·.1),zZ,W.dict,?_,λt ht e=>?_,?_,λl bs gs hl Tb pm up=>?_⟩
  .exact Fp W.len
  .obtain⟨p,hp,rfl⟩:=dh.mp ht;have z:=(EX (inG p hp)).1;rw[e]at z;have:=Gz M ff lp
   simp at z;lia
  .refine dL (oF (U:=gU us n) TT.keys λx hx=>?_) (EU n5);obtain⟨p,hp,rfl⟩:=dh.mp hx;exact inG p hp
  .have gl:=cM hl (.lst (bs.map V.ref));refine q l bs gs mk ws _ (k3.trans gl.keeps) (t3.same gl) ?_ cF (Tb.same gl) pm up Mk TT;cases y:L2.noT H l with
   |none=>rfl
   |some o=>
    have z:=k3 _ _ y;rw[hl]at z;cases z
 have go: ∀(N G:Ad) (ct:Vl) (B:Hp) (ai:AV),H2 T=some (.tbl ai)->KeepsBut T H2 B->B T=some (.tbl (lQ (⟨121,61,121,110⟩:Pos) G))->B G=some (lG G sF)-> ∀(d:Arguments) (C:Expr) (g:Scope) (pm:Vl) (I:Ad),B N=some (jk N (iK sF d C g uS I pm (.ref G) ct))->
   ∀O,B I=none->(FnOk P w K mg base de 5 N (iK sF d C g uS I pm (.ref G) ct) [tX,"number"] (eZ (Same (cA B I (hX I lm O))) (gU us n) mk.length (nY mk)))->Binds K (iK sF d C g uS I pm (.ref G) ct) [tX,"number"] []->
   eE P w K mg base [.ref st,nv mk.length,.ref N,.non] (cA B I (hX I lm O)) (λr H4=>H4 I=some (hX I lm O)/\jr [r] (L2.drop H4 I) Q) E0:=λN G ct B ai aj kb h1 h2 d C g pm I h3 O Y hF hB=>by
  have J:=kb.keeps aj;have v:=cM Y (hX I lm O);refine⟨st,N,_,_,List.range us.length,mk.length,gU us n,nY mk,zZ,v _ _ (J _ _ (nU e2)),v _ _ h3,Cf nd uU,λx hx l hl=>ED n5 uU hx ?_,EU n5,(),hF,hB,λD ws as H4 g4 W nw TT=>⟨g4 _ _ cF,ah _ D ws as (λb o hb=>?_) (T2.but hq aj (λb o nb hb=>?_) (.inr ⟨G,?_,?_⟩)) ⟨W.len,?_,λj a r e1 e2=>?_⟩ TT⟩⟩
  .rw[eC,cE hl];exact mU _ (l6 hl)
  .have z:=((g1.trans g2).keeps.trans J) b o hb;rw[eV (dU z Y)];exact g4 _ _ (v _ _ z)
  .have z:=kb b o nb hb;rw[eV (dU z Y)];exact g4 _ _ (v _ _ z)
  .rw[eV (dU h1 Y)];exact g4 _ _ (v _ _ h1)
  .rw[eV (dU h2 Y)];exact g4 _ _ (v _ _ h2)
  .rw[eV (nE W.dict (g4 _ _ cF))];exact W.dict
  .have z:=W.list j a r e1 e2;rw[eV (nE z (g4 _ _ cF))];exact z
 rcases T2 _ hq with u|⟨G,u,aa⟩
 .refine .inl ⟨u,λN G ct ae aa ne=>⟨lm,zZ,λO Y=>?_⟩⟩;obtain⟨J,ap,ak⟩:=IV (⟨121,61,121,110⟩:Pos) sF u ae aa ne _;have v:=cM Y (hX (s.heap.objs.size+1) lm O);have al:=J.keeps u;obtain⟨F1,F2⟩:=Hn zZ kK (v _ _ (al _ _ (nU L))) ((pY ab al).same v) mU few (v _ _ cF) cF (v _ _ ak);exact go N G ct _ _ u J ap ak _ _ _ _ _ cF O Y F1 F2
 .refine .inr ⟨G,u,aa,λN ct ae=>⟨lm,zZ,λO Y=>?_⟩⟩;have J: ∀lo,Same H2 (cA H2 N lo):=λlo=>cM ae lo;have v:=cM Y (hX (s.heap.objs.size+1) lm O);obtain⟨F1,F2⟩:=Hn zZ kK (v _ _ (J _ _ _ L)) ((ab.same (J _)).same v) mU few (v _ _ cF) cF (v _ _ (J _ _ _ aa));exact go N G ct _ _ u (λb o _ hb=>J _ _ _ hb) (J _ _ _ u) (J _ _ _ aa) _ _ _ _ _ cF O Y F1 F2
def Nf{d:LN}{a told:iS}(o:Ord d a told):(∀c∈told,c∈a)/\told.Nodup:=by
 induction o with
 |nil=>exact⟨λ_ h=>h,List.nodup_nil⟩
 | @cons a told s h r g=>
  obtain⟨b,i⟩:=g;refine⟨λc j=>?_,mE.mpr ⟨λm=>?_,i⟩⟩
  .rcases dZ.mp j with e|e
   .rw[e];exact(dP.mp (List.mem_of_head? h)).1
   .exact(dP.mp (b c e)).1
  .have:=ie (dP.mp (b s m)).2;exact this rfl
def IW{b:LN}{a told:iS}(o:Ord b a told): ∀c∈a,c∈told:=by
 induction o with
 |nil=>exact λ_ h=>h
 | @cons a told s h r d=>
  intro c g;by_cases e:c=s
  .rw[e];exact dY ..
  .exact fR _ (d c (dP.mpr ⟨g,eJ e⟩))
def J0{b:LN}{n:Nat}{a:LN}(i:FamOf b n a):(di b (big a)).Pairwise λc d=>gS gl (c.headD []) (d.headD [])=true:=by
 unfold di;rw[wG];refine Dh ?_ (pQ (tF.trans tF) i.up);intro x y j k h;have g: ∀z,z∈(big a).filter (λx=>(dm b (big a) x).head? ==some x)->(dm b (big a) z).headD []=z:=λz l=>by
  have e:=eq_of_beq (dP.mp l).2;rw[List.headD_eq_head?_getD,e];rfl
 rw[g x j,g y k];exact h
def A8{H:Hp}{m:Ad}{ts:LN}{n:Nat}(M:Mach H m ts n){x y:cz}(a:x∈eK n)(h:eY ts x y=true):y.length<=x.length:=by
 obtain⟨word,hw,rfl⟩:=cL.mp h;have z:=wJ (l₂:=x.map λr=>e7 ts r word) (EA (ot M a hw)) λr b=>by
  obtain⟨c,d,e⟩:=(mR M a hw).mp b;exact dh.mpr ⟨c,d,e⟩
 rw[cC]at z;exact z
def LM{x y:cz}(h:gS gl x y=true):y.length<=x.length:=by
 unfold gS uu gl at h;split at h
 .lia
 .have:=ie h;lia
def NF{x y:cz}(h:gS gl x y=true)(e:x.length=y.length):eR y x=false:=by
 cases z:eR y x with
 |false=>rfl
 | true=>
  have b:gS gl y x=true:=by
   unfold gS uu gl;rw[wB (by rw[e])];exact z
  have a:=(oA gl [x,y]).trans _ _ _ h b;rw[(oA gl [x,y]).irr]at a;cases a
def GD{b:Type}{R:b->b->Prop}{a:List b}{s d:b}(up:a.Pairwise R)(h:a.head? =some s)(c:d∈a):d=s∨R s d:=by
 cases a with
 |nil=>cases h
 |cons x a=>
  injection h with h
  subst h
  rcases dZ.mp c with e|e
  .exact .inl e
  .exact .inr ((vx.mp up).1 d e)
structure Due(ts:LN)(rest:iS)(c:LN):Prop where
 most: ∀d∈rest,(d.headD []).length<=(c.headD []).length
 free: ∀d∈rest,d≠c->eY ts (d.headD []) (c.headD [])=false
 first: ∀d∈rest,(d.headD []).length=(c.headD []).length->(∀e∈rest,e≠d->(e.headD []).length=(d.headD []).length->eY ts (e.headD []) (d.headD [])=false)->eR (d.headD []) (c.headD [])=false
def J5{i:LN}{g:iS}{s:LN}(un:v9 i g)(up:g.Pairwise λc d=>gS gl (c.headD []) (d.headD [])=true)(x: ∀c∈g,∀d∈g,eY i (c.headD []) (d.headD [])=true->(d.headD []).length<=(c.headD []).length)(h:(g.filter λc=> !dA i g c).head? =some s):Due i g s:=by
 obtain⟨G,fs⟩:=dP.mp (List.mem_of_head? h);have free: ∀{c:LN},c∈g->(∀e∈g,e≠c->eY i (e.headD []) (c.headD [])=false)->c∈g.filter λc=> !dA i g c:=λ{c} B f=>by
  refine dP.mpr ⟨B,?_⟩;rw[Bool.not_eq_true',dA,Aa];intro e j;by_cases z:e=c
  .rw[fy (λk=>k z),Bu];decide
  .rw[f e j z,Bool.and_false];decide
 have o:=pQ (tF (p:=λc=> !dA i g c)) up;have most: ∀d∈g,(d.headD []).length<=(s.headD []).length:=λd n=>by
  by_cases lt:(d.headD []).length<=(s.headD []).length
  .exact lt
  obtain⟨t,ht,y⟩:=EI (ts:=i) (cs:=g.filter λe=>decide ((d.headD []).length<=(e.headD []).length)) (λa C b D=>un a (dP.mp C).1 b (dP.mp D).1) _ d (dP.mpr ⟨n,eJ (cO _)⟩) (cO _);obtain⟨A,u⟩:=dP.mp ht;have u:=ie u;have v:t∈g.filter λc=> !dA i g c:=free A λe j q=>by
   cases r:eY i (e.headD []) (t.headD [])with
   |false=>rfl
   |true=>
    have l:=x e j t A r;have m:e∈g.filter λe=>decide ((d.headD []).length<=(e.headD []).length):=dP.mpr ⟨j,eJ ()⟩
    rw[dA,Aa]at y;exact wC (by rw[eJ q,r];rfl) (y e m)
  rcases GD o h v with z|z
  .rw[<-z];exact u
  .have:=LM z;lia
 refine⟨most,λd n q=>?_,λd n E f=>?_⟩
 .rw[Bool.not_eq_true',dA,Aa]at fs;have z:=fs d n;rw[eJ q,zp]at z;exact qd.mpr z
 .have fd:d∈g.filter λc=> !dA i g c:=free n λe j q=>by
   cases r:eY i (e.headD []) (d.headD [])with
   |false=>rfl
   |true=>
    have l:=x e j d n r;have H:=most e j;have z:=f e j q ();rw[r]at z;cases z
  rcases GD o h fd with z|z
  .rw[z];exact pD _
  .exact NF z E.symm
def ON{j:LN}{g told:iS}(o:Ord j g told)(un:v9 j g)(up:g.Pairwise λc d=>gS gl (c.headD []) (d.headD [])=true)(n: ∀c∈g,∀d∈g,eY j (c.headD []) (d.headD [])=true->(d.headD []).length<=(c.headD []).length): ∀(k:Nat) (c:LN),told[k]? =some c->Due j (told.drop k) c:=by
 induction o with
 |nil=>exact λk c e=>by simp at e
 | @cons g told s h r p=>
  intro k c e;cases k with
  |zero=>
   injection e with e
   subst e;have d:=J5 un up n h;have all:=Nf (Ord.cons h r);have mem: ∀d,d∈s::told↔d∈g:=λd=>⟨all.1 d,IW (Ord.cons h r) d⟩
   rw[wg];exact⟨λx i=>d.most x ((mem x).mp i),λx i=>d.free x ((mem x).mp i),λx i q f=>d.first x ((mem x).mp i) q λe t=>f e ((mem e).mpr t)⟩
  |succ k=>
   have u:told[k]? =some c:=by simpa using e
   rw[List.drop_succ_cons];exact p (λa l b m=>un a (dP.mp l).1 b (dP.mp m).1) (pQ tF up) (λa l b m=>n a (dP.mp l).1 b (dP.mp m).1) k c u
section
variable{H:Hp}{m:Ad}{ts:LN}{n:Nat}{d:LN}
def HW(M:Mach H m ts n)(a:FamOf ts n d){c:LN}(b:c∈di ts (big d)){x:cz}(e:x∈c):x.length=(c.headD []).length:=by
 obtain⟨_,_,g,call⟩:=iD b;obtain⟨h,i,j⟩:=call x e;have k:=A8 M (a.inU M (dP.mp g).1) (cL.mpr i);have l:=A8 M (a.inU M (dP.mp h).1) (cL.mpr j);lia
def KJ{x t:cz}(c:x∈eK n)(ht:t∈eK n)(s:sub t x=true)(g:t≠x):t.length<x.length:=by
 have h: ∃r∈x,r∉t:=by
  apply Bf;intro no;refine g (Ii ht c s (cX.mpr λr a=>?_));apply Bf;exact λz=>no ⟨r,a,z⟩
 obtain⟨r,a,i⟩:=h;have z:=wJ (l₂:=x.erase r) (EA ht) λy b=>(Ao λ(e:y=r)=>i (e▸b)).mpr (cX.mp s y b);rw[Em a]at z;have:0<x.length:=zA a;lia
def Pd{x:cz}(j:x∈big d): ∃c∈di ts (big d),x∈c:=by
 have self:=Es (ts:=ts) j;cases e:dm ts (big d) x with
 |nil=>rw[e]at self;cases self
 | cons y rest=>
  have k:y∈dm ts (big d) x:=by rw[e];exact dY ..
  obtain⟨l,g⟩:=dP.mp k;rw[lU]at g;have h:=cL.mp g.1;have i:=cL.mp g.2;have same:dm ts (big d) y=dm ts (big d) x:=by
   unfold dm;refine vo λz _=>?_;rw[lH,lU,lU,cL,cL,cL,cL];exact⟨λ⟨a,b⟩=>⟨h.trans a,b.trans i⟩,λ⟨a,b⟩=>⟨i.trans a,b.trans h⟩⟩
  refine⟨dm ts (big d) y,dh.mpr ⟨y,dP.mpr ⟨l,?_⟩,zZ⟩,by rw[same];exact self⟩;rw[same,e];simp
end
def Oo{H:Hp}{m:Ad}{e:LN}{n:Nat}{a c l d:LN}(M:Mach H m e n)(b:FamOf e n a)(g:LvP e a c l d){k:Nat}{x o:cz}(p:c[k]? =some x)(q:d[k]? =some o)(y:cz):y∈(l.map λu=>dv (cI e) u o)↔y∈jd a x:=by
 obtain⟨B,i⟩:=g.bij M b p q;obtain⟨_,_,r,call⟩:=iD g.cls;have s:=b.inU M (dP.mp r).1;have t:=b.inU M (dP.mp (call x (cY p)).1).1;constructor
 .intro h;obtain⟨u,j,rfl⟩:=dh.mp h;exact we M b s i (by rw[<-g.tl];exact j)
 .intro h;have z:=we M b t i.symm h;rw[<-g.tl]at z;obtain⟨v,C,A,_⟩:=(oN M b).mp h;exact dh.mpr ⟨_,z,i.symm.back M (b.inU M v) A⟩
def N5{H:Hp}{m:Ad}{d:LN}{n:Nat}{t c g y:LN}(M:Mach H m d n)(A:FamOf d n t)(L:LvP d t c g y){k k' l:Nat}{x r B:cz}{q:cz}(ex:c[k]? =some x)(ew:y[k]? =some r)(ll:l<d.length)(ey:c[k']? =some (cI d x l))(N:ke d g r B l q):q.Perm (List.range g.length):=by
 obtain⟨_,_,cx,call⟩:=iD L.cls;obtain⟨p,G⟩:=L.bij M A ex ew;obtain⟨xb,O,aa⟩:=call x (cY ex);obtain⟨yb,ae,Q⟩:=call _ (cY ey);have xU:=A.inU M (dP.mp xb).1;have fU:=A.inU M (dP.mp cx).1;obtain⟨p2,b2⟩:=Dq M (w:=[l]) xU (λz hz=>by rw[dw.mp hz];exact ll) zZ (Q.trans O);have T:=qr M A (c.headD []);rw[<-L.tl]at T;have U:g.Nodup:=T.up.imp λ{a b} z e=>by
  subst e;rw[FX]at z;cases z
 obtain⟨lj,N⟩:=N;have back: ∀u∈g,dv (cI d) (dv (cI d) (cI d (dv (cI d) u r) l) p2) p=u:=λu hu=>by
  obtain⟨h1,h2,h3⟩:=T.mem u hu;have Y:=A.inU M h1;have s1:sub (dv (cI d) u r) x=true:=by
   have z:=zc M Y fU G.lw h3;rw[G.to]at z;exact z
  have z:dv (cI d) (cI d (dv (cI d) u r) l) p2=dv (cI d) u r:=b2.back M (ot M Y G.lw) s1;rw[z];exact G.back M Y h3
 have s: ∀i:Nat,i<q.length-> ∃u o,g[i]? =some u/\q[i]? =some o/\o<g.length/\ ∃C,g[o]? =some C/\dv (cI d) C B=cI d (dv (cI d) u r) l:=λi I=>by
  obtain⟨u,D⟩: ∃u,g[i]? =some u:=⟨_,cE ()⟩;obtain⟨o,E⟩: ∃o,q[i]? =some o:=⟨_,cE I⟩;obtain⟨C,J,f2⟩:=N i u o D E;exact⟨u,o,D,E,(cP.mp J).1,C,J,f2⟩
 have nd:q.Nodup:=by
  rw[Fm,pV];intro i j I hj ij e;obtain⟨u,a,D,ea,_,C,J,f2⟩:=s i I;obtain⟨v,b,ev,eb,_,v',g1,g2⟩:=s j hj;rw[cE I]at ea;rw[cE hj]at eb;have ab:a=b:=by
   have z1:=gD ea;have z2:=gD eb;rw[<-z1,<-z2];exact e
  subst ab;rw[J]at g1;cases g1;have uv:u=v:=by rw[<-back u (cY D),<-back v (cY ev),<-f2,<-g2]
  subst uv;have:=(jx () U).mp (D.trans ev.symm);lia
 have sb: ∀a∈q,a<g.length:=λa ha=>by
  obtain⟨i,ei⟩:=gA.mp ha;obtain⟨_,o,_,E,lt,_⟩:=s i (cP.mp ei).1;rw[ei]at E;cases E;exact lt
 refine(List.perm_ext_iff_of_nodup nd List.nodup_range).mpr λa=>⟨λh=>f'.mpr (sb a h),λh=>?_⟩;by_cases z:a∈q
 .exact z
 .have le:=wJ (l₂:=(List.range g.length).erase a) nd λb hb=>(Ao λ(e:b=a)=>z (by rw[<-e];exact hb)).mpr (f'.mpr (sb b hb));rw[Em h,iU]at le;have:=f'.mp h;lia
def LvH.keeps{H e:Hp}{a:Ad}{c i d:LN}(h:LvH H a c i d)(g:Keeps H e):LvH e a c i d:=by
 obtain⟨s,t,v,bs,ds,j,l,m,n,o,p,q,r,u⟩:=h;exact⟨s,t,v,bs,ds,j,g _ _ (nU l),g _ _ (nU m),pY n g,g _ _ (nU o),pY p g,g _ _ (nU q),r,λk b x y z=>g _ _ (nU (u k b x y z))⟩
def CZ{H c:Hp}{l:Ad}{o:HO}(g:Keeps H c)(n:L2.noT H l=none):Keeps H (cA c l o):=λb u a=>by
 rw[cK (λz=>by rw[z,n]at a;cases a)];exact g b u a
inductive Gen (S:cz->Prop) (N:Nat):cz->Prop
 |base:Gen S N (List.range N)
 |step {x m:cz}:Gen S N x->S m->Gen S N (eF x m)
def Pb{a:LN}{N:Nat}: ∀(v x:cz),(∀i∈v,i<a.length)->Gen (· ∈a) N x->Gen (· ∈a) N (dv (nY a) x v):=by
 intro v
 induction v with
 |nil=>exact λx _ h=>h
 |cons i v d=>
  intro x b h;have c:=b i (dY ..);refine d (nY a x i) (λl e=>b l (fR _ e)) ?_;show Gen _ _ (eF x (a.getD i []));rw[eC,cE c];exact .step h (l6 c)
def L9{a:LN}{N:Nat}{e:TW}(T:Told (nY a) a.length (List.range N) e)(t:cz):t∈e.map (·.1)↔Gen (· ∈a) N t:=by
 constructor
 .intro h;obtain⟨p,b,rfl⟩:=dh.mp h;obtain⟨c,d⟩:=T.run p b;rw[<-d];exact Pb p.2 _ c .base
 .intro h
  induction h with
  |base=>exact dh.mpr ⟨_,cY T.head,zZ⟩
  | @step x m _ k l=>
   obtain⟨i,g⟩:=vR k;have n:=(cP.mp g).1;obtain⟨p,b,rfl⟩:=dh.mp l;obtain⟨c,d⟩:=T.run p b;obtain⟨u,j,_⟩:=T.least _ (p.2++[i]) zZ λx o=>(dD.mp o).elim (c x) λz=>by rw[dw.mp z];exact n
   have q:dv (nY a) (List.range N) (p.2++[i])=eF p.1 m:=by
    have r:nY a p.1 i=eF p.1 m:=by
     show eF _ (a.getD i [])=_;rw[eC,g];rfl
    rw[<-r,<-d];unfold dv;rw[rj];rfl
   rw[q]at j;exact dh.mpr ⟨_,j,zZ⟩
def OP{S a:cz->Prop}{N:Nat}(h: ∀t,S t↔a t)(t:cz):Gen S N t↔Gen a N t:=by
 have e:S=a:=funext λt=>propext (h t);rw[e]
def uw(d c h a:LN)(t:cz):Prop:= ∃(k l e:Nat) (x g b:cz),c[k]? =some x/\a[k]? =some g/\l<d.length/\c[e]? =some (cI d x l)/\a[e]? =some b/\ke d h g b l t
def Nu{H:Hp}{m:Ad}{b:LN}{n:Nat}{d c g a h:LN}(M:Mach H m b n)(i:FamOf b n d)(j:LvP b d c g a)(Mk:Makers b c g a h)(t:cz):t∈h↔uw b c g a t:=by
 refine⟨Mk.mem t,?_⟩;rintro⟨k,l,E,x,q,r,s,u,v,e,o,y⟩;obtain⟨G,z,I,A,B,p,C⟩:=Mk.all k l x q s u v (cY e);have D:=(jx (cP.mp e).1 (j.nd i)).mp (e.trans B.symm);subst D;rw[o]at p;cases p;rw[Pn M i j e o y C];exact A
def Kj{N:Nat}{x:cz}(h: ∀r∈x,r<N):eF x (List.range N)=x:=by
 unfold eF;have:x.map (λr=>(List.range N).getD r 0)=x.map id:=uq λr a=>by
  rw[eC,oV (h r a)];rfl
 rw[this,List.map_id]
def Ni{N:Nat}{t:cz}(h:t.length=N):eF (List.range N) t=t:=by
 subst h;refine oj λj=>?_;unfold eF;rw[cV];by_cases z:j<t.length
 .rw[oV z,cE z];show some (t.getD j 0)=_;rw[eC,cE z];rfl
 .rw[j4 (by simp;lia),List.getElem?_eq_none ()];rfl
section
variable{S:cz->Prop}{N:Nat}
def zm{t:cz}(h:t.Perm (List.range N)):t.length=N/\ ∀r∈t,r<N:=⟨by rw[h.length_eq,iU],λr a=>f'.mp (h.mem_iff.mp a)⟩
def KA(a: ∀m,S m->m.Perm (List.range N)){t:cz}(h:Gen S N t):t.Perm (List.range N):=by
 induction h with
 |base=>exact List.Perm.refl _
 | @step x m _ b c=>
  have z:=c.map λr=>m.getD r 0;exact z.trans ((List.Perm.of_eq (Ni (zm (a m b)).1)).trans (a m b))
end
theorem He: ∀(n k:Nat) (g:cz),g.Perm (List.range' k n)->gP g (List.range' k n)=none∨gP g (List.range' k n)=some false
 |0,k,g,h=>by
  rw[h.eq_nil];exact .inl rfl
 |n+1,k,[],h=>wC h.length_eq (by simp)
 | n+1,k,a::g,h=>by
  rw[List.range'_succ]at h⊢;have b:=h.mem_iff.mp (dY ..);show(if a=k then gP g (List.range' (k+1) n)else some (decide (a<k)))=none∨(if a=k then gP g (List.range' (k+1) n)else some (decide (a<k)))=some false;by_cases e:a=k
  .subst e;rw[wB zZ];exact He n (a+1) g (List.perm_cons a |>.mp h)
  .rw[wA e];refine .inr (dN some (fy ?_))
   rcases dZ.mp b with z|z
   .exact wC z e
   .have:=(List.mem_range'_1.mp z).1;lia
def JY{N:Nat}{a:LN}(pm: ∀t∈a,t.Perm (List.range N))(up:a.Pairwise λx y=>eR x y=true)(h:List.range N∈a):a[0]? =some (List.range N):=by
 cases a with
 |nil=>cases h
 | cons g a=>
  rcases dZ.mp h with e|e
  .rw[e];rfl
  .have z:=(vx.mp up).1 _ e;have p:=pm g (dY ..);rw[List.range_eq_range']at p z;have b:=p.length_eq;unfold eR at z
   rcases He N 0 g p with y|y
   .rw[y]at z;have:=ie z;lia
   .rw[y]at z;cases z
theorem HD{x u v:cz}: ∀{a:TW},(a.map (·.1)).Nodup->(x,u)∈a->(x,v)∈a->u=v
 | [],_,h,_=>nomatch h
 | p::a,nd,d,b=>by
  obtain⟨c,e⟩:=mE.mp nd
  rcases dZ.mp d with e1|e1
  .rcases dZ.mp b with e2|e2
   .rw[<-e1]at e2;injection e2 with _ e2
    exact e2.symm
   .exact wC (dh.mpr ⟨_,e2,by rw[<-e1]⟩) c
  .rcases dZ.mp b with e2|e2
   .exact wC (dh.mpr ⟨_,e1,by rw[<-e2]⟩) c
   .exact HD e e1 e2
def Wds(b c a:LN):Prop:=a.length=c.length/\ ∃d,Told (cI b) b.length (c.headD []) d/\ ∀(k:Nat) (x e:cz),c[k]? =some x->a[k]? =some e->(x,e)∈d
def Wds.uniq{j c e d:LN}(h:Wds j c e)(o:Wds j c d):e=d:=by
 obtain⟨s,t,T,a⟩:=h;obtain⟨u,p,q,b⟩:=o;cases T.uniq q;refine oj λk=>?_;by_cases r:k<c.length
 .obtain⟨i,l⟩: ∃i,e[k]? =some i:=⟨_,cE ()⟩;obtain⟨g,m⟩: ∃g,d[k]? =some g:=⟨_,cE ()⟩;have n:=cE r;rw[l,m,HD T.keys (a k _ i n l) (b k _ g n m)]
 .rw[j4 (),j4 ()]
def Ord.uniq{b:LN}{c told a:iS}(h:Ord b c told)(d:Ord b c a):told=a:=by
 induction h generalizing a with
 |nil=>
  cases d with
  |nil=>rfl
  |cons h r=>cases h
 | cons h r g=>
  cases d with
  |nil=>cases h
  |cons e i=>
   rw[h]at e;cases e;rw[g i]
def LevAt.lvw{H:Hp}{l:Ad}{q d:LN}{I:List WE}{a:Ad}{c:LN}(h:LevAt H l q d (big d) I a c)(J:c∈di q (big d)): ∃e,LvH H a c (jd d (c.headD [])) e/\LvP q d c (jd d (c.headD [])) e/\Wds q c e:=by
 obtain⟨s,t,v,bs,L,z,i,y,M,h2,h3,h4,h5,N,O,Q,T,A,U,Y,aa,j,ab,B⟩:=h;obtain⟨e,C,D⟩:=C7 (n:=c.length) (P:=λk g=> ∃x b,c[k]? =some x/\z[k]? =some b/\(x,g)∈y.2.1/\H b=some (.lst (g.map nv))) λk hk=>by
  obtain⟨x,E⟩: ∃x,c[k]? =some x:=⟨_,cE hk⟩;obtain⟨b,G⟩: ∃b,z[k]? =some b:=⟨_,cE ()⟩;obtain⟨g,r,u⟩:=B k x b E G;exact⟨g,x,b,E,G,r,u⟩
 have m: ∀(k:Nat) (x g:cz),c[k]? =some x->e[k]? =some g->(x,g)∈y.2.1:=λk x g o p=>by
  obtain⟨x',b',r,_,z3,_⟩:=D k g p;rw[o]at r;cases r;exact z3
 refine⟨e,⟨s,t,v,bs,L,z,M,N,O,Q,T,A,(),λk b g o p=>?_⟩,⟨J,zZ,C,λk x g o p=>j.run _ (m k x g o p)⟩,C,y.2.1,j,m⟩;obtain⟨x',b',_,u,_,z4⟩:=D k g p;rw[o]at u;cases u;exact z4
inductive ja(b:List V)(H:Hp)(Q:VK)(a:XK):Prop|mk:∀i:Int,b=[.int i]->Q (.bl true) H->ja b H Q a
def MW(F:Fun K vL vL CO f fd)(b:mg "isinstance"=none)(c:mg "int"=none)(d:mg "bool"=none):FnOk P w K mg base de 1 f fd [sP] ja:=by
 refine F.ok Ps (λe A a s H g Q E j h=>?_)
 obtain⟨i,rfl,q⟩:=h;refine⟨_,(cU (dG (Aw (fc EK zZ b Ca (c8 (cD (pv 0) (cD (Dr zZ c boot_int) db zZ) zZ))) (AF (Lf (fc EK zZ b Ca (c8 (cD (pv 0) (cD (Dr zZ d boot_bool) db zZ) zZ)))))))),?_⟩;refine⟨_,zZ,_,_,_,_,zZ,.int i,Oi,_,zZ,fH ?_⟩;exact⟨_,zZ,_,_,_,_,zZ,.int i,Nc,_,zZ,q⟩
def gM{K:Q5}:PySem.W.kitOne K (.type "tuple") (.type "tuple")=some true:=by rfl
inductive jh(b:List V)(H:Hp)(Q:VK)(a:XK):Prop|mk:∀(c:Ad) (d:cz),b=[.ref c]->H c=some (.tup (d.map nv))->d.length<=4000->(∀e,Same H e->Q (.bl true) e)->jh b H Q a
def NK(F:Fun K vB vB zS f fd)(n:dE P w K mg base vL 1 [sP] ja)(o:mg "isinstance"=none)(p:mg "tuple"=none):FnOk P w K mg base de 3 f fd [sP] jh:=by
 refine F.ok Kp (λr A a s H C Q E g h=>?_)
 obtain⟨c,i,rfl,b,D,q⟩:=h;have t:=g.units;refine⟨_,(cU (dG (Aw (fc EK zZ o Ca (c8 (cD (pv 0) (cD (Dr zZ p mz) db zZ) zZ))) (AF (wm (tD t) (gW (CompSc.to (N:=[sP]) (osc:=cZ zS) (vs:=[tS]) {}) zZ zZ (ua (pv 0)) (λ_ _ _ _=>qx (xc (re (dH n g.m zZ (cN (pv 0) cJ))))) (λ_ _ _ _=>(pv 0))) (gI cJ) (fY _)))))),?_⟩;refine⟨_,zZ,_,_,_,_,zZ,.tup b,gM,_,zZ,fH ?_⟩;refine⟨_,zZ,c,zZ,⟨_,Q4 b⟩,Hl (f:=λ_=>false) (by rw[cC,dz];lia) (Q4 b) (λv Q j q=>?_) (λv Q j q=>⟨_,zZ,q⟩) (λl u=>?_)⟩
 .obtain⟨x,G,rfl⟩:=dh.mp j;exact⟨_,zZ,(x:Int),zZ,_,zZ,q⟩
 have y:=cM u (.lst ((i.map nv).filter λ_=>false));refine⟨(by show 0<=sizeLine;decide),λk d=>?_⟩;have m:=cM d (.lst []);have z:(cA (cA H l (.lst ((i.map nv).filter λ_=>false))) k (.lst [])) l=some (.lst []):=by
  rw[m _ _ cF];simp
 refine⟨l,k,0,_,_,zZ,zZ,wV (is:=[]) (Q3 z),wV (is:=[]) (Q3 cF),by decide,λc B=>?_⟩;have e:c=true:=B.mpr rfl;subst e;exact q _ (y.trans m)
structure Lv where
 c:LN
 us:LN
 wds:LN
 gs:LN
structure GrpOf(ts c us wds gs:LN):Prop where
 up:gs.Pairwise λx y=>eR x y=true
 mem: ∀t,t∈gs↔Gen (uw ts c us wds) us.length t
def GrpOf.uniq{d c e a g b:LN}(h:GrpOf d c e a g)(i:GrpOf d c e a b):g=b:=CM pD zH h.up i.up λt=>(h.mem t).trans (i.mem t).symm
def Fb{H:Hp}{m:Ad}{b:LN}{n:Nat}{d c e a g h:LN}{i:TW}(M:Mach H m b n)(j:FamOf b n d)(k:LvP b d c e a)(pm:h.Perm (i.map (·.1)))(up:h.Pairwise (λx y=>eR x y=true))(Mk:Makers b c e a g)(TT:Told (nY g) g.length (List.range e.length) i):GrpOf b c e a h:=
 ⟨up,λt=>by rw[pm.mem_iff,L9 TT,OP (Nu M j k Mk)]⟩
structure LvOk(ts fam:LN)(L:Lv):Prop where
 p:LvP ts fam L.c L.us L.wds
 w:Wds ts L.c L.wds
 g:GrpOf ts L.c L.us L.wds L.gs
def LvOk.uniq{ts a:LN}{L b:Lv}(h:LvOk ts a L)(d:LvOk ts a b)(e:L.c=b.c):L=b:=by
 obtain⟨c,j,k,n⟩:=L;obtain⟨o,g,i,l⟩:=b;cases e;have m:j=g:=h.p.tl.trans d.p.tl.symm;cases m;cases h.w.uniq d.w;cases h.g.uniq d.g;rfl
structure RowOf(ts:LN)(n:Nat)(fam:LN)(Ls:List Lv):Prop where
 ff:FamOf ts n fam
 od:Ord ts (di ts (big fam)) (Ls.map (·.c))
 few:Ls.length<=32
 ok: ∀L∈Ls,LvOk ts fam L
def RowOf.uniq{j:LN}{n:Nat}{c a:LN}{d b:List Lv}(h:RowOf j n c d)(g:RowOf j n a b):c=a/\d=b:=by
 cases h.ff.uniq g.ff;refine⟨zZ,?_⟩;have e:=h.od.uniq g.od;have len:d.length=b.length:=by rw[<-cC (f:=(·.c)),e,cC]
 refine AS len λi k m=>(h.ok _ (l6 k)).uniq (g.ok _ (l6 m)) ?_;have z:=dN (λl=>l[i]?) e;simpa[k,m]using z
section
variable{H:Hp}{m:Ad}{ts:LN}{n:Nat}{c:LN}{L:Lv}
def LvOk.isPm(M:Mach H m ts n)(a:FamOf ts n c)(ok:LvOk ts c L): ∀t,uw ts L.c L.us L.wds t->t.Perm (List.range L.us.length):=λ_ ⟨_,_,_,_,_,_,b,d,e,g,_,h⟩=>N5 M a ok.p b d e g h
def LvOk.pm(M:Mach H m ts n)(a:FamOf ts n c)(ok:LvOk ts c L){t:cz}(h:t∈L.gs):t.Perm (List.range L.us.length):=KA (ok.isPm M a) ((ok.g.mem t).mp h)
def LvOk.inG(M:Mach H m ts n)(a:FamOf ts n c)(ok:LvOk ts c L){t:cz}(h:t∈L.gs):t∈gU L.us n:=by
 have z:=(ok.g.mem t).mp h;have b:=(ok.p.inU M a).1
 induction z with
 |base=>exact Cf (wq M a ok.p) b
 |step d e g=>
  obtain⟨k,l,u,x,v,i,j,o,p,q,r,s⟩:=e;exact ED M.n5 b (g ((ok.g.mem _).mpr d)) (E9 M a ok.p j o p q r s)
def LvOk.nd(ok:LvOk ts c L):L.gs.Nodup:=ok.g.up.imp λ{a b} z e=>by
 subst e;rw[pD]at z;cases z
def LvOk.few(M:Mach H m ts n)(a:FamOf ts n c)(ok:LvOk ts c L):L.gs.length<=4000:=dL (oF (U:=gU L.us n) ok.nd λ_ ht=>ok.inG M a ht) (EU M.n5)
def LvOk.first(M:Mach H m ts n)(a:FamOf ts n c)(ok:LvOk ts c L):L.gs[0]? =some (List.range L.us.length):=JY (λ_ ht=>ok.pm M a ht) ok.g.up ((ok.g.mem _).mpr .base)
end
def fP(a:LN)(b:As):List (List dB×V):=a4g (a.map λx=>(x,[])) b
def DZ{a:LN}{b:As}(h:b.length=a.length):(fP a b).length=a.length:=by
 unfold fP L2.a4g;rw[List.length_zipWith,cC,h,Ay]
def Ey{b:LN}{c:As}{x:cz}{a:Ad}(h:c.length=b.length)(d:x∉b):jv (fP b c) (nk x) (.ref a)=fP (b++[x]) (c++[a]):=by
 unfold fP;rw[Ex _ (u4 (by rw[yZ];exact d)),eI];exact(C6 (ws:=b.map λx=>(x,[])) (p:=(x,[])) (a:=a) (by rw[cC,h])).symm
def NZ{b:LN}{c:As}{x:cz}{a:Ad}{k:Nat}(nd:b.Nodup)(d:b[k]? =some x)(e:c[k]? =some a):iQ (fP b c) (nk x)=some (.ref a):=zU (p:=(x,[])) (by rw[yZ];exact nd) (by rw[cV,d];rfl) e
def MV{a:LN}{b:As}{x:cz}(h:x∉a):iQ (fP a b) (nk x)=none:=u4 (by rw[yZ];exact h)
def ph{H:Hp}{D b a:Ad}{c:LN}{d:As}{x:cz}{k:Nat}(nd:c.Nodup)(e:H D=some (.dT (fP c d)))(g:H b=some (.tup (x.map nv)))(h:c[k]? =some x)(i:d[k]? =some a):DGet H D (.ref b) (some (.ref a)):=
 .inr ⟨_,nk x,b,.inl e,zZ,by rw[j9];exact g,(NZ nd h i).symm⟩
def sj{H:Hp}{D b:Ad}{a:LN}{c:As}{x:cz}(d:H D=some (.dT (fP a c)))(e:H b=some (.tup (x.map nv)))(h:x∉a):DGet H D (.ref b) none:=
 .inr ⟨_,nk x,b,.inl d,zZ,by rw[j9];exact e,(MV h).symm⟩
def tl(a b:LN)(c:cz):LN:=b.map λu=>dv (cI a) u c
def TiledAs(H:Hp)(e g b:LN)(h:As):Prop:= ∀(k:Nat) (c:cz) (a:Ad),b[k]? =some c->h[k]? =some a-> ∃d,H a=some (.lst (d.map .ref))/\TupsAt H d (tl e g c)
def TiledAt(H:Hp)(t:Ad)(d c e a:LN):Prop:= ∃b,H t=some (.dT (fP c b))/\b.length=c.length/\TiledAs H d e a b
def TurnL(H:Hp)(b c i d:LN)(x j:cz)(e:List V):Prop:=e.length=b.length/\ ∀(l:Nat) (v:V),e[l]? =some v->(cI b x l∉c/\v= .non)∨ ∃(p:Ad) (g:cz) (h:Nat) (a:cz),v= .ref p/\H p=some (.tup (g.map nv))/\c[h]? =some (cI b x l)/\d[h]? =some a/\ke b i j a l g
def TurnsAs(H:Hp)(g c h b:LN)(i:As):Prop:= ∀(k:Nat) (x d:cz) (a:Ad),c[k]? =some x->b[k]? =some d->i[k]? =some a-> ∃e,H a=some (.lst e)/\TurnL H g c h b x d e
def TurnsAt(H:Hp)(t:Ad)(d c e a:LN):Prop:= ∃b,H t=some (.dT (fP c b))/\b.length=c.length/\TurnsAs H d c e a b
def Stays(f:HO->Bool)(H a:Hp):Prop:= ∀b o,f o=false->H b=some o->a b=some o
def tc:HO->Bool
 | .tbl _=>true
 |_=>false
def Cw:HO->Bool
 | .tbl _=>true
 | .dT _=>true
 |_=>false
def pJ:HO->Bool
 | .ins _ _ _=>true
 |_=>false
def xD:HO->Bool
 | .lst _=>true
 |_=>false
abbrev sr:=Stays Cw
abbrev mP:=Stays xD
def Stays.a{f:HO->Bool}{H H':Hp}{b:Ad}{o:HO}(g:Stays f H H')(h:H b=some o)(d:f o=false:=by rfl):H' b=some o:=g b o d h
def nz{H:Hp}{a:Ad}{o:HO}(h:H a=some o)(d:tc o=false:=by rfl):L2.noT H a=some o:=qm h λb e=>by subst e;cases d
def Dm{H a:Hp}(g:Keeps H a):Stays tc H a:=λb o d h=>g b o (nz h d)
def lM{H a:Hp}(g:Same H a):sr H a:=λb o _ h=>g b o h
def Stays.off{H:Hp}{D:Ad}{a:List (List dB×V)}{o:HO}(h:H D=some (.dT a)):sr H (cA H D o):=λb u n c=>by
 rw[cK (kh c h λe=>by rw[e]at n;cases n)];exact c
def Stays.offL{H:Hp}{D:Ad}{c:List V}{o:HO}(h:H D=some (.lst c)):mP H (cA H D o):=λb u n a=>by
 rw[cK (kh a h λe=>by rw[e]at n;cases n)];exact a
def Stays.offI{H:Hp}{D C d:Ad}{fs:List (Str×V)}{o:HO}(h:H D=some (.ins C d fs)):Stays pJ H (cA H D o):=λb u n a=>by
 rw[cK (kh a h λe=>by rw[e]at n;cases n)];exact a
section
variable{f:HO->Bool}{H m:Hp}{n c j d:LN}
def Stays.tups{bs:As}{j:LN}(g:Stays f H m)(T:TupsAt H bs j)(a: ∀e,f (.tup e)=false:=by intro;rfl):TupsAt m bs j:=⟨T.len,λi b u h k=>g _ _ (a _) (T.is i b u h k)⟩
def TiledAs.lts{e:As}(h:TiledAs H n j d e)(g:Stays f H m)(i: ∀b,f (.lst b)=false:=by intro;rfl)(l: ∀b,f (.tup b)=false:=by intro;rfl):TiledAs m n j d e:=λk o a p q=>let⟨r,s,t⟩:=h k o a p q;⟨r,g _ _ (i _) s,g.tups t l⟩
def TurnL.lts{x b:cz}{i:List V}(h:TurnL H n c j d x b i)(g:Stays f H m)(k: ∀o,f (.tup o)=false:=by intro;rfl):TurnL m n c j d x b i:=⟨h.1,λl v e=>(h.2 l v e).imp id λ⟨p,q,r,a,s,t,u⟩=>⟨p,q,r,a,s,g _ _ (k _) t,u⟩⟩
def TurnsAs.lts{e:As}(h:TurnsAs H n c j d e)(g:Stays f H m)(i: ∀b,f (.lst b)=false:=by intro;rfl)(l: ∀b,f (.tup b)=false:=by intro;rfl):TurnsAs m n c j d e:=λk x o a p q r=>let⟨s,t,u⟩:=h k x o a p q r;⟨s,g _ _ (i _) t,u.lts g l⟩
def TiledAt.keeps{t:Ad}(h:TiledAt H t n c j d)(g:Keeps H m):TiledAt m t n c j d:=let⟨a,b,e,i⟩:=h;⟨a,g _ _ (nz b),e,i.lts (Dm g)⟩
def TurnsAt.keeps{t:Ad}(h:TurnsAt H t n c j d)(g:Keeps H m):TurnsAt m t n c j d:=let⟨a,b,e,i⟩:=h;⟨a,g _ _ (nz b),e,i.lts (Dm g)⟩
end
def vZ(m g t u:Ad)(k:Nat):List (Str×V):=[(sA,.ref m),(sI,.ref g),(sJ,.ref t),(sS,.ref u),(sQ,nv k)]
section
variable{m g t u:Ad}{k:Nat}
def yG:(vZ m g t u k).lookup (sA:Str)=some (.ref m):=by kernel_rfl
def sd:(vZ m g t u k).lookup (sI:Str)=some (.ref g):=by kernel_rfl
def ql:(vZ m g t u k).lookup (sJ:Str)=some (.ref t):=by kernel_rfl
def yk:(vZ m g t u k).lookup (sS:Str)=some (.ref u):=by kernel_rfl
def yY:(vZ m g t u k).lookup (sQ:Str)=some (nv k):=by kernel_rfl
end
def StepAt(C:Ad)(H:Hp)(q m:Ad)(a:LN)(L:Lv):Prop:= ∃(c g t u:Ad) (b:As),H q=some (.ins C c (vZ m g t u L.us.length))/\H g=some (.lst (b.map .ref))/\TupsAt H b L.gs/\TiledAt H t a L.c L.us L.wds/\TurnsAt H u a L.c L.us L.wds
def StepAt.keeps{C:Ad}{H a:Hp}{q m:Ad}{b:LN}{L:Lv}(h:StepAt C H q m b L)(k:Keeps H a):StepAt C a q m b L:=
 let⟨c,g,t,u,d,e,i,j,l,n⟩:=h;⟨c,g,t,u,d,k _ _ (nz e),k _ _ (nz i),pY j k,l.keeps k,n.keeps k⟩
structure StepsAt(C:Ad)(H:Hp)(qs:As)(m:Ad)(ts:LN)(Ls:List Lv):Prop where
 len:qs.length=Ls.length
 is: ∀(i:Nat) (q:Ad) (L:Lv),qs[i]? =some q->Ls[i]? =some L->StepAt C H q m ts L
def StepsAt.keeps{C:Ad}{H a:Hp}{b:As}{m:Ad}{c:LN}{d:List Lv}(h:StepsAt C H b m c d)(k:Keeps H a):StepsAt C a b m c d:=⟨h.len,λi q L e g=>(h.is i q L e g).keeps k⟩
def t9(r s:Ad):List (Str×V):=[(sB,.ref r),(tV,.ref s)]
def HS{r s:Ad}:(t9 r s).lookup (sB:Str)=some (.ref r):=by kernel_rfl
def AC{r s:Ad}:(t9 r s).lookup (tV:Str)=some (.ref s):=by kernel_rfl
def RowAt(b CR:Ad)(H:Hp)(p m:Ad)(c:LN)(n:Nat)(d:List Lv):Prop:= ∃(e r s:Ad) (a:As),H p=some (.ins CR e (t9 r s))/\H r=some (.tup ((List.range n).map nv))/\H s=some (.lst (a.map .ref))/\StepsAt b H a m c d
def RowAt.keeps{a CR:Ad}{H b:Hp}{p m:Ad}{c:LN}{n:Nat}{d:List Lv}(h:RowAt a CR H p m c n d)(k:Keeps H b):RowAt a CR b p m c n d:=
 let⟨e,r,s,g,i,j,l,o⟩:=h;⟨e,r,s,g,k _ _ (nz i),k _ _ (nz j),k _ _ (nz l),o.keeps k⟩
inductive im(C:Ad)(k:List V)(H:Hp)(Q:VK)(j:XK):Prop|mk:∀(d:Hp) (p o m a:Ad) (e:LN) (n:Nat) (g c h b:LN),k=[.ref p,.ref m,.ref a]->Same d H->d p=none->H p=some (.ins C o [])->Mach d m e n->FamOf e n g->LvH d a c h b->LvP e g c h b->Tabs d->(∀l i,Keeps d i->Tabs i->GrpOf e c h b l->StepAt C i p m e ⟨c,h,b,l⟩->Q .non i)->im C k H Q j
inductive gG(g CR:Ad)(h:List V)(H:Hp)(Q:VK)(c:XK):Prop|mk:∀(a:Hp) (p j m:Ad) (d:LN) (n:Nat),h=[.ref p,.ref m]->Same a H->a p=none->H p=some (.ins CR j [])->Mach a m d n->Tabs a->(∀e i b,Keeps a b->Tabs b->RowOf d n e i->RowAt g CR b p m d n i->Q .non b)->gG g CR h H Q c
def Tabs.offI{H:Hp}{p C a:Ad}{fs:List (Str×V)}{o:HO}(t:Tabs H)(h:H p=some (.ins C a fs)):Tabs (cA H p o):=λq d=>by
 have k: ∀{b:Ad} {u:HO},u≠ .ins C a fs->H b=some u->cA H p o b=some u:=λn c=>by
  rw[cK (kh c h n)];exact c
 rcases t q d with t|⟨g,i,j⟩
 .exact .inl (k (λe=>nomatch e) t)
 .exact .inr ⟨g,k (λe=>nomatch e) i,k (λe=>nomatch e) j⟩
def Tabs.offD{H:Hp}{D:Ad}{a:List (List dB×V)}{o:HO}(t:Tabs H)(h:H D=some (.dT a)):Tabs (cA H D o):=t.most λb u n _ c=>by
 rw[cK (kh c h λe=>n _ e)];exact c
def xO{H a:Hp}{l:Ad}{o:HO}(g:Keeps H a)(n:H l=none):Keeps H (cA a l o):=CZ g (CF n)
def Hk{H a:Hp}{l:Ad}(g:Keeps H a)(n:a l=none):L2.noT H l=none:=by
 cases y:L2.noT H l with
 |none=>rfl
 |some o=>
  rw[g _ _ y]at n;cases n
def StepAt.off{C j:Ad}{H:Hp}{q m p d:Ad}{b:LN}{L:Lv}{fs:List (Str×V)}{o:HO}(h:StepAt C H q m b L)(c:H p=some (.ins j d fs))(n:fs.length≠5):StepAt C (cA H p o) q m b L:=by
 obtain⟨k,g,t,u,l,i,r,s,⟨v,x,y,z⟩,a,A,B,D⟩:=h;have lo:Stays pJ H (cA H p o):=Stays.offI c;refine⟨k,g,t,u,l,?_,lo.a r,lo.tups s,⟨v,lo.a x,y,z.lts lo⟩,a,lo.a A,B,D.lts lo⟩;rw[cK (kh i c λe=>by injection e with _ _ e;exact n (by rw[<-e];rfl))];exact i
def oq{b:Type}{P:Nat->b->Prop}{a:List b}{x:b}(h: ∀k y,a[k]? =some y->P k y)(c:P a.length x)(k:Nat)(y:b)(e:(a++[x])[k]? =some y):P k y:=by
 by_cases d:k<a.length
 .rw[fe d]at e;exact h k y e
 .have lk:=(cP.mp e).1;rw[dF,wM]at lk;have g:k=a.length:=by lia
  subst g;rw[e9 (cO _),nG]at e;cases e;exact c
def K'{C:Ad}(F:Fun K "__init__" "LevelParts.__init__" BI f fd)(M2:OwnC K C [sA,sI,sJ,sS,sQ])(jX:dE P w K mg base sV 13 [sA,sL] hR)(jN:dE P w K mg base uF 7 [sA,sL,"k"] fN)(jJ:dE P w K mg base tR 9 [sA,sL,"k",sK] fI)(jE:mg "enumerate"=none)(jC:mg "range"=none)(jA:mg "len"=none):FnOk P w K mg base de 15 f fd [sC,sA,sL] (im C):=by
 refine F.ok kN (λaX A aN s H vs Q E hr h=>?_)
 obtain⟨H0,p,d,m,a,I,n,aw,c,Y,y,rfl,g0,np,hp,M,ff,lv,lp,hT,q⟩:=h;have hu:=hr.units;have ax:=jq hr;obtain⟨s',t',v',bs,ds,cs,h1,h2,h3,h4,h5,h6,h7,h8⟩:=id lv;have lb:=h3.len;have l5:=h5.len;obtain⟨uU,few⟩:=lp.inU M ff;obtain⟨rs,hm,aO,_⟩:=M.refs;have t4:=M.few;have nd:=lp.nd ff;have aY:c.length<=32:=by
  rw[(iD lp.cls).2.1];exact dL (iZ _ _) (dL (iZ _ _) (ff.few M))
 refine⟨_,(cQ (um (pv 0) (pv 1) zZ) (cQ (um (pv 0) (dH jX hr.m zZ (c8 (cD (pv 1) (cD (pv 2) db zZ) zZ))) zZ) (cQ (um (pv 0) yL zZ) (cQ (um (pv 0) yL zZ) (cQ (iH gY zZ (wF zZ jE (cN (cW dr (pv 2) cR (λ_ _=>rfl)) cJ)) (om zZ (iA (fb (i:=3) kN.nd zZ (Or.inr zZ)) (iA (fb (i:=4) kN.nd zZ (Or.inl zZ)) nO))) (cQ (vf ax (iB (pv 0) zZ) (pv 4) (dH jN hr.m zZ (c8 (cD (pv 1) (cD (pv 2) (cD (pv 3) db zZ) zZ) zZ))) zZ) (cU (vf ax (iB (pv 0) zZ) (pv 4) (gW (CompSc.to (N:=[sC,sA,sL,"k",sB]) (osc:=cZ BI) (vs:=[sK]) {}) zZ zZ (m8 zZ jC (cN (fc gv zZ jA gj (cN (pv 1) cJ)) cJ)) (λ_ _ _ _=>i3) (λ_ _ _ _=>(dH jJ hr.m zZ (c8 (cD (pv 2) (cD (pv 3) (cD (pv 4) (cD (pv 0) db zZ) zZ) zZ) zZ))))) zZ)))) (cU (um (pv 0) (fc gv zZ jA gj (cN (cW dr (pv 2) cR (λ_ _=>rfl)) cJ)) zZ))))))),?_⟩;refine⟨_,zZ,_,zZ,p,C,d,_,zZ,hp,M2.cl,M2.no,by show 0<1000;decide,?_⟩;have g1:Same H0 (cA H p (.ins C d (dX sA (.ref m) []))):=gR g0 np;have p1:cA H p (.ins C d (dX sA (.ref m) [])) p=some (.ins C d (dX sA (.ref m) [])):=cF;generalize cA H p (.ins C d (dX sA (.ref m) []))=H1 at g1 p1⊢;refine⟨_,zZ,_,zZ,m,a,I,n,aw,c,Y,y,zZ,M.same g1,ff,lv.same g1,lp,hT.same g1,λg gr gs mk ws H2 k2 T2 ng eg Tg pm up Mk TT=>?_⟩;have G:=Fb M ff lp pm up Mk TT;have p2:=k2 _ _ (nz p1);refine⟨_,zZ,p,C,d,_,zZ,p2,M2.cl,M2.no,by show 1<1000;decide,?_⟩;have gp:g≠p:=nE eg p2;have k3:Keeps H0 (cA H2 p (.ins C d (dX sI (.ref g) (dX sA (.ref m) [])))):=xO (g1.keeps.trans k2) np;have T3:Tabs (cA H2 p (.ins C d (dX sI (.ref g) (dX sA (.ref m) [])))):=T2.offI p2;have p3:cA H2 p (.ins C d (dX sI (.ref g) (dX sA (.ref m) []))) p=some (.ins C d [(sA,.ref m),(sI,.ref g)]):=by rw[cF];exact dN (λl=>some (HO.ins C d l)) (by kernel_rfl)
 have an:cA H2 p (.ins C d (dX sI (.ref g) (dX sA (.ref m) []))) g=some (.lst (gr.map .ref)):=by rw[cK gp];exact eg
 have ao:TupsAt (cA H2 p (.ins C d (dX sI (.ref g) (dX sA (.ref m) [])))) gr gs:=q0 Tg p2 λ_ e=>nomatch e;generalize cA H2 p (.ins C d (dX sI (.ref g) (dX sA (.ref m) [])))=H3 at k3 T3 p3 an ao⊢;intro t ht;have J:=cM ht (.dT []);have ay:p≠t:=dU p3 ht;have aP:=Hk k3 ht;refine⟨_,zZ,p,C,d,_,zZ,J _ _ p3,M2.cl,M2.no,by show 2<1000;decide,?_⟩;have k4:Keeps H0 (cA (cA H3 t (.dT [])) p (.ins C d (dX sJ (.ref t) [(sA,.ref m),(sI,.ref g)]))):=xO (k3.trans J.keeps) np;have T4:Tabs (cA (cA H3 t (.dT [])) p (.ins C d (dX sJ (.ref t) [(sA,.ref m),(sI,.ref g)]))):=(T3.same J).offI (J _ _ p3);have p4:cA (cA H3 t (.dT [])) p (.ins C d (dX sJ (.ref t) [(sA,.ref m),(sI,.ref g)])) p=some (.ins C d [(sA,.ref m),(sI,.ref g),(sJ,.ref t)]):=by rw[cF];exact dN (λl=>some (HO.ins C d l)) (by kernel_rfl)
 have ap:cA (cA H3 t (.dT [])) p (.ins C d (dX sJ (.ref t) [(sA,.ref m),(sI,.ref g)])) g=some (.lst (gr.map .ref)):=by rw[cK gp];exact J _ _ an
 have aq:TupsAt (cA (cA H3 t (.dT [])) p (.ins C d (dX sJ (.ref t) [(sA,.ref m),(sI,.ref g)]))) gr gs:=q0 (ao.same J) (J _ _ p3) λ_ e=>nomatch e;have aj:cA (cA H3 t (.dT [])) p (.ins C d (dX sJ (.ref t) [(sA,.ref m),(sI,.ref g)])) t=some (.dT []):=by rw[cK ay.symm];exact cF
 generalize cA (cA H3 t (.dT [])) p (.ins C d (dX sJ (.ref t) [(sA,.ref m),(sI,.ref g)]))=H4 at k4 T4 p4 ap aq aj⊢;clear k3 T3 p3 an ao J ht k2 T2 p2 eg Tg g1 p1 g0 hp;intro u af;have J:=cM af (.dT []);have aQ:p≠u:=dU p4 af;have az:t≠u:=dU aj af;refine⟨_,zZ,p,C,d,_,zZ,J _ _ p4,M2.cl,M2.no,by show 3<1000;decide,?_⟩;have k5:Keeps H0 (cA (cA H4 u (.dT [])) p (.ins C d (dX sS (.ref u) [(sA,.ref m),(sI,.ref g),(sJ,.ref t)]))):=xO (k4.trans J.keeps) np;have T5:Tabs (cA (cA H4 u (.dT [])) p (.ins C d (dX sS (.ref u) [(sA,.ref m),(sI,.ref g),(sJ,.ref t)]))):=(T4.same J).offI (J _ _ p4);have p5:cA (cA H4 u (.dT [])) p (.ins C d (dX sS (.ref u) [(sA,.ref m),(sI,.ref g),(sJ,.ref t)])) p=some (.ins C d [(sA,.ref m),(sI,.ref g),(sJ,.ref t),(sS,.ref u)]):=by rw[cF];exact dN (λl=>some (HO.ins C d l)) (by kernel_rfl)
 have aA:cA (cA H4 u (.dT [])) p (.ins C d (dX sS (.ref u) [(sA,.ref m),(sI,.ref g),(sJ,.ref t)])) g=some (.lst (gr.map .ref)):=by rw[cK gp];exact J _ _ ap
 have aB:TupsAt (cA (cA H4 u (.dT [])) p (.ins C d (dX sS (.ref u) [(sA,.ref m),(sI,.ref g),(sJ,.ref t)]))) gr gs:=q0 (aq.same J) (J _ _ p4) λ_ e=>nomatch e;have aC:cA (cA H4 u (.dT [])) p (.ins C d (dX sS (.ref u) [(sA,.ref m),(sI,.ref g),(sJ,.ref t)])) t=some (.dT []):=by rw[cK ay.symm];exact J _ _ aj
 have aD:cA (cA H4 u (.dT [])) p (.ins C d (dX sS (.ref u) [(sA,.ref m),(sI,.ref g),(sJ,.ref t)])) u=some (.dT []):=by rw[cK aQ.symm];exact cF
 have aR:=Hk k4 af;generalize cA (cA H4 u (.dT [])) p (.ins C d (dX sS (.ref u) [(sA,.ref m),(sI,.ref g),(sJ,.ref t)]))=H5 at k5 T5 p5 aA aB aC aD⊢;clear k4 T4 p4 ap aq aj J af
 let Pv:Nat->L2.St->Hp->Prop:=λi σ B=>Keeps H0 B/\Tabs B/\B p=some (.ins C d [(sA,.ref m),(sI,.ref g),(sJ,.ref t),(sS,.ref u)])/\B g=some (.lst (gr.map .ref))/\TupsAt B gr gs/\(∃z,B t=some (.dT (fP (c.take i) z))/\z.length=i/\TiledAs B I Y y z)/\(∃z,B u=some (.dT (fP (c.take i) z))/\z.length=i/\TurnsAs B I c Y y z)/\ ∃o3 o4,σ=[some (.ref p),some (.ref m),some (.ref a),o3,o4]
 have L:=λ{B:Hp} (k:Keeps H0 B)=>Dm k;refine⟨_,zZ,a,_,_,_,zZ,zZ,Q4 ((L k5).a h1),zZ,s',_,zZ,Q3 ((L k5).a h2),yV (xs:=bs.map .ref) Pv ⟨k5,T5,p5,aA,aB,⟨[],aC,zZ,λk D a _ e=>by simp at e⟩,⟨[],aD,zZ,λk x D a _ _ e=>by simp at e⟩,_,_,zZ⟩ (λi σ B _ p=>Q3 ((L p.1).a h2)) (λi Tp v σ H6 hv nT pv=>?_) (λσ H6 pv=>?_)⟩
 .obtain⟨k6,T6,p6,ar,au,⟨z,ab,la,ta⟩,⟨O,ag,ae,tb⟩,o3,o4,rfl⟩:=pv;rw[cV]at hv;obtain⟨b,eb,rfl⟩:=eU.mp hv;have li:=(cP.mp eb).1;obtain⟨x,ex⟩: ∃x,c[i]? =some x:=⟨_,cE ()⟩;obtain⟨D,ew⟩: ∃D,y[i]? =some D:=⟨_,cE (by rw[lp.len];lia)⟩;have aS:=(lp.go i x D ex ew).1;have tk:c.take (i+1)=c.take i++[x]:=by rw[iY,ex];rfl
  have xn:x∉c.take i:=λh=>by
   obtain⟨j,ej⟩:=gA.mp h;have lj:=(cP.mp ej).1;rw[fi]at lj;rw[pG ()]at ej;have:=(jx () nd).mp (ej.trans ex.symm)
   lia
  have lt:(c.take i).length=i:=by rw[fi];lia
  have kT:=cM nT (.tup [.int (i:Nat),.ref b]);have eT:cA H6 Tp (.tup [.int (i:Nat),.ref b]) Tp=some (.tup [.int (i:Nat),.ref b]):=cF;generalize cA H6 Tp (.tup [.int (i:Nat),.ref b])=H7 at kT eT⊢;have k7:=k6.trans kT.keeps;refine⟨Tp,_,zZ,Q4 eT,zZ,_,_,zZ,_,_,zZ,zZ,?_⟩;refine⟨_,zZ,_,zZ,_,zZ,m,a,i,I,n,c,Y,y,D,zZ,M.keeps k7,LvH.keeps lv k7,ew,uU,few,aS,λl es H8 g8 el aE=>?_⟩;have T:=kT.trans g8;have k8:=k6.trans T.keeps;have aF:=(L k8).a (h3.is i b x eb ex);refine⟨_,zZ,p,C,d,_,_,zZ,T _ _ p6,M2.cl,M2.no,(by kernel_rfl),_,zZ,t,_,zZ,DPut.t (T _ _ ab) (by rw[j9];exact aF) (by rw[DZ (),dz];lia),?_⟩;rw[Ey () xn,<-tk];have ak:=T _ _ ab;have lo:sr H6 (cA H8 t (.dT (fP (c.take (i+1)) (z++[l])))):=λb o n hb=>Stays.off ak b o n (T _ _ hb);have av:sr H8 (cA H8 t (.dT (fP (c.take (i+1)) (z++[l])))):=Stays.off ak;have k9:Keeps H0 (cA H8 t (.dT (fP (c.take (i+1)) (z++[l])))):=CZ k8 aP;have T9:Tabs (cA H8 t (.dT (fP (c.take (i+1)) (z++[l])))):=(T6.same T).offD ak;have aG:cA H8 t (.dT (fP (c.take (i+1)) (z++[l]))) t=some (.dT (fP (c.take (i+1)) (z++[l]))):=cF;have aH:cA H8 t (.dT (fP (c.take (i+1)) (z++[l]))) u=some (.dT (fP (c.take i) O)):=by rw[cK az.symm];exact T _ _ ag
  have aI:TiledAs (cA H8 t (.dT (fP (c.take (i+1)) (z++[l])))) I Y y (z++[l]):=λk r a' e1 e2=>oq (P:=λk a=> ∀D,y[k]? =some D-> ∃es,cA H8 t (.dT (fP (c.take (i+1)) (z++[l]))) a=some (.lst (es.map .ref))/\TupsAt (cA H8 t (.dT (fP (c.take (i+1)) (z++[l])))) es (tl I Y D)) (λk a e D e'=>(ta.lts lo) k D a e' e) (λr e=>by
   rw[la,ew]at e;cases e;exact⟨es,av.a el,av.tups aE⟩) k a' e2 r e1
  have p9:=lo.a p6;have aJ:=lo.a ar;have aK:=lo.tups au;have aL:=tb.lts lo;generalize cA H8 t (.dT (fP (c.take (i+1)) (z++[l])))=H9 at k9 T9 aG aH aI p9 aJ aK aL⊢;clear lo av T g8 k8 aF ak kT eT k7 el aE;refine⟨_,zZ,m,_,zZ,.inr (Q4 ((L k9).a hm)),(I.length:Int),by rw[cC,aO],(),(),si (λj ys B=>Same H9 B/\ys.length=j/\ ∀(l:Nat) (v:V),ys[l]? =some v->(cI I x l∉c/\v= .non)∨ ∃(p:Ad) (js:cz) (k':Nat) (r:cz),v= .ref p/\B p=some (.tup (js.map nv))/\c[k']? =some (cI I x l)/\y[k']? =some r/\ke I Y D r l js) (by rw[ip];exact small ()) ⟨Same.refl _,zZ,λl v e=>by simp at e⟩ (λj ys B _ pv=>Nat.le_of_eq pv.2.1) (λj ys B hj pv=>?_) (λys B pv sg aT=>?_)⟩
  .obtain⟨g,ly,al⟩:=pv;have e0:V.int (0+(j:Int))=nv j:=by show V.int (0+(j:Int))=V.int (j:Int);rw[pF]
   have aU:j<I.length:=by simpa using hj
   rw[e0];have ah:=k9.trans g.keeps;refine⟨iO,lB ⟨_,zZ,_,zZ,_,zZ,_,zZ,m,a,i,j,I,n,aw,c,Y,y,x,D,zZ,M.keeps ah,ff,LvH.keeps lv ah,lp,ex,ew,aU,λno H2 g2=>?_,λk' r ey aV pp js H2 g2 ep aW=>?_⟩⟩
   .refine⟨g.trans g2,by rw[dF,ly];rfl,λl v e=>oq (P:=λl v=>(cI I x l∉c/\v=V.non)∨ ∃(p:Ad) (js:cz) (k':Nat) (r:cz),v= .ref p/\H2 p=some (.tup (js.map nv))/\c[k']? =some (cI I x l)/\y[k']? =some r/\ke I Y D r l js) (λl v e=>(al l v e).imp id λ⟨p,js,k',r,z1,z2,z3⟩=>⟨p,js,k',r,z1,g2 _ _ z2,z3⟩) (.inl ⟨by rw[ly];exact no,zZ⟩) l v e⟩
   .refine⟨g.trans g2,by rw[dF,ly];rfl,λl v e=>oq (P:=λl v=>(cI I x l∉c/\v=V.non)∨ ∃(p:Ad) (js:cz) (k':Nat) (r:cz),v= .ref p/\H2 p=some (.tup (js.map nv))/\c[k']? =some (cI I x l)/\y[k']? =some r/\ke I Y D r l js) (λl v e=>(al l v e).imp id λ⟨p,js,k',r,z1,z2,z3⟩=>⟨p,js,k',r,z1,g2 _ _ z2,z3⟩) (.inr ⟨pp,js,k',r,zZ,ep,by rw[ly];exact ey,aV,by rw[ly];exact aW⟩) l v e⟩
  .obtain⟨g,ly,al⟩:=pv;rw[ip]at ly;have ks:=cM aT (.lst ys);have es:cA B sg (.lst ys) sg=some (.lst ys):=cF;have U:=g.trans ks;have TL:TurnL (cA B sg (.lst ys)) I c Y y x D ys:=TurnL.lts ⟨ly,al⟩ (lM ks);generalize cA B sg (.lst ys)=ai at ks es U TL⊢;have ah:=k9.trans U.keeps;have aM:=(L ah).a (h3.is i b x eb ex);have aa:=U _ _ aH;refine⟨_,zZ,p,C,d,_,_,zZ,U _ _ p9,M2.cl,M2.no,(by kernel_rfl),_,zZ,u,_,zZ,DPut.t aa (by rw[j9];exact aM) (by rw[DZ (),dz];lia),?_⟩;rw[Ey () xn,<-tk];have lo:sr H9 (cA ai u (.dT (fP (c.take (i+1)) (O++[sg])))):=λb o n hb=>Stays.off aa b o n (U _ _ hb)
   have am:sr ai (cA ai u (.dT (fP (c.take (i+1)) (O++[sg])))):=Stays.off aa;refine⟨CZ ah aR,(T9.same U).offD aa,lo.a p9,lo.a aJ,lo.tups aK,⟨z++[l],by rw[cK az];exact U _ _ aG,by rw[dF,la];rfl,aI.lts lo⟩,⟨O++[sg],cF,by rw[dF,ae];rfl,λk x' r a' e1 e2 e3=>?_⟩,_,_,zZ⟩;refine oq (P:=λk a=> ∀x D,c[k]? =some x->y[k]? =some D-> ∃vs,cA ai u (.dT (fP (c.take (i+1)) (O++[sg]))) a=some (.lst vs)/\TurnL (cA ai u (.dT (fP (c.take (i+1)) (O++[sg])))) I c Y y x D vs) (λk a e x D e1 e2=>(aL.lts lo) k x D a e1 e2 e) (λx' r e1 e2=>?_) k a' e3 x' r e1 e2;rw[ae,ex]at e1;rw[ae,ew]at e2;cases e1;cases e2;exact⟨ys,am.a es,TL.lts am⟩
 .obtain⟨k6,T6,p6,ar,au,⟨z,ab,la,ta⟩,⟨O,ag,ae,tb⟩,o3,o4,rfl⟩:=pv;rw[cC,lb]at ab ag la ae;rw[hA]at ab ag;refine⟨_,zZ,a,_,_,_,zZ,zZ,Q4 ((L k6).a h1),zZ,t',_,zZ,.inl (Q3 ((L k6).a h4)),_,zZ,p,C,d,_,zZ,p6,M2.cl,M2.no,by show 4<1000;decide,?_⟩;rw[show((ds.map V.ref).length)=Y.length by rw[cC,l5]];have lo:Stays pJ H6 (cA H6 p (.ins C d (dX sQ (nv Y.length) [(sA,.ref m),(sI,.ref g),(sJ,.ref t),(sS,.ref u)]))):=Stays.offI p6;refine q gs _ (xO k6 np) (T6.offI p6) G ⟨d,g,t,u,gr,?_,lo.a ar,lo.tups au,⟨z,lo.a ab,la,ta.lts lo⟩,O,lo.a ag,ae,tb.lts lo⟩;rw[cF];exact dN (λl=>some (HO.ins C d l)) (by kernel_rfl)
def Jl{D CR T:Ad}(F:Fun K "__init__" "Row.__init__" BN f fd)(P8:OwnC K CR [sB,tV])(qS:yo P w K mg base "LevelParts" D 15 [sC,sA,sL] (im D))(qK:dE P w K mg base "levels" 18 [sA] (gm T (⟨49,40,49,93⟩:Pos)))(kW:dE P w K mg base "still" 1 [sB] gt)(jA:mg "len"=none):FnOk P w K mg base de 20 f fd [sC,sA] (gG D CR):=by
 refine F.ok NV (λaq A af s H J Q E O h=>?_)
 obtain⟨H0,p,g,m,U,n,rfl,g0,np,hp,M,hT,q⟩:=h;have hu:=O.units;have ar:=jq O;obtain⟨rs,r0,hm,au,ag,ah,ai,_⟩:=M.at (l:=0) M.some1;have n5:=M.n5;refine⟨_,(cQ (um (pv 0) (dH kW O.m zZ (cN (fc gv zZ jA gj (cN (cW dr (pv 1) cR (λ_ _=>rfl)) cJ)) cJ)) zZ) (cU (um (pv 0) (gW (CompSc.to (N:=[sC,sA]) (osc:=cZ BN) (vs:=[sL]) {}) zZ zZ (iT (dH qK O.m zZ (cN (pv 1) cJ))) (λ_ _ _ _=>i3) (λ_ _ _ _=>(G2 qS O.m zZ (c8 (cD (pv 2) (cD (pv 0) db zZ) zZ))))) zZ))),?_⟩;refine⟨_,zZ,m,_,_,_,zZ,zZ,Q4 (g0 _ _ hm),ag,r0,_,zZ,.inr (Q4 (g0 _ _ ah)),?_⟩
 try dsimp only
 rw[cC,ai];refine⟨n,zZ,(),λr H1 g1 er=>?_⟩;have p1:=g1 _ _ hp;have aj:p≠r:=nE p1 er;refine⟨_,zZ,p,CR,g,_,zZ,p1,P8.cl,P8.no,by show 0<1000;decide,?_⟩;have g2:Same H0 (cA H1 p (.ins CR g (dX sB (.ref r) []))):=gR (g0.trans g1) np;have p2:cA H1 p (.ins CR g (dX sB (.ref r) [])) p=some (.ins CR g [(sB,.ref r)]):=cF;have Y:cA H1 p (.ins CR g (dX sB (.ref r) [])) r=some (.tup ((List.range n).map nv)):=by rw[cK aj.symm];exact er
 generalize cA H1 p (.ins CR g (dX sB (.ref r) []))=H2 at g2 p2 Y⊢;clear g1 er p1 g0 hp;refine⟨_,zZ,m,U,n,zZ,M.same g2,hT.same g2,λl as told a ys H3 k3 T3 nl el ff od sub ak LL nw ap av=>?_⟩;have aa:=g2.keeps.trans k3;have la:=LL.len;refine⟨l,zZ,⟨_,Q3 el⟩,m7 (xs:=as.map .ref) (λi J d=>Keeps H3 d/\Tabs d/\ ∃(k:As) (t:List Lv),J=k.map V.ref/\t.length=i/\t.map (·.c)=told.take i/\(∀L∈t,LvOk U a L)/\StepsAt D d k m U t) (by rw[cC];exact small ()) ⟨Keeps.refl _,T3,[],[],zZ,zZ,zZ,(λL h=>nomatch h),zZ,λi q L e=>by simp at e⟩ (λi J d _ pv=>?_) (λi v J d hv pv=>?_) (λJ d pv sg al=>?_)⟩
 .obtain⟨k4,_,k,t,rfl,I,_,_,S⟩:=pv;exact⟨Q3 (k4 _ _ (nz el)),by rw[cC,S.len,I];exact cO _⟩
 .obtain⟨k4,T4,k,t,rfl,I,eL,y,S⟩:=pv;rw[cV]at hv;obtain⟨lv,ab,rfl⟩:=eU.mp hv;have li:=(cP.mp ab).1;obtain⟨c,ec⟩: ∃c,told[i]? =some c:=⟨_,cE ()⟩;obtain⟨B,am,lp,wd⟩:=(LL.is i lv c ab ec).lvw (sub c (cY ec));have an:=aa.trans k4;refine⟨iO,lB ⟨_,zZ,_,zZ,λx C nx ao aw=>?_⟩⟩;have gx:Same d (cA (cA d C (.own x)) x (.ins D C [])):=λb o hb=>by
   rw[cK (dU hb nx),cK (dU hb ao)];exact hb
  refine⟨d,x,C,m,lv,U,n,a,c,_,B,zZ,gx,nx,cF,M.keeps an,ff,LvH.keeps am k4,lp,T4,λgs H5 k5 T5 G St=>⟨zZ,k4.trans k5,T5,k++[x],t++[⟨c,jd a (c.headD []),B,gs⟩],by rw[eI];rfl,by rw[dF,I];rfl,?_,λL hL=>?_,⟨by rw[dF,dF,S.len];rfl,λj q' L e1 u=>?_⟩⟩⟩
  .rw[eI,eL,iY,ec];rfl
  .rcases dD.mp hL with z|z
   .exact y L z
   .rw[dw.mp z];exact⟨lp,wd,G⟩
  .refine oq (P:=λj q=> ∀L,(t++[⟨c,jd a (c.headD []),B,gs⟩])[j]? =some L->StepAt D H5 q m U L) (λj q e L u=>?_) (λL u=>?_) j q' e1 L u
   .have lj:=(cP.mp e).1;rw[fe (by rw[<-S.len];exact lj)]at u;exact(S.is j q L e u).keeps k5
   .rw[S.len,e9 (cO _),nG]at u;cases u;exact St
 .obtain⟨k4,T4,k,t,rfl,I,eL,y,S⟩:=pv;rw[cC]at I eL;rw[la,hA]at eL;have ks:=cM al (.lst (k.map V.ref));have ae:=(k3.trans k4).trans ks.keeps;have p5:=ae _ _ (nz p2);refine⟨_,zZ,p,CR,g,_,zZ,p5,P8.cl,P8.no,by show 1<1000;decide,?_⟩;have lo:Stays pJ (cA d sg (.lst (k.map V.ref))) (cA (cA d sg (.lst (k.map V.ref))) p (.ins CR g (dX tV (.ref sg) [(sB,.ref r)]))):=Stays.offI p5;refine q a t _ (xO ((aa.trans k4).trans ks.keeps) np) ((T4.same ks).offI p5) ⟨ff,by rw[eL];exact od,by rw[I,la];exact ak,y⟩ ⟨g,r,sg,k,?_,lo.a (ae _ _ (nz Y)),lo.a cF,S.len,λi q' L e1 u=>((S.is i q' L e1 u).keeps ks.keeps).off p5 (by show ¬1=5;decide)⟩;rw[cF];exact dN (λl=>some (HO.ins CR g l)) (by kernel_rfl)
def iL(k:Nat)(L:Lv):List (Bool×Nat×Nat):=(if 1<L.gs.length then[(true,k,L.gs.length)]else[])++[(false,k,L.us.length)]
def gX(a:List Lv):Nat->List (Bool×Nat×Nat)
 |0=>[]
 |i+1=>gX a i++(match a[i]? with|some L=>iL i L|none=>[])
def eB(a:List Lv):List (Bool×Nat×Nat):=gX a a.length
def Np(k:Nat)(L:Lv):(iL k L).length<=2:=by
 unfold iL;by_cases h:1<L.gs.length
 .rw[wB h];exact cO 2
 .rw[wA h];exact oK 1
theorem tr(a:List Lv): ∀i,(gX a i).length<=2 * i
 |0=>cO _
 | i+1=>by
  have z:=tr a i;unfold gX;rw[dF];cases e:a[i]? with
  |none=>
   simp only[List.length_nil];lia
  |some L=>
   have y:=Np i L;simp only;lia
def r4{a:List Lv}{i:Nat}{L:Lv}(e:a[i]? =some L):gX a (i+1)=gX a i++iL i L:=by
 show gX a i++_=_;rw[e]
def An:Bool->Str
 |true=>tX
 |false=>vF
structure PartsAt(H:Hp)(as:As)(ps:List (Bool×Nat×Nat)):Prop where
 len:as.length=ps.length
 is: ∀(i:Nat) (a:Ad) (p:Bool×Nat×Nat),as[i]? =some a->ps[i]? =some p->H a=some (.tup [.str (An p.1),nv p.2.1,nv p.2.2])
def PartsAt.st{f:HO->Bool}{H b:Hp}{c:As}{d:List (Bool×Nat×Nat)}(h:PartsAt H c d)(g:Stays f H b)(e: ∀xs,f (.tup xs)=false:=by intro;rfl):PartsAt b c d:=⟨h.len,λi a p j k=>g _ _ (e _) (h.is i a p j k)⟩
def PartsAt.snoc{H:Hp}{k:As}{j:List (Bool×Nat×Nat)}{a:Ad}{p:Bool×Nat×Nat}(h:PartsAt H k j)(e:H a=some (.tup [.str (An p.1),nv p.2.1,nv p.2.2])):PartsAt H (k++[a]) (j++[p]):=by
 refine⟨by rw[dF,dF,h.len];rfl,λi d b g c=>?_⟩;refine oq (P:=λi d=> ∀b,(j++[p])[i]? =some b->H d=some (.tup [.str (An b.1),nv b.2.1,nv b.2.2])) (λi d g b c=>?_) (λb c=>?_) i d g b c
 .rw[fe (by rw[<-h.len];exact(cP.mp g).1)]at c;exact h.is i d b g c
 .rw[h.len,e9 (cO _),nG]at c;cases c;exact e
inductive mw(C:Ad)(b:List V)(H:Hp)(Q:VK)(a:XK):Prop|mk:∀(q m:Ad) (c:LN) (L:Lv),b=[.ref q]->StepAt C H q m c L->Q (.bl (decide (1<L.gs.length))) H->mw C b H Q a
def O1{C:Ad}(F:Fun K uP "LevelParts.is_turning" CT f fd)(M2:OwnC K C [sA,sI,sJ,sS,sQ])(b:mg "len"=none):FnOk P w K mg base de 1 f fd [sC] (mw C):=by
 refine F.ok Ny (λc A a s H n Q E o h=>?_)
 obtain⟨q,m,p,L,rfl,⟨d,g,t,u,e,i,j,l,_⟩,k⟩:=h;refine⟨_,(cU (dG (wm vW (fc gv zZ b gj (cN (iB (pv 0) zZ) cJ)) cR (fY _)))),?_⟩;refine⟨_,zZ,q,C,d,_,_,zZ,i,M2.cl,M2.no,sd,g,_,zZ,.inl (Q3 j),_,_,zZ,zZ,?_⟩;show Q (.bl (decide ((1:Int)<(((e.map V.ref).length:Nat):Int)))) H;rw[cC,l.len,show decide ((1:Int)<((L.gs.length:Nat):Int))=decide (1<L.gs.length)from decide_eq_decide.mpr ()];exact k
inductive gZ(d CR:Ad)(e:List V)(H:Hp)(Q:VK)(b:XK):Prop|mk:∀(p m:Ad) (h:LN) (n:Nat) (c:List Lv),e=[.ref p]->RowAt d CR H p m h n c->c.length<=32->(∀l g a,Same H a->H l=none->a l=some (.lst (g.map .ref))->PartsAt a g (eB c)->Q (.ref l) a)->gZ d CR e H Q b
def LO{G CR:Ad}(F:Fun K "parts" "Row.parts" E4 f fd)(M2:OwnC K G [sA,sI,sJ,sS,sQ])(P8:OwnC K CR [sB,tV])(jF:gq P w K mg base G uP 1 [sC] (mw G))(jE:mg "enumerate"=none)(jA:mg "len"=none):FnOk P w K mg base de 3 f fd [sC] (gZ G CR):=by
 refine F.ok qN (λab A aa s H vs Q E hr h=>?_)
 obtain⟨p,m,ts,n,O,rfl,⟨dx,r,st,qs,h1,h2,h3,S⟩,few,q⟩:=h;have hu:=hr.units;refine⟨_,(cQ (dj (i:=1) qN.nd zZ (Or.inl zZ) (gI cJ)) (cQ (iH gY zZ (wF zZ jE (cN (iB (pv 0) zZ) cJ)) (om zZ (iA (fb (i:=2) qN.nd zZ (Or.inl zZ)) (iA (fb (i:=3) qN.nd zZ (Or.inl zZ)) nO))) (cQ (t6 (gk (re (xC (pv 3) M2.cl jF hr.m)) (cU (ju (hE hV ko lE ku (pv 1) (cN (jg (c8 (cD wL (cD (pv 2) (cD (fc gv zZ jA gj (cN (iB (pv 3) zZ) cJ)) db zZ) zZ) zZ))) cJ)))) gO)) (cU (ju (hE hV ko lE ku (pv 1) (cN (jg (c8 (cD wL (cD (pv 2) (cD (iB (pv 3) zZ) db zZ) zZ) zZ))) cJ)))))) (cU (dG (pv 1))))),?_⟩;refine⟨by show 0<=sizeLine;decide,λl o=>?_⟩;have k0:=cM o (.lst []);have lq:=S.len
 let Pv:Nat->L2.St->Hp->Prop:=λi T d=>Same H d/\ ∃(x:As) (o2 o3:Option V),d l=some (.lst (x.map .ref))/\PartsAt d x (gX O i)/\T=[some (.ref p),some (.ref l),o2,o3]
 refine⟨_,zZ,p,CR,dx,_,_,zZ,k0 _ _ h1,P8.cl,P8.no,AC,st,_,zZ,Q3 (k0 _ _ h3),yV (xs:=qs.map .ref) Pv ⟨k0,[],_,_,cF,⟨zZ,λi a p e=>by simp at e⟩,zZ⟩ (λi T d _ p=>Q3 (p.1 _ _ h3)) (λi U v T Y hv nT pv=>?_) (λT Y pv=>?_)⟩
 .obtain⟨g1,x,o2,o3,ef,j,rfl⟩:=pv;rw[cV]at hv;obtain⟨b,eb,rfl⟩:=eU.mp hv;have li:=(cP.mp eb).1;obtain⟨L,eL⟩: ∃L,O[i]? =some L:=⟨_,cE ()⟩;have I:=cM nT (.tup [.int (i:Nat),.ref b]);have eT:cA Y U (.tup [.int (i:Nat),.ref b]) U=some (.tup [.int (i:Nat),.ref b]):=cF;generalize cA Y U (.tup [.int (i:Nat),.ref b])=H2 at I eT⊢;have g2:=g1.trans I;have SA:=(S.is i b L eb eL).keeps g2.keeps;obtain⟨y,g,t,u,gr,s1,s2,s3,s4⟩:=id SA;refine⟨U,_,zZ,Q4 eT,zZ,_,_,zZ,_,_,zZ,zZ,?_⟩;have J:=I _ _ ef;have lz:=tr O i;have la:=j.len;have ae: ∀{d:Hp},Same H2 d->d l=some (.lst (x.map .ref)):=λg=>g _ _ J;refine⟨λM d=>Same H d/\ ∃k,d l=some (.lst (k.map .ref))/\PartsAt d k (gX O i++(if 1<L.gs.length then[(true,i,L.gs.length)]else[]))/\M=[some (.ref p),some (.ref l),some (nv i),some (.ref b)],⟨_,zZ,b,y,_,zZ,s1,(by kernel_rfl),b,m,ts,L,zZ,SA,_,zZ,mK (λc=>?_) (λc=>?_)⟩,λM d z=>?_⟩
  .have c1:1<L.gs.length:=ie c;refine⟨_,zZ,.inl ⟨zZ,_,Q3 J⟩,_,zZ,_,zZ,b,G,y,_,_,zZ,s1,M2.cl,M2.no,sd,g,_,zZ,.inl (Q3 s2),by show 3<=sizeLine;decide,λB D=>?_⟩;rw[show(gr.map V.ref).length=L.gs.length by rw[cC,s3.len]];have C:=cM D (.tup [.str tX,nv i,nv L.gs.length]);refine⟨l,_,_,zZ,zZ,C _ _ J,by rw[cC,dz];lia,?_⟩;have lo:mP (cA H2 B (.tup [.str tX,nv i,nv L.gs.length])) (cA (cA H2 B (.tup [.str tX,nv i,nv L.gs.length])) l (.lst (x.map V.ref++[.ref B]))):=Stays.offL (C _ _ J);rw[wB c1];exact⟨gR (g2.trans C) o,x++[B],by rw[cF,eI];rfl,((j.st (lM (I.trans C))).st lo).snoc (lo.a cF),zZ⟩
  .have c1: ¬1<L.gs.length:=wD (qd.mpr c);rw[wA c1,iV];exact⟨g2,x,J,j.st (lM I),zZ⟩
  .obtain⟨g3,k,f3,N,rfl⟩:=z;obtain⟨y,g,t,u,gr,s1,s2,s3,s4⟩:=(S.is i b L eb eL).keeps g3.keeps;have af:k.length<=2 * i+2:=by
    rw[N.len,dF];have:(if 1<L.gs.length then[(true,i,L.gs.length)]else[]).length<=2:=by
     by_cases h:1<L.gs.length
     .rw[wB h];exact oK 1
     .rw[wA h];exact jj 2
    lia
   refine⟨_,zZ,.inl ⟨zZ,_,Q3 f3⟩,_,zZ,_,zZ,b,G,y,_,_,zZ,s1,M2.cl,M2.no,yY,by show 3<=sizeLine;decide,λB D=>?_⟩;have C:=cM D (.tup [.str vF,nv i,nv L.us.length]);refine⟨l,_,_,zZ,zZ,C _ _ f3,by rw[cC,dz];lia,?_⟩;have lo:mP (cA d B (.tup [.str vF,nv i,nv L.us.length])) (cA (cA d B (.tup [.str vF,nv i,nv L.us.length])) l (.lst (k.map V.ref++[.ref B]))):=Stays.offL (C _ _ f3);refine⟨gR (g3.trans C) o,k++[B],_,_,by rw[cF,eI];rfl,?_,zZ⟩;rw[r4 eL];unfold iL;rw[<-fO];exact((N.st (lM C)).st lo).snoc (lo.a cF)
 .obtain⟨g1,x,o2,o3,ef,j,rfl⟩:=pv;rw[cC,lq]at j;exact⟨_,zZ,q l x Y g1 o ef j⟩
def PlanAt(H:Hp)(a m:Ad)(h:LN)(L:Lv):Prop:= ∃(d g b c:Ad) (e:As),H a=some (.tup [.ref d,.ref g,.ref b])/\TiledAt H d h L.c L.us L.wds/\H g=some (.lst (e.map .ref))/\TupsAt H e L.gs/\H b=some (.lst [.ref m,.ref c])/\LvH H c L.c L.us L.wds
def PlanAt.keeps{H b:Hp}{a m:Ad}{c:LN}{L:Lv}(h:PlanAt H a m c L)(k:Keeps H b):PlanAt b a m c L:=
 let⟨d,g,e,i,j,l,n,o,p,q,r⟩:=h;⟨d,g,e,i,j,k _ _ (nz l),n.keeps k,k _ _ (nz o),pY p k,k _ _ (nz q),LvH.keeps r k⟩
structure PlansAt(H:Hp)(as:As)(m:Ad)(ts:LN)(Ls:List Lv):Prop where
 len:as.length=Ls.length
 is: ∀(i:Nat) (a:Ad) (L:Lv),as[i]? =some a->Ls[i]? =some L->PlanAt H a m ts L
def PlansAt.keeps{H b:Hp}{c:As}{m:Ad}{d:LN}{e:List Lv}(h:PlansAt H c m d e)(k:Keeps H b):PlansAt b c m d e:=⟨h.len,λi a L g j=>(h.is i a L g j).keeps k⟩
inductive lI(e:List V)(H:Hp)(Q:VK)(b:XK):Prop|mk:∀(m:Ad) (c:LN) (n:Nat),e=[.ref m]->Mach H m c n->Tabs H->(∀l g d h a,Keeps H a->Tabs a->RowOf c n d h->a l=some (.lst (g.map .ref))->PlansAt a g m c h->Q (.ref l) a)->lI e H Q b
def fL{H:Hp}{a:Ad}:Same (L2.drop H a) H:=λb o c=>by
 by_cases e:b=a
 .subst e;rw[ov]at c;cases c
 .rw[eV e]at c;exact c
def G'{H:Hp}{a:Ad}{o:HO}:L2.drop (cA H a o) a=L2.drop H a:=by
 funext b
 by_cases e:b=a
 .subst e;rw[ov,ov]
 .rw[eV e,eV e,cK e]
def Mb{H c:Hp}{a:Ad}(k:Keeps H c):Keeps (L2.drop H a) (L2.drop c a):=λb o d=>by
 obtain⟨z,n⟩:=u8 d;by_cases e:b=a
 .subst e;rw[ov]at z;cases z
 .rw[eV e]at z⊢;exact k _ _ (qm z n)
def HC{H:Hp}{a b:Ad}{o:HO}(c:L2.noT H b=none)(d:H a=some o)(n:tc o=false:=by rfl):b≠a:=λe=>by
 rw[e,nz d n]at c;cases c
def LevAt.drop{H n:Hp}{l d:Ad}{I g o:LN}{z:List WE}{a:Ad}{c:LN}{p M:List V}(h:LevAt H l I g o z a c)(N:H d=some (.lst p))(O:n d=some (.lst M))(Q:E3 n H a)(U: ∀y∈z,∀b∈y.2.2,L2.noT n b=none):LevAt (L2.drop H d) l I g o z a c:=by
 obtain⟨s,t,v,bs,Y,cs,i,y,J,h2,h3,h4,h5,h6,h7,h8,h9,A,B,C,j,D,m,E⟩:=h;obtain⟨s',t',v',e,n1,n2,n3⟩:=Q;rw[J]at e;cases e;have off: ∀{b:Ad} {u:HO},(∀o,u≠ .lst o)->H b=some u->(L2.drop H d) b=some u:=λnu q=>by
  rw[eV (kh q N λe=>nu _ e)];exact q
 have offL: ∀{b:Ad} {u:HO},L2.noT n b=none->H b=some u->(L2.drop H d) b=some u:=λnb q=>by
  rw[eV (HC nb O zZ)];exact q
 have L: ∀{bs:As} {p:LN},TupsAt H bs p->TupsAt (L2.drop H d) bs p:=λT=>⟨T.len,λi b u G r=>off (λ_ e=>nomatch e) (T.is i b u G r)⟩;refine⟨s,t,v,bs,Y,cs,i,y,off (λ_ e=>nomatch e) J,h2,h3,h4,h5,offL n1 h6,L h7,offL n2 h8,L h9,offL n3 A,B,C,j,D,m,λk x b G r=>?_⟩;obtain⟨word,z1,z2⟩:=E k x b G r;exact⟨word,z1,offL (U y (cY j) b (m b (cY r))) z2⟩
def Js{T:Ad}(F:Fun K "_law_plan" "_law_plan" z6 f fd)(qK:dE P w K mg base "levels" 18 [sA] (gm T (⟨49,40,49,93⟩:Pos)))(rM:dE P w K mg base "tile" 5 [sA,sL,"k","j"] i9)(jX:dE P w K mg base sV 13 [sA,sL] hR)(jE:mg "enumerate"=none)(jC:mg "range"=none)(jA:mg "len"=none):FnOk P w K mg base de 20 f fd [sD] lI:=by
 refine F.ok kY (λaO A aB s H vs Q E hr h=>?_)
 obtain⟨m,ts,n,rfl,M,hT,q⟩:=h;have hu:=hr.units;have aC:=jq hr;refine⟨_,(cQ (dj (i:=1) kY.nd zZ (Or.inl zZ) (gI cJ)) (cQ (iH gY zZ (iT (dH qK hr.m zZ (cN (pv 0) cJ))) (fb (i:=2) kY.nd zZ (Or.inr zZ)) (cQ (dj (i:=3) kY.nd zZ (Or.inl zZ) yL) (cQ (iH gY zZ (wF zZ jE (cN (cW dr (pv 2) cR (λ_ _=>rfl)) cJ)) (om zZ (iA (fb (i:=4) kY.nd zZ (Or.inr zZ)) (iA (fb (i:=5) kY.nd zZ (Or.inl zZ)) nO))) (cU (vf aC (pv 3) (pv 5) (gW (CompSc.to (N:=[sD,sP,vG,"_law_tiled",tL,tS]) (osc:=cZ z6) (vs:=["_law_j"]) {}) zZ zZ (m8 zZ jC (cN (fc gv zZ jA gj (cN (cW dr (pv 2) cR (λ_ _=>rfl)) cJ)) cJ)) (λ_ _ _ _=>i3) (λ_ _ _ _=>(dH rM hr.m zZ (c8 (cD (pv 1) (cD (pv 3) (cD (pv 5) (cD (pv 0) db zZ) zZ) zZ) zZ))))) zZ))) (cU (ju (hE hV ko lE ku (pv 1) (cN (jg (c8 (cD (pv 3) (cD (dH jX hr.m zZ (c8 (cD (pv 0) (cD (pv 2) db zZ) zZ))) (cD (gI (c8 (cD (pv 0) (cD (pv 2) db zZ) zZ))) db zZ) zZ) zZ))) cJ))))))) (cU (dG (pv 1))))),?_⟩;refine⟨by show 0<=sizeLine;decide,λt ao=>?_⟩;have k0:=cM ao (.lst []);have aD:=CF ao;refine⟨_,zZ,m,ts,n,zZ,M.same k0,hT.same k0,λl as told aa ys H1 k1 T1 nl el ff od sub aE LL nw ap aF=>?_⟩;have aq:=k0.keeps.trans k1;have f1:=k1 _ _ (nz (cF:cA H t (.lst []) t=_));have la:=LL.len;have aG:l≠t:=λe=>by
  rw[e,nz (cF:cA H t (.lst []) t=_)]at nl;cases nl
 have M1:=M.keeps aq;have kB:Keeps H (L2.drop H1 t):=λb o hb=>by
  rw[eV λe=>by rw[e,aD]at hb;cases hb];exact aq _ _ hb
 have aH:L2.drop H1 t l=some (.lst (as.map .ref)):=by rw[eV aG];exact el
 let Pv:Nat->L2.St->Hp->Prop:=λi σ I=>Keeps (L2.drop H1 t) (L2.drop I t)/\Tabs I/\ ∃(fs:As) (Ls:List Lv) (o2 o3 o4 o5:Option V),I t=some (.lst (fs.map .ref))/\Ls.length=i/\Ls.map (·.c)=told.take i/\(∀L∈Ls,LvOk ts aa L)/\PlansAt (L2.drop I t) fs m ts Ls/\σ=[some (.ref m),some (.ref t),o2,o3,o4,o5]
 refine⟨l,zZ,⟨_,Q3 el⟩,pK (xs:=as.map .ref) Pv ⟨Keeps.refl _,T1,[],[],none,none,none,none,f1,zZ,zZ,(λL h=>nomatch h),⟨zZ,λi a L e=>by simp at e⟩,zZ⟩ (λi σ I _ p=>Q3 (fL _ _ (p.1 _ _ (nz aH)))) (λi v σ H2 hv pv=>?_) (λσ H2 pv=>?_)⟩
 .obtain⟨k2,T2,fs,Ls,o2,o3,o4,o5,f2,lL,eL,ae,PL,rfl⟩:=pv;rw[cV]at hv;obtain⟨O,af,rfl⟩:=eU.mp hv;have li:=(cP.mp af).1;obtain⟨c,ec⟩: ∃c,told[i]? =some c:=⟨_,cE ()⟩;obtain⟨C,ar,lp,ag⟩:=((LL.is i O c af ec).drop f1 cF (aF O (cY af)) nw).lvw (sub c (cY ec));have ah:=LvH.keeps ar k2;have ab:=ah.same fL;have au:Keeps H H2:=(kB.trans k2).trans fL.keeps;generalize aP:jd aa (c.headD [])=U at ar lp ah ab;obtain⟨s',t',v',bs,ds,cs,h1,h2,h3,h4,h5,h6,h7,h8⟩:=id ab;have lb:=h3.len;have l5:=h5.len;obtain⟨uU,few⟩:=lp.inU M ff;have nd:=lp.nd ff;have aQ:c.length<=32:=by
   rw[(iD lp.cls).2.1];exact dL (iZ _ _) (dL (iZ _ _) (ff.few M))
  intro d hd;have kd:=cM hd (.dT [])
  let Pk:Nat->L2.St->Hp->Prop:=λk σ I=>Same H2 I/\ ∃(r:As) (o4 o5:Option V),I d=some (.dT (fP (c.take k) r))/\r.length=k/\TiledAs I ts U C r/\(∀a∈r,H2 a=none)/\σ=[some (.ref m),some (.ref t),some (.ref O),some (.ref d),o4,o5]
  refine⟨_,zZ,O,_,_,_,zZ,zZ,Q4 (kd _ _ h1),zZ,s',_,zZ,Q3 (kd _ _ h2),yV (xs:=bs.map .ref) Pk ⟨kd,[],_,_,cF,zZ,(λk D a _ e=>by simp at e),(λa h=>nomatch h),zZ⟩ (λk σ I _ p=>Q3 (p.1 _ _ h2)) (λk Tp v σ H3 hv nT pv=>?_) (λσ H3 pv=>?_)⟩
  .obtain⟨g3,r,o4,o5,ed,l2,ti,ai,rfl⟩:=pv;rw[cV]at hv;obtain⟨b,eb,rfl⟩:=eU.mp hv;have lk:=(cP.mp eb).1;obtain⟨x,ex⟩: ∃x,c[k]? =some x:=⟨_,cE ()⟩;obtain⟨D,ew⟩: ∃D,C[k]? =some D:=⟨_,cE (by rw[lp.len];lia)⟩;have aI:=(lp.go k x D ex ew).1;have tk:c.take (k+1)=c.take k++[x]:=by rw[iY,ex];rfl
   have xn:x∉c.take k:=λh=>by
    obtain⟨j,ej⟩:=gA.mp h;have lj:=(cP.mp ej).1;rw[fi]at lj;rw[pG ()]at ej;have:=(jx () nd).mp (ej.trans ex.symm)
    lia
   have lt:(c.take k).length=k:=by rw[fi];lia
   have kT:=cM nT (.tup [.int (k:Nat),.ref b]);have eT:cA H3 Tp (.tup [.int (k:Nat),.ref b]) Tp=some (.tup [.int (k:Nat),.ref b]):=cF;generalize cA H3 Tp (.tup [.int (k:Nat),.ref b])=H4 at kT eT⊢;have g4:=g3.trans kT;refine⟨Tp,_,zZ,Q4 eT,zZ,_,_,zZ,_,_,zZ,zZ,?_⟩;refine⟨_,zZ,O,_,_,_,zZ,zZ,Q4 (g4 _ _ h1),zZ,t',_,zZ,.inl (Q3 (g4 _ _ h4)),(U.length:Int),by rw[cC,l5],(),(),si (λj ys I=>Same H4 I/\ ∃y,ys=y.map V.ref/\y.length=j/\TupsAt I y ((U.take j).map λu=>dv (cI ts) u D)) (by rw[ip];exact small ()) ⟨Same.refl _,[],zZ,zZ,zZ,λi b u e=>by simp at e⟩ (λj ys I _ p=>?_) (λj ys I hj p=>?_) (λys H5 p sg av=>?_)⟩
   .obtain⟨_,y,rfl,e,_⟩:=p;rw[cC];lia
   .obtain⟨g,y,rfl,e,T5⟩:=p;have e0:V.int (0+(j:Int))=nv j:=by show V.int (0+(j:Int))=V.int (j:Int);rw[pF]
    have aJ:j<U.length:=by simpa using hj
    obtain⟨u,eu⟩: ∃u,U[j]? =some u:=⟨_,cE aJ⟩;rw[e0];refine⟨iO,lB ⟨_,zZ,_,zZ,_,zZ,_,zZ,m,O,k,j,ts,n,c,U,C,u,D,zZ,(M.keeps au).same (g4.trans g),ab.same (g4.trans g),eu,ew,uU u (cY eu),aI,λp H6 g6 e6=>?_⟩⟩;refine⟨g.trans g6,y++[p],by simp,by simp[e],?_⟩;rw[iY,eu,eI];exact v7 (T5.same g6) e6
   .obtain⟨g5,y,rfl,er,T5⟩:=p;rw[ip,hA]at T5;have ks:=cM av (.lst (y.map V.ref));have g6:=(g4.trans g5).trans ks;have aj:=(kT.trans g5).trans ks;have ak:=aj _ _ ed;have aw:=g6 _ _ (h3.is k b x eb ex);have T6:=T5.same ks;have ax:cA H5 sg (.lst (y.map V.ref)) sg=some (.lst (y.map .ref)):=cF;generalize cA H5 sg (.lst (y.map V.ref))=H6 at ks g6 aj ak aw T6 ax⊢;refine⟨_,zZ,_,zZ,d,_,zZ,DPut.t ak (by rw[j9];exact aw) (by rw[DZ (),dz];lia),?_⟩;rw[Ey () xn,<-tk];have lo:sr H6 (cA H6 d (.dT (fP (c.take (k+1)) (r++[sg])))):=Stays.off ak;refine⟨gR g6 hd,r++[sg],_,_,cF,by rw[dF,l2];rfl,λk' ay a' Y B=>?_,λa' aK=>(dD.mp aK).elim (ai a') λz=>by rw[dw.mp z];exact(g4.trans g5).free av,zZ⟩;refine oq (P:=λk a=> ∀D,C[k]? =some D-> ∃y,cA H6 d (.dT (fP (c.take (_+1)) (r++[sg]))) a=some (.lst (y.map .ref))/\TupsAt (cA H6 d (.dT (fP (c.take (_+1)) (r++[sg])))) y (tl ts U D)) (λk' a e D e'=>((ti.lts (lM aj)).lts lo) k' D a e' e) (λay e=>?_) k' a' B ay Y;rw[l2,ew]at e;cases e;exact⟨y,lo.a ax,lo.tups T6⟩
  .obtain⟨g3,r,o4,o5,ed,l2,ti,ai,rfl⟩:=pv;rw[cC,lb]at ed l2;rw[hA]at ed;have f3:=g3 _ _ f2;have T3:=T2.same g3;have aL:=au.trans g3.keeps;refine⟨_,zZ,.inl ⟨zZ,_,Q3 f3⟩,_,zZ,_,zZ,_,zZ,m,O,ts,n,aa,c,U,C,zZ,M.keeps aL,ff,ab.same g3,lp,T3,λg gr gs mk ws H5 k5 T5 ng eg Tg pm up Mk TT=>?_⟩;have G:=Fb M ff lp pm up Mk TT;refine⟨_,zZ,_,zZ,by show 2<=sizeLine;decide,λml az=>⟨by show 3<=sizeLine;decide,λtp aM=>?_⟩⟩;have km:=cM az (.lst [.ref m,.ref O]);have kt:=cM aM (.tup [.ref d,.ref g,.ref ml]);have f5:=k5 _ _ (nz f3);have aN:ml≠t:=(dU f5 az).symm;have em:cA (cA H5 ml (.lst [.ref m,.ref O])) tp (.tup [.ref d,.ref g,.ref ml]) ml=some (.lst [.ref m,.ref O]):=kt _ _ cF;have et:cA (cA H5 ml (.lst [.ref m,.ref O])) tp (.tup [.ref d,.ref g,.ref ml]) tp=some (.tup [.ref d,.ref g,.ref ml]):=cF;have J:=km.trans kt;generalize cA (cA H5 ml (.lst [.ref m,.ref O])) tp (.tup [.ref d,.ref g,.ref ml])=H7 at em et J⊢;have f7:=J _ _ f5;have al:=PL.len;refine⟨t,_,_,zZ,zZ,f7,by rw[cC,dz];lia,?_⟩;have am:Keeps (L2.drop H2 t) (L2.drop H7 t):=Mb ((g3.keeps.trans k5).trans J.keeps);have T7:Tabs (cA H7 t (.lst (fs.map V.ref++[.ref tp]))):=(T5.same J).most λb u _ n2 hb=>by
    rw[cK (kh hb f7 λe=>n2 _ e)];exact hb
   have off: ∀{b:Ad} {u:HO},xD u=false->H7 b=some u->(L2.drop H7 t) b=some u:=λnu hb=>by
    rw[eV (kh hb f7 λe=>by rw[e]at nu;cases nu)];exact hb
   refine⟨by rw[G'];exact k2.trans am,T7,fs++[tp],Ls++[⟨c,U,C,gs⟩],_,_,_,_,by rw[cF,eI];rfl,by rw[dF,lL];rfl,?_,λL hL=>?_,?_,zZ⟩
   .rw[eI,eL,iY,ec];rfl
   .rcases dD.mp hL with z|z
    .exact ae L z
    .rw[dw.mp z];exact⟨lp,ag,G⟩
   .rw[G'];refine⟨by rw[dF,dF,al];rfl,λj q' L Y B=>?_⟩;refine oq (P:=λj q=> ∀L,(Ls++[⟨c,U,C,gs⟩])[j]? =some L->PlanAt (L2.drop H7 t) q m ts L) (λj q e L B=>?_) (λL B=>?_) j q' Y L B
    .rw[fe (by rw[<-al];exact(cP.mp e).1)]at B;exact(PL.is j q L e B).keeps am
    .rw[al,e9 (cO _),nG]at B;cases B;have an:=k5.trans J.keeps;have aA: ∀(k:Nat) (D:cz) (a:Ad),C[k]? =some D->r[k]? =some a-> ∃y,(L2.drop H7 t) a=some (.lst (y.map .ref))/\TupsAt (L2.drop H7 t) y (tl ts U D):=λk D a Y B=>by
      obtain⟨y,z1,z2⟩:=ti k D a Y B;refine⟨y,?_,⟨z2.len,λi b u Y B=>off zZ (an _ _ (nz (z2.is i b u Y B)))⟩⟩;rw[eV (dU f2 (ai a (cY B))).symm];exact an _ _ (nz z1)
     refine⟨d,g,ml,O,gr,off zZ et,⟨r,off zZ (an _ _ (nz ed)),l2,aA⟩,?_,⟨Tg.len,λi b u Y B=>off zZ (J _ _ (Tg.is i b u Y B))⟩,?_,LvH.keeps ah am⟩
     .rw[eV (HC ng f3 zZ)];exact J _ _ eg
     .rw[eV aN];exact em
 .obtain⟨k2,T2,fs,Ls,o2,o3,o4,o5,f2,lL,eL,ae,PL,rfl⟩:=pv;rw[cC]at lL eL;rw[la,hA]at eL;exact⟨_,zZ,q t fs aa Ls H2 ((kB.trans k2).trans fL.keeps) T2 ⟨ff,by rw[eL];exact od,by rw[lL,la];exact aE,ae⟩ f2 ⟨PL.len,λi a L Y B=>(PL.is i a L Y B).keeps fL.keeps⟩⟩
def eX(a:List Lv)(i:Nat):Nat:=(gX a i).length
def e8(b:List Lv)(a:cz)(i:Nat)(L:Lv):Nat×Nat:=if 1<L.gs.length then(a.getD (eX b i) 0,a.getD (eX b i+1) 0)else(0,a.getD (eX b i) 0)
def mI(b:List Lv)(a:cz):Nat->List (Nat×Nat)
 |0=>[]
 |i+1=>mI b a i++(match b[i]? with|some L=>[e8 b a i L]|none=>[])
def fT(Ls:List Lv)(a:cz):List (Nat×Nat):=mI Ls a Ls.length
structure RowIn(Ls:List Lv)(row:cz):Prop where
 len:row.length=(eB Ls).length
 lt: ∀(j:Nat) (p:Bool×Nat×Nat) (r:Nat),(eB Ls)[j]? =some p->row[j]? =some r->r<p.2.2
def qp{b:List Lv}{a:cz}{i:Nat}{L:Lv}(e:b[i]? =some L):mI b a (i+1)=mI b a i++[e8 b a i L]:=by
 show mI b a i++_=_;rw[e]
theorem nh{a:List Lv}{row:cz}: ∀{i:Nat},i<=a.length->(mI a row i).length=i
 |0,_=>rfl
 |i+1,h=>by
  rw[qp (cE h),dF,nh (fQ h)];rfl
theorem wN{b:Type}{t:Nat->List b}(h: ∀i,∃r,t (i+1)=t i++r): ∀{i j:Nat},i<=j-> ∃r,t j=t i++r
 |i,0,a=>⟨[],by rw[Nat.le_zero.mp a,iV]⟩
 | i,j+1,a=>by
  by_cases e:i=j+1
  .exact⟨[],by rw[e,iV]⟩
  .obtain⟨r,z⟩:=wN h (show i<=j by lia);obtain⟨c,d⟩:=h j;exact⟨r++c,by rw[d,z,fO]⟩
def Ha(a:List Lv){i j:Nat}(h:i<=j): ∃r,gX a j=gX a i++r:=wN (t:=gX a) (λi=>⟨_,zZ⟩) h
def EZ(Ls:List Lv)(a:cz){i j:Nat}(h:i<=j): ∃r,mI Ls a j=mI Ls a i++r:=wN (t:=mI Ls a) (λi=>⟨_,zZ⟩) h
def wS{a:List Lv}{i:Nat}{L:Lv}(e:a[i]? =some L):eX a (i+1)=eX a i+(if 1<L.gs.length then 2 else 1):=by
 unfold eX;rw[r4 e,dF];unfold iL;by_cases h:1<L.gs.length
 .rw[wB h,wB h];rfl
 .rw[wA h,wA h];rfl
def Ch{a:List Lv}{row:cz}{i:Nat}{L:Lv}(e:a[i]? =some L):(fT a row)[i]? =some (e8 a row i L):=by
 have b:=(cP.mp e).1;obtain⟨r,z⟩:=EZ a row (show i+1<=a.length from b);unfold fT;rw[z,qp e,fO,e9 (by rw[nh (fQ b)];exact cO _),nh (fQ b),nG];rfl
def DY{a:List Lv}{i j:Nat}{L:Lv}{p:Bool×Nat×Nat}(e:a[i]? =some L)(b:(iL i L)[j]? =some p):(eB a)[eX a i+j]? =some p:=by
 have c:=(cP.mp e).1;obtain⟨r,z⟩:=Ha a (show i+1<=a.length from c);unfold eB eX;rw[z,r4 e,fO,e9 (nP _ _),vj,fe (cP.mp b).1];exact b
def Dn{a:List Lv}{i:Nat}{L:Lv}(e:a[i]? =some L):eX a i+(if 1<L.gs.length then 1 else 0)<(eB a).length:=by
 have b:=(cP.mp e).1;obtain⟨r,z⟩:=Ha a (show i+1<=a.length from b);have y:=wS e;unfold eB;rw[z,dF];unfold eX at y⊢;by_cases h:1<L.gs.length
 .rw[wB h]at y⊢;lia
 .rw[wA h]at y⊢;lia
structure PairOk(L:Lv)(p:Nat×Nat):Prop where
 g:p.1<L.gs.length
 t:p.2<L.us.length
def dy{a:cz}{j:Nat}(h:j<a.length):a[j]? =some (a.getD j 0):=by rw[eC,cE h];rfl
def RowIn.pair{b:List Lv}{a:cz}(R:RowIn b a){i:Nat}{L:Lv}(e:b[i]? =some L)(g0:0<L.gs.length):PairOk L (e8 b a i L):=by
 have z:=Dn e;have len:=R.len;unfold e8;by_cases h:1<L.gs.length
 .rw[wB h]at z⊢;have c:(iL i L)[0]? =some (true,i,L.gs.length):=by unfold iL;rw[wB h];rfl
  have d:(iL i L)[1]? =some (false,i,L.us.length):=by unfold iL;rw[wB h];rfl
  exact⟨R.lt _ _ _ (DY e c) (dy ()),R.lt _ _ _ (DY e d) (dy ())⟩
 .rw[wA h]at z⊢;have c:(iL i L)[0]? =some (false,i,L.us.length):=by unfold iL;rw[wA h];rfl
  exact⟨g0,R.lt _ _ _ (DY e c) (dy ())⟩
def jz(L:Lv)(p:Nat×Nat):Nat:=(L.gs.getD p.1 []).getD p.2 0
def fB(a:LN)(L:Lv)(here:cz)(p:Nat×Nat):cz:=if here∈L.c then(tl a L.us (L.wds.getD (dO L.c here) [])).getD (jz L p) []else here
def ge(ts:LN)(n:Nat)(Ls:List Lv)(prs:List (Nat×Nat)):Nat->List Nat
 |0=>List.range n
 |i+1=>match Ls[i]?,prs[i]? with
  |some L,some p=>fB ts L (ge ts n Ls prs i) p
  |_,_=>ge ts n Ls prs i
def DB{ts:LN}{n:Nat}{a:List Lv}{prs:List (Nat×Nat)}{i:Nat}{L:Lv}{p:Nat×Nat}(b:a[i]? =some L)(c:prs[i]? =some p):ge ts n a prs (i+1)=fB ts L (ge ts n a prs i) p:=by
 show(match a[i]?,prs[i]? with|some L,some p=>fB ts L (ge ts n a prs i) p|_,_=>ge ts n a prs i)=_;rw[b,c]
structure WOk(L:Lv)(p:Nat×Nat):Prop where
 nd:L.c.Nodup
 wl:L.wds.length=L.c.length
 g1:p.1<L.gs.length
 g2:p.2<(L.gs.getD p.1 []).length
 g3:jz L p<L.us.length
section
variable{H:Hp}{m:Ad}{ts:LN}{n:Nat}{a:LN}{L:Lv}
def LvOk.g0(M:Mach H m ts n)(b:FamOf ts n a)(ok:LvOk ts a L):0<L.gs.length:=(cP.mp (ok.first M b)).1
def fF{b:LN}{k:Nat}(h:k<b.length):b[k]? =some (b.getD k []):=by rw[eC,cE h];rfl
def LvOk.wok(M:Mach H m ts n)(b:FamOf ts n a)(ok:LvOk ts a L){p:Nat×Nat}(po:PairOk L p):WOk L p:=by
 have pm:=ok.pm M b (cY (fF po.g));have l:(L.gs.getD p.1 []).length=L.us.length:=by rw[pm.length_eq,iU]
 refine⟨ok.p.nd b,ok.p.len,po.g,by rw[l];exact po.t,?_⟩;exact f'.mp (pm.mem_iff.mp (cY (dy (by rw[l];exact po.t))))
def LvOk.wthn_in(M:Mach H m ts n)(c:FamOf ts n a)(ok:LvOk ts a L){here:cz}(d:here∈L.c){p:Nat×Nat}(po:PairOk L p):fB ts L here p∈jd a here:=by
 have w:=ok.wok M c po;obtain⟨l,e⟩:=iP d;unfold fB tl;rw[wB d,eC,cV];have g:L.us[jz L p]? =some (L.us.getD (jz L p) []):=fF w.g3;rw[g];have i:L.wds[dO L.c here]? =some (L.wds.getD (dO L.c here) []):=fF (by rw[w.wl];exact l);obtain⟨b,j⟩:=ok.p.bij M c e i;have h:=cY g;rw[ok.p.tl]at h;have:=we M c (c.inU M (dP.mp (iD ok.p.cls).2.2.1).1) j h;rw[<-ok.p.tl]at this;exact this
def LvOk.wthn_fam(M:Mach H m ts n)(b:FamOf ts n a)(ok:LvOk ts a L){here:cz}(c:here∈a){p:Nat×Nat}(po:PairOk L p):fB ts L here p∈a:=by
 by_cases h:here∈L.c
 .exact((oN M b).mp (ok.wthn_in M b h po)).1
 .unfold fB;rw[wA h];exact c
def D4(b:FamOf ts n a):List.range n∈a:=(b.mem _).mpr (.inl ⟨[],(λ_ h=>nomatch h),zZ⟩)
def RowIn.po(M:Mach H m ts n){b:List Lv}(R:RowOf ts n a b){row:cz}(e:RowIn b row)(i:Nat)(L:Lv)(p:Nat×Nat)(c:b[i]? =some L)(d:(fT b row)[i]? =some p):PairOk L p:=by
 rw[Ch c]at d;cases d;exact e.pair c ((R.ok L (cY c)).g0 M R.ff)
end
inductive gn(e:List V)(H:Hp)(Q:VK)(c:XK):Prop|mk:∀(g m:Ad) (a:As) (h:LN) (d:List Lv),e=[.ref g]->H g=some (.lst (a.map .ref))->PlansAt H a m h d->d.length<=32->(∀l a b,Same H b->H l=none->b l=some (.lst (a.map .ref))->PartsAt b a (eB d)->Q (.ref l) b)->gn e H Q c
def O8(F:Fun K uQ uQ DS f fd)(jE:mg "enumerate"=none)(U:mg "len"=none):FnOk P w K mg base de 3 f fd [sG] gn:=by
 refine F.ok qM (λab A Y s H vs Q E hr h=>?_)
 obtain⟨pl,m,aa,ts,G,rfl,y,S,few,q⟩:=h;have hu:=hr.units;refine⟨_,(cQ (dj (i:=1) qM.nd zZ (Or.inl zZ) (gI cJ)) (cQ (iH gY zZ (wF zZ jE (cN (pv 0) cJ)) (om zZ (iA (fb (i:=2) qM.nd zZ (Or.inl zZ)) (iA (fb (i:=3) qM.nd zZ (Or.inl zZ)) nO))) (cQ (t6 (gk (gB vW (fc gv zZ U gj (cN (cW dr (pv 3) cR (λ_ _=>rfl)) cJ)) cR (fY _)) (cU (ju (hE hV ko lE ku (pv 1) (cN (jg (c8 (cD wL (cD (pv 2) (cD (fc gv zZ U gj (cN (cW dr (pv 3) cR (λ_ _=>rfl)) cJ)) db zZ) zZ) zZ))) cJ)))) gO)) (cU (ju (hE hV ko lE ku (pv 1) (cN (jg (c8 (cD wL (cD (pv 2) (cD (fc gv zZ U gj (cN (cW dr (cW fX (cW dr (pv 3) cR (λ_ _=>rfl)) cR (λ_ _=>rfl)) cR (λ_ _=>rfl)) cJ)) db zZ) zZ) zZ))) cJ)))))) (cU (dG (pv 1))))),?_⟩;refine⟨by show 0<=sizeLine;decide,λn o=>?_⟩;have k0:=cM o (.lst []);have lq:=S.len
 let Pv:Nat->L2.St->Hp->Prop:=λi I l=>Same H l/\ ∃(u:As) (o2 o3:Option V),l n=some (.lst (u.map .ref))/\PartsAt l u (gX G i)/\I=[some (.ref pl),some (.ref n),o2,o3]
 refine⟨_,zZ,pl,_,zZ,Q3 (k0 _ _ y),yV (xs:=aa.map .ref) Pv ⟨k0,[],_,_,cF,⟨zZ,λi a p e=>by simp at e⟩,zZ⟩ (λi I l _ p=>Q3 (p.1 _ _ y)) (λi J v I M hv nT pv=>?_) (λI M pv=>?_)⟩
 .obtain⟨g1,u,o2,o3,ef,j,rfl⟩:=pv;rw[cV]at hv;obtain⟨b,eb,rfl⟩:=eU.mp hv;have li:=(cP.mp eb).1;obtain⟨L,eL⟩: ∃L,G[i]? =some L:=⟨_,cE ()⟩;have B:=cM nT (.tup [.int (i:Nat),.ref b]);have eT:cA M J (.tup [.int (i:Nat),.ref b]) J=some (.tup [.int (i:Nat),.ref b]):=cF;generalize cA M J (.tup [.int (i:Nat),.ref b])=H2 at B eT⊢;have g2:=g1.trans B;obtain⟨d,g,ml,lv,gr,N,s2,s3,O,s5,s6⟩:=(S.is i b L eb eL).keeps g2.keeps;refine⟨J,_,zZ,Q4 eT,zZ,_,_,zZ,_,_,zZ,zZ,?_⟩;have T:=B _ _ ef;have lz:=tr G i;have la:=j.len;refine⟨λC l=>Same H l/\ ∃k,l n=some (.lst (k.map .ref))/\PartsAt l k (gX G i++(if 1<L.gs.length then[(true,i,L.gs.length)]else[]))/\C=[some (.ref pl),some (.ref n),some (nv i),some (.ref b)],⟨_,zZ,b,_,_,_,zZ,zZ,Q4 N,zZ,g,_,zZ,.inl (Q3 s3),_,_,zZ,zZ,_,zZ,mK (λc=>?_) (λc=>?_)⟩,λC l z=>?_⟩
  .have c1:1<L.gs.length:=by
    have z:=ie c;rw[cC,O.len]at z;lia
   refine⟨_,zZ,.inl ⟨zZ,_,Q3 T⟩,_,zZ,_,zZ,b,_,_,_,zZ,zZ,Q4 N,zZ,g,_,zZ,.inl (Q3 s3),by show 3<=sizeLine;decide,λr x=>?_⟩;rw[show(gr.map V.ref).length=L.gs.length by rw[cC,O.len]];have t:=cM x (.tup [.str tX,nv i,nv L.gs.length]);refine⟨n,_,_,zZ,zZ,t _ _ T,by rw[cC,dz];lia,?_⟩;have lo:mP (cA H2 r (.tup [.str tX,nv i,nv L.gs.length])) (cA (cA H2 r (.tup [.str tX,nv i,nv L.gs.length])) n (.lst (u.map V.ref++[.ref r]))):=Stays.offL (t _ _ T);rw[wB c1];exact⟨gR (g2.trans t) o,u++[r],by rw[cF,eI];rfl,((j.st (lM (B.trans t))).st lo).snoc (lo.a cF),zZ⟩
  .have c1: ¬1<L.gs.length:=by
    have z:=wD (qd.mpr c);rw[cC,O.len]at z;lia
   rw[wA c1,iV];exact⟨g2,u,T,j.st (lM B),zZ⟩
  .obtain⟨g3,k,f3,D,rfl⟩:=z;obtain⟨d,g,ml,lv,gr,N,s2,s3,O,s5,s6⟩:=(S.is i b L eb eL).keeps g3.keeps;obtain⟨s',t',v',bs,ds,cs,h1,h2,h3,h4,h5,_⟩:=id s6;have ae:k.length<=2 * i+2:=by
    rw[D.len,dF];have:(if 1<L.gs.length then[(true,i,L.gs.length)]else[]).length<=2:=by
     by_cases h:1<L.gs.length
     .rw[wB h];exact oK 1
     .rw[wA h];exact jj 2
    lia
   refine⟨_,zZ,.inl ⟨zZ,_,Q3 f3⟩,_,zZ,_,zZ,b,_,_,_,zZ,zZ,Q4 N,zZ,ml,_,_,_,zZ,zZ,Q3 s5,zZ,lv,_,_,_,zZ,zZ,Q4 h1,zZ,t',_,zZ,.inl (Q3 h4),by show 3<=sizeLine;decide,λr x=>?_⟩;rw[show(ds.map V.ref).length=L.us.length by rw[cC,h5.len]];have t:=cM x (.tup [.str vF,nv i,nv L.us.length]);refine⟨n,_,_,zZ,zZ,t _ _ f3,by rw[cC,dz];lia,?_⟩;have lo:mP (cA l r (.tup [.str vF,nv i,nv L.us.length])) (cA (cA l r (.tup [.str vF,nv i,nv L.us.length])) n (.lst (k.map V.ref++[.ref r]))):=Stays.offL (t _ _ f3);refine⟨gR (g3.trans t) o,k++[r],_,_,by rw[cF,eI];rfl,?_,zZ⟩;rw[r4 eL];unfold iL;rw[<-fO];exact((D.st (lM t)).st lo).snoc (lo.a cF)
 .obtain⟨g1,u,o2,o3,ef,j,rfl⟩:=pv;rw[cC,lq]at j;exact⟨_,zZ,q n u M g1 o ef j⟩
inductive iw(C:Ad)(c:List V)(H:Hp)(Q:VK)(b:XK):Prop|mk:∀(q h d m:Ad) (e:LN) (L:Lv) (here:cz) (p:Nat×Nat),c=[.ref q,.ref h,.ref d]->StepAt C H q m e L->H h=some (.tup (here.map nv))->H d=some (.tup [nv p.1,nv p.2])->WOk L p->(∀a,H a=some (.tup ((fB e L here p).map nv))->Q (.ref a) H)->iw C c H Q b
def Lp{C:Ad}(F:Fun K uR "LevelParts.within" B8 f fd)(M2:OwnC K C [sA,sI,sJ,sS,sQ]):FnOk P w K mg base de 1 f fd [sC,sZ,uI] (iw C):=by
 refine F.ok Ke (λY A x s H vs Q E B h=>?_)
 obtain⟨q,h,D,m,G,L,here,p,rfl,⟨l,g,t,u,gr,n,h2,I,⟨as,J,t2,t3⟩,_⟩,y,M,a,k⟩:=h;have hu:=B.units;have d:=jq B;refine⟨_,(cQ (gk (oB (AW d (pv 1) (iB (pv 0) zZ))) (cU (dG (pv 1))) gO) (cU (dG (cW fX (og d (iB (pv 0) zZ) (pv 1) (λ_ _=>rfl)) (cW dr (cW fX (iB (pv 0) zZ) (cW dr (pv 2) cR (λ_ _=>rfl)) (λ_ _=>rfl)) (cW dr (pv 2) cR (λ_ _=>rfl)) (λ_ _=>rfl)) (λ_ _=>rfl))))),?_⟩;by_cases c:here∈L.c
 .obtain⟨li,ei⟩:=iP c;obtain⟨b,N⟩: ∃b,as[dO L.c here]? =some b:=⟨_,cE ()⟩;have ew:L.wds[dO L.c here]? =some (L.wds.getD (dO L.c here) []):=fF (by rw[a.wl];exact li);obtain⟨es,e1,O⟩:=t3 _ _ _ ew N;have o:=ph a.nd J y ei N;have lg:=I.len;obtain⟨e,i⟩: ∃e,gr[p.1]? =some e:=⟨_,cE (by rw[lg];exact a.g1)⟩;have z:=I.is p.1 e _ i (fF a.g1);have T:(tl G L.us (L.wds.getD (dO L.c here) []))[jz L p]? =some (fB G L here p):=by
   unfold fB;rw[wB c];exact fF (by unfold tl;rw[List.length_map];exact a.g3)
  obtain⟨r,U⟩: ∃r,es[jz L p]? =some r:=⟨_,cE (by rw[O.len];exact(cP.mp T).1)⟩;refine⟨_,zZ,_,zZ,q,C,l,_,_,zZ,n,M2.cl,M2.no,ql,t,_,zZ,o,_,zZ,fq ?_⟩;refine⟨_,zZ,q,C,l,_,_,zZ,n,M2.cl,M2.no,ql,_,zZ,t,_,zZ,o,_,zZ,q,C,l,_,_,zZ,n,M2.cl,M2.no,sd,_,zZ,D,_,_,_,zZ,zZ,Q4 M,zZ,g,_,_,_,zZ,zZ,Q3 h2,gF (j:=p.1) (v:= .ref e) (by rw[cV,i];rfl),_,zZ,D,_,_,_,zZ,zZ,Q4 M,zZ,e,_,_,_,zZ,zZ,Q4 z,mY a.g2,b,_,_,_,zZ,zZ,Q3 e1,gF (j:=jz L p) (v:= .ref r) (by rw[cV,U];rfl),?_⟩;exact k r (O.is _ r _ U T)
 .have o:=sj J y c;refine⟨_,zZ,_,zZ,q,C,l,_,_,zZ,n,M2.cl,M2.no,ql,t,_,zZ,o,_,zZ,fH ?_⟩;refine⟨_,zZ,k h ?_⟩;unfold fB;rw[wA c];exact y
structure PairsAt(H:Hp)(as:As)(ps:List (Nat×Nat)):Prop where
 len:as.length=ps.length
 is: ∀(i:Nat) (a:Ad) (p:Nat×Nat),as[i]? =some a->ps[i]? =some p->H a=some (.tup [nv p.1,nv p.2])
def PairsAt.st{f:HO->Bool}{H b:Hp}{c:As}{d:List (Nat×Nat)}(h:PairsAt H c d)(g:Stays f H b)(e: ∀xs,f (.tup xs)=false:=by intro;rfl):PairsAt b c d:=⟨h.len,λi a p j k=>g _ _ (e _) (h.is i a p j k)⟩
def PairsAt.snoc{H:Hp}{k:As}{j:List (Nat×Nat)}{a:Ad}{p:Nat×Nat}(h:PairsAt H k j)(e:H a=some (.tup [nv p.1,nv p.2])):PairsAt H (k++[a]) (j++[p]):=by
 refine⟨by rw[dF,dF,h.len];rfl,λi d b g c=>?_⟩;refine oq (P:=λi d=> ∀b,(j++[p])[i]? =some b->H d=some (.tup [nv b.1,nv b.2])) (λi d g b c=>?_) (λb c=>?_) i d g b c
 .rw[fe (by rw[<-h.len];exact(cP.mp g).1)]at c;exact h.is i d b g c
 .rw[h.len,e9 (cO _),nG]at c;cases c;exact e
inductive iC(e CR:Ad)(g:List V)(H:Hp)(Q:VK)(d:XK):Prop|mk:∀(p h m:Ad) (j:LN) (n:Nat) (b:List Lv) (a:cz),g=[.ref p,.ref h]->RowAt e CR H p m j n b->b.length<=32->H h=some (.tup (a.map nv))->a.length=(eB b).length->(∀l i c,Same H c->H l=none->c l=some (.lst (i.map .ref))->PairsAt c i (fT b a)->Q (.ref l) c)->iC e CR g H Q d
def Ko{M CR:Ad}(F:Fun K "paired" "Row.paired" Di f fd)(M2:OwnC K M [sA,sI,sJ,sS,sQ])(P8:OwnC K CR [sB,tV])(jF:gq P w K mg base M uP 1 [sC] (mw M)):FnOk P w K mg base de 3 f fd [sC,"row"] (iC M CR):=by
 refine F.ok jU (λag A aa s H vs Q E hr h=>?_)
 obtain⟨p,N,m,ts,n,j,d,rfl,⟨dx,r,st,qs,h1,h2,h3,S⟩,few,D,lr,q⟩:=h;have hu:=hr.units;refine⟨_,(cQ (dj (i:=2) jU.nd zZ (Or.inl zZ) (gI cJ)) (cQ (dj (i:=3) jU.nd zZ (Or.inl zZ) cR) (cQ (iH gY zZ (iT (iB (pv 0) zZ)) (fb (i:=4) jU.nd zZ (Or.inl zZ)) (cQ (dj (i:=5) jU.nd zZ (Or.inl zZ) cR) (cQ (t6 (gk (re (xC (pv 4) M2.cl jF hr.m)) (cQ (dj (i:=5) jU.nd zZ (Or.inl zZ) (cW dr (pv 1) (pv 3) (λ_ _=>rfl))) (cU (Hr (i:=3) jU.nd zZ (Or.inl zZ) cR FJ))) gO)) (cQ (ju (hE hV ko lE ku (pv 2) (cN (jg (c8 (cD (pv 5) (cD (cW dr (pv 1) (pv 3) (λ_ _=>rfl)) db zZ) zZ))) cJ))) (cU (Hr (i:=3) jU.nd zZ (Or.inl zZ) cR FJ)))))) (cU (dG (pv 2)))))),?_⟩;refine⟨by show 0<=sizeLine;decide,λB x=>?_⟩;have k0:=cM x (.lst []);have lq:=S.len
 let Pv:Nat->L2.St->Hp->Prop:=λi O o=>Same H o/\ ∃(y:As) (o4 o5:Option V),o B=some (.lst (y.map .ref))/\PairsAt o y (mI j d i)/\O=[some (.ref p),some (.ref N),some (.ref B),some (nv (eX j i)),o4,o5]
 refine⟨_,zZ,p,CR,dx,_,_,zZ,k0 _ _ h1,P8.cl,P8.no,AC,st,zZ,⟨_,Q3 (k0 _ _ h3)⟩,pK (xs:=qs.map .ref) Pv ⟨k0,[],_,_,cF,⟨zZ,λi a p e=>by simp at e⟩,zZ⟩ (λi O o _ p=>Q3 (p.1 _ _ h3)) (λi v O H1 hv pv=>?_) (λO H1 pv=>?_)⟩
 .obtain⟨C,y,o4,o5,G,l,rfl⟩:=pv;rw[cV]at hv;obtain⟨b,eb,rfl⟩:=eU.mp hv;have li:=(cP.mp eb).1;obtain⟨L,T⟩: ∃L,j[i]? =some L:=⟨_,cE ()⟩;have SA:=(S.is i b L eb T).keeps C.keeps;obtain⟨ab,g,t,u,gr,s1,s2,s3,s4⟩:=id SA;have pl:=Dn T;have pn:=wS T;have la:=l.len;rw[nh ()]at la;refine⟨λI o=>o=H1/\I=[some (.ref p),some (.ref N),some (.ref B),some (nv (eX j i+if 1<L.gs.length then 1 else 0)),some (.ref b),some (nv (e8 j d i L).1)],⟨_,zZ,b,ab,_,zZ,s1,(by kernel_rfl),b,m,ts,L,zZ,SA,_,zZ,mK (λc=>?_) (λc=>?_)⟩,λI o z=>?_⟩
  .have J:1<L.gs.length:=ie c;rw[wB J]at pl⊢;refine⟨_,zZ,_,zZ,N,_,_,_,zZ,zZ,Q4 (C _ _ D),mY (k:=eX j i) (),?_⟩;unfold e8;rw[wB J];exact⟨_,zZ,_,_,zZ,zZ,zZ,zZ⟩
  .have J: ¬1<L.gs.length:=wD (qd.mpr c);rw[wA J]at pl⊢;unfold e8;rw[wA J];exact⟨zZ,zZ⟩
  .obtain⟨rfl,rfl⟩:=z;have ae:eX j i+(if 1<L.gs.length then 1 else 0)<d.length:=by rw[lr];exact pl
   refine⟨_,zZ,.inl ⟨zZ,_,Q3 G⟩,_,zZ,_,zZ,_,zZ,N,_,_,_,zZ,zZ,Q4 (C _ _ D),mY ae,by show 2<=sizeLine;decide,λU af=>?_⟩;have e2:(e8 j d i L).2=d.getD (eX j i+if 1<L.gs.length then 1 else 0) 0:=by
    unfold e8;by_cases c:1<L.gs.length
    .rw[wB c,wB c]
    .rw[wA c,wA c];rfl
   rw[<-e2];have Y:=cM af (.tup [nv (e8 j d i L).1,nv (e8 j d i L).2]);refine⟨B,_,_,zZ,zZ,Y _ _ G,by rw[cC,dz];lia,_,zZ,_,_,zZ,zZ,?_⟩;have lo:mP (cA o U (.tup [nv (e8 j d i L).1,nv (e8 j d i L).2])) (cA (cA o U (.tup [nv (e8 j d i L).1,nv (e8 j d i L).2])) B (.lst (y.map V.ref++[.ref U]))):=Stays.offL (Y _ _ G);refine⟨gR (C.trans Y) x,y++[U],some (.ref b),some (nv (e8 j d i L).1),by rw[cF,eI];rfl,?_,?_⟩
   .rw[qp T];exact((l.st (lM Y)).st lo).snoc (lo.a cF)
   .rw[pn];by_cases c:1<L.gs.length
    .rw[wB c,wB c];rfl
    .rw[wA c,wA c];rfl
 .obtain⟨C,y,o4,o5,G,l,rfl⟩:=pv;rw[cC,lq]at l;exact⟨_,zZ,q B y H1 C x G l⟩
def Kq{i:Nat}{L:Lv}(h:0<L.us.length){p:Bool×Nat×Nat}(a:p∈iL i L):0<p.2.2:=by
 unfold iL at a
 rcases dD.mp a with z|z
 .by_cases c:1<L.gs.length
  .rw[wB c]at z;rw[dw.mp z];exact yT Nat.zero_lt_one c
  .rw[wA c]at z;cases z
 .rw[dw.mp z];exact h
theorem FM{a:List Lv}(h: ∀L∈a,0<L.us.length): ∀(i:Nat) (p:Bool×Nat×Nat),p∈gX a i->0<p.2.2
 |0,_,b=>nomatch b
 | i+1,p,b=>by
  rcases dD.mp (show p∈gX a i++_ from b)with z|z
  .exact FM h i p z
  .cases e:a[i]? with
   |none=>
    rw[e]at z;cases z
   |some L=>
    rw[e]at z;exact Kq (h L (cY e)) z
def RowOf.pos{H:Hp}{m:Ad}{b:LN}{n:Nat}{a:LN}{c:List Lv}(M:Mach H m b n)(R:RowOf b n a c){p:Bool×Nat×Nat}(d:p∈eB c):0<p.2.2:=FM (λL e=>Gz M R.ff (R.ok L e).p) _ p d
def gb{c:Int}{k:Nat}(h:0<k): ∃r:Nat,V.int (c%(k:Int))=nv r/\r<k:=by
 have a:=Int.emod_nonneg c (show((k:Nat):Int)≠0 by lia);have b:=Int.emod_lt_of_pos c (show(0:Int)<((k:Nat):Int) by lia);exact⟨(c%(k:Int)).toNat,by show V.int _=V.int _;rw[Int.toNat_of_nonneg a],()⟩
inductive lY(K:Q5)(h:List V)(H:Hp)(Q:VK)(b:XK):Prop|mk:∀(i j m:Ad) (l:As) (c:LN) (n:Nat) (d:LN) (e:List Lv) (o:Zs) (k:Nat),h=[.ref i,.ref j,nv k]->H i=some (.lst (l.map .ref))->PlansAt H l m c e->Mach H m c n->RowOf c n d e->SqL K H j (o.map V.int)->(∀t a g,Same H g->g t=some (.tup (a.map nv))->RowIn e a->Q (.ref t) g)->lY K h H Q b
inductive iy(g:List V)(H:Hp)(Q:VK)(e:XK):Prop|mk:∀(h i m:Ad) (b:As) (j:LN) (c:List Lv) (a:cz),g=[.ref h,.ref i]->H h=some (.lst (b.map .ref))->PlansAt H b m j c->c.length<=32->H i=some (.tup (a.map nv))->a.length=(eB c).length->(∀l b d,Same H d->H l=none->d l=some (.lst (b.map .ref))->PairsAt d b (fT c a)->Q (.ref l) d)->iy g H Q e
inductive ik(c:List V)(H:Hp)(Q:VK)(b:XK):Prop|mk:∀(q h d m:Ad) (e:LN) (L:Lv) (here:cz) (p:Nat×Nat),c=[.ref q,.ref h,.ref d]->PlanAt H q m e L->H h=some (.tup (here.map nv))->H d=some (.tup [nv p.1,nv p.2])->WOk L p->(∀a,H a=some (.tup ((fB e L here p).map nv))->Q (.ref a) H)->ik c H Q b
def Jn(F:Fun K "_law_row" "_law_row" EB f fd)(kA:dE P w K mg base uQ 3 [sG] gn)(jG:dE P w K mg base tQ 1 [sH,tL] (fu K))(jA:mg "len"=none)(jD:mg "tuple"=none):FnOk P w K mg base de 5 f fd [sG,sH,vH] (lY K):=by
 refine F.ok qY (λaa A G s H vs Q E I h=>?_)
 obtain⟨pl,sc,m,as,ts,n,ab,d,ns,k,rfl,J,PL,M,R,L,q⟩:=h;have hu:=I.units;refine⟨_,(cQ (dj (i:=3) qY.nd zZ (Or.inl zZ) (gI cJ)) (cQ (iH gY zZ (iT (dH kA I.m zZ (cN (pv 0) cJ))) (om zZ (iA (fb (i:=4) qY.nd zZ (Or.inl zZ)) (iA (fb (i:=5) qY.nd zZ (Or.inl zZ)) (iA (fb (i:=6) qY.nd zZ (Or.inl zZ)) nO)))) (cU (ju (hE hV ko lE ku (pv 3) (cN (fv nB (dH jG I.m zZ (c8 (cD (pv 1) (cD (fv ug (pv 2) (fc gv zZ jA gj (cN (pv 3) cJ))) db zZ) zZ))) (pv 6)) cJ))))) (cU (dG (iN n6 zZ jD mz (cN (pv 3) cJ)))))),?_⟩;refine⟨by show 0<=sizeLine;decide,λa x=>?_⟩;have N:=cM x (.lst []);refine⟨_,zZ,pl,m,as,ts,d,zZ,N _ _ J,PL.keeps N.keeps,R.few,λl O H1 g1 nl el PS=>?_⟩;have T:=PS.len;have lz:(eB d).length<=2 * d.length:=tr d d.length;have ae:=R.few;have f1:=g1 _ _ (cF:cA H a (.lst []) a=_);have U:l≠a:=(dU (cF:cA H a (.lst []) a=_) nl).symm;have Y:=N.trans g1
 let Pv:Nat->L2.St->Hp->Prop:=λi C y=>Same H y/\y l=some (.lst (O.map .ref))/\PartsAt y O (eB d)/\ ∃(g:cz) (o4 o5 o6:Option V),y a=some (.lst (g.map nv))/\g.length=i/\(∀(j:Nat) (p:Bool×Nat×Nat) (r:Nat),(eB d)[j]? =some p->g[j]? =some r->r<p.2.2)/\C=[some (.ref pl),some (.ref sc),some (nv k),some (.ref a),o4,o5,o6]
 refine⟨l,zZ,⟨_,Q3 el⟩,pK (xs:=O.map .ref) Pv ⟨Y,el,PS,[],none,none,none,f1,zZ,(λj p r _ e=>by simp at e),zZ⟩ (λi C y _ p=>Q3 p.2.1) (λi v C H2 hv pv=>?_) (λC H2 pv=>?_)⟩
 .obtain⟨D,z,o,g,o4,o5,o6,u,B,al,rfl⟩:=pv;rw[cV]at hv;obtain⟨b,eb,rfl⟩:=eU.mp hv;have li:=(cP.mp eb).1;obtain⟨p,ep⟩: ∃p,(eB d)[i]? =some p:=⟨_,cE ()⟩;have hb:=o.is i b p eb ep;refine⟨b,_,zZ,Q4 hb,zZ,_,_,zZ,_,_,zZ,_,_,zZ,zZ,?_⟩;have pp:=R.pos M (cY ep);refine⟨_,zZ,.inl ⟨zZ,_,Q3 u⟩,_,zZ,_,zZ,_,zZ,a,_,zZ,.inl (Q3 u),_,_,zZ,zZ,sc,ns,_,zZ,(),D.seq L,λc=>?_⟩;obtain⟨r,er,rl⟩:=gb (c:=c) pp;refine⟨_,zZ,_,_,zZ,zZ,(by show(0:Int)<((p.2.2:Nat):Int);lia),?_⟩
  try dsimp only
  rw[er];refine⟨a,_,_,zZ,zZ,u,by rw[cC,dz];lia,?_⟩;have lo:mP H2 (cA H2 a (.lst (g.map nv++[nv r]))):=Stays.offL u;refine⟨gR D x,by rw[cK U];exact z,o.st lo,g++[r],_,_,_,by rw[cF,eI];rfl,by rw[dF,B];rfl,λj p' r' e1 e2=>?_,zZ⟩;refine oq (P:=λj r=> ∀p,(eB d)[j]? =some p->r<p.2.2) (λj r e p e'=>al j p r e' e) (λp' e=>?_) j r' e2 p' e1;rw[B,ep]at e;cases e;exact rl
 .obtain⟨D,z,o,g,o4,o5,o6,u,B,al,rfl⟩:=pv;rw[cC,T]at B;refine⟨_,zZ,a,_,zZ,.inl ⟨Q3 u,λt ht=>?_⟩⟩;exact q t g _ (D.trans (cM ht _)) cF ⟨B,al⟩
def J2(F:Fun K vM vM EN f fd):FnOk P w K mg base de 1 f fd [sN,tI,sR] ik:=by
 refine F.ok N4 (λO A o s H vs Q E y h=>?_)
 obtain⟨q,h,z,m,B,L,here,p,rfl,⟨t,g,ml,lv,T,l,⟨U,C,t2,Y⟩,h2,D,_⟩,u,G,a,k⟩:=h;have hu:=y.units;have d:=jq y;refine⟨_,(cQ (gk (oB (AW d (pv 1) (cW dr (pv 0) cR (λ_ _=>rfl)))) (cU (dG (pv 1))) gO) (cU (dG (cW fX (og d (cW dr (pv 0) cR (λ_ _=>rfl)) (pv 1) (λ_ _=>rfl)) (cW dr (cW fX (cW dr (pv 0) cR (λ_ _=>rfl)) (cW dr (pv 2) cR (λ_ _=>rfl)) (λ_ _=>rfl)) (cW dr (pv 2) cR (λ_ _=>rfl)) (λ_ _=>rfl)) (λ_ _=>rfl))))),?_⟩;by_cases c:here∈L.c
 .obtain⟨li,ei⟩:=iP c;obtain⟨b,I⟩: ∃b,U[dO L.c here]? =some b:=⟨_,cE ()⟩;have ew:L.wds[dO L.c here]? =some (L.wds.getD (dO L.c here) []):=fF (by rw[a.wl];exact li);obtain⟨es,e1,J⟩:=Y _ _ _ ew I;have n:=ph a.nd C u ei I;have lg:=D.len;obtain⟨e,i⟩: ∃e,T[p.1]? =some e:=⟨_,cE (by rw[lg];exact a.g1)⟩;have x:=D.is p.1 e _ i (fF a.g1);have M:(tl B L.us (L.wds.getD (dO L.c here) []))[jz L p]? =some (fB B L here p):=by
   unfold fB;rw[wB c];exact fF (by unfold tl;rw[List.length_map];exact a.g3)
  obtain⟨r,N⟩: ∃r,es[jz L p]? =some r:=⟨_,cE (by rw[J.len];exact(cP.mp M).1)⟩;refine⟨_,zZ,_,zZ,q,_,_,_,zZ,zZ,Q4 l,zZ,t,_,zZ,n,_,zZ,fq ?_⟩;refine⟨_,zZ,q,_,_,_,zZ,zZ,Q4 l,zZ,_,zZ,t,_,zZ,n,_,zZ,q,_,_,_,zZ,zZ,Q4 l,zZ,_,zZ,z,_,_,_,zZ,zZ,Q4 G,zZ,g,_,_,_,zZ,zZ,Q3 h2,gF (j:=p.1) (v:= .ref e) (by rw[cV,i];rfl),_,zZ,z,_,_,_,zZ,zZ,Q4 G,zZ,e,_,_,_,zZ,zZ,Q4 x,mY a.g2,b,_,_,_,zZ,zZ,Q3 e1,gF (j:=jz L p) (v:= .ref r) (by rw[cV,N];rfl),?_⟩;exact k r (J.is _ r _ N M)
 .have n:=sj C u c;refine⟨_,zZ,_,zZ,q,_,_,_,zZ,zZ,Q4 l,zZ,t,_,zZ,n,_,zZ,fH ?_⟩;refine⟨_,zZ,k h ?_⟩;unfold fB;rw[wA c];exact u
def wR{K:Nat}(h:0<K):seqIndex? 0 K=some 0:=Bg (Int.le_refl 0) ()
def Jt(F:Fun K vN vN BU f fd)(qO:mg "list"=none)(jA:mg "len"=none):FnOk P w K mg base de 1 f fd [sG,sM] iy:=by
 refine F.ok kL (λah A ab s H vs Q E hr h=>?_)
 obtain⟨pl,ra,m,ae,ts,l,j,rfl,J,S,few,af,lr,q⟩:=h;have hu:=hr.units;refine⟨_,(cQ (dj (i:=2) kL.nd zZ (Or.inl zZ) (gI cJ)) (cQ (dj (i:=3) kL.nd zZ (Or.inl zZ) (iN Kr zZ qO boot_list (cN (pv 1) cJ))) (cQ (iH gY zZ (iT (pv 0)) (fb (i:=4) kL.nd zZ (Or.inl zZ)) (cQ (dj (i:=5) kL.nd zZ (Or.inl zZ) cR) (cQ (t6 (gk (gB vW (fc gv zZ jA gj (cN (cW dr (pv 4) cR (λ_ _=>rfl)) cJ)) cR (fY _)) (cU (dj (i:=5) kL.nd zZ (Or.inl zZ) (hE hV PySem.F.slot_list_pop PySem.F.type_list_pop Gp (pv 3) (cN cR cJ)))) gO)) (cU (ju (hE hV ko lE ku (pv 2) (cN (jg (c8 (cD (pv 5) (cD (hE hV PySem.F.slot_list_pop PySem.F.type_list_pop Gp (pv 3) (cN cR cJ)) db zZ) zZ))) cJ))))))) (cU (dG (pv 2)))))),?_⟩;refine⟨by show 0<=sizeLine;decide,λr y=>?_⟩;have k0:=cM y (.lst []);have lq:=S.len;refine⟨_,zZ,ra,_,zZ,.inr (Q4 (k0 _ _ af)),λo B=>?_⟩;have ks:=cM B (.lst (j.map nv));have C:r≠o:=dU (cF:cA H r (.lst []) r=_) B;have x:=k0.free B;have f0:=ks _ _ (cF:cA H r (.lst []) r=_)
 let Pv:Nat->L2.St->Hp->Prop:=λi σ n=>Same H n/\ ∃(u:As) (o4 o5:Option V),n r=some (.lst (u.map .ref))/\PairsAt n u (mI l j i)/\n o=some (.lst ((j.drop (eX l i)).map nv))/\σ=[some (.ref pl),some (.ref ra),some (.ref r),some (.ref o),o4,o5]
 refine⟨_,zZ,pl,zZ,⟨_,Q3 ((k0.trans ks) _ _ J)⟩,pK (xs:=ae.map .ref) Pv ⟨k0.trans ks,[],_,_,f0,⟨zZ,λi a p e=>by simp at e⟩,cF,zZ⟩ (λi σ n _ p=>Q3 (p.1 _ _ J)) (λi v σ H1 hv pv=>?_) (λσ H1 pv=>?_)⟩
 .obtain⟨M,u,o4,o5,ef,t,N,rfl⟩:=pv;rw[cV]at hv;obtain⟨b,eb,rfl⟩:=eU.mp hv;have li:=(cP.mp eb).1;obtain⟨L,eL⟩: ∃L,l[i]? =some L:=⟨_,cE ()⟩;obtain⟨d,g,ml,lv,gr,s1,s2,s3,s4,s5,s6⟩:=(S.is i b L eb eL).keeps M.keeps;have pz:=Dn eL;have pn:=wS eL;have la:=t.len;rw[nh ()]at la;have hd: ∀{k:Nat},k<j.length->((j.drop k).map nv)[0]? =some (nv (j.getD k 0))/\((j.drop k).map nv).eraseIdx 0=(j.drop (k+1)).map nv:=λ{k} h=>by
   rw[yx h,eC,cE h];exact⟨zZ,zZ⟩
  have dl: ∀{k:Nat},k<j.length->0<((j.drop k).map nv).length:=λ{k} h=>by rw[cC,oD];lia
  refine⟨λO n=>Same H n/\n r=some (.lst (u.map .ref))/\PairsAt n u (mI l j i)/\n o=some (.lst ((j.drop (eX l i+if 1<L.gs.length then 1 else 0)).map nv))/\O=[some (.ref pl),some (.ref ra),some (.ref r),some (.ref o),some (.ref b),some (nv (e8 l j i L).1)],⟨_,zZ,b,_,_,_,zZ,zZ,Q4 s1,zZ,g,_,zZ,.inl (Q3 s3),_,_,zZ,zZ,_,zZ,mK (λc=>?_) (λc=>?_)⟩,λO n z=>?_⟩
  .have T:1<L.gs.length:=by
    have z:=ie c;rw[cC,s4.len]at z;lia
   rw[wB T]at pz⊢;have lp:eX l i<j.length:=by lia
   obtain⟨d1,d2⟩:=hd lp;refine⟨_,zZ,.inl ⟨zZ,_,Q3 N⟩,o,_,_,0,_,zZ,zZ,N,by decide,by decide,wR (dl lp),d1,?_⟩;have lo:mP H1 (cA H1 o (.lst (((j.drop (eX l i)).map nv).eraseIdx 0))):=Stays.offL N;refine⟨gR M x,by rw[cK C];exact ef,t.st lo,by rw[cF,d2],?_⟩;unfold e8;rw[wB T];rfl
  .have T: ¬1<L.gs.length:=by
    have z:=wD (qd.mpr c);rw[cC,s4.len]at z;lia
   rw[wA T]at pz⊢;unfold e8;rw[wA T];exact⟨M,ef,t,N,zZ⟩
  .obtain⟨g2,U,ag,D,rfl⟩:=z;have Y:eX l i+(if 1<L.gs.length then 1 else 0)<j.length:=by rw[lr];exact pz
   obtain⟨d1,d2⟩:=hd Y;refine⟨_,zZ,.inl ⟨zZ,_,Q3 U⟩,_,zZ,_,zZ,.inl ⟨zZ,_,Q3 D⟩,o,_,_,0,_,zZ,zZ,D,by decide,by decide,wR (dl Y),d1,by show 2<=sizeLine;decide,λtp G=>?_⟩;have e2:(e8 l j i L).2=j.getD (eX l i+if 1<L.gs.length then 1 else 0) 0:=by
    unfold e8;by_cases c:1<L.gs.length
    .rw[wB c,wB c]
    .rw[wA c,wA c];rfl
   rw[<-e2];rw[d2]at G⊢;have xu:mP n (cA n o (.lst ((j.drop (eX l i+(if 1<L.gs.length then 1 else 0)+1)).map nv))):=Stays.offL D;have I:cA n o (.lst ((j.drop (eX l i+(if 1<L.gs.length then 1 else 0)+1)).map nv)) r=some (.lst (u.map .ref)):=by rw[cK C];exact U
   have aa:cA n o (.lst ((j.drop (eX l i+(if 1<L.gs.length then 1 else 0)+1)).map nv)) o=some (.lst ((j.drop (eX l i+(if 1<L.gs.length then 1 else 0)+1)).map nv)):=cF;have g3:Same H (cA n o (.lst ((j.drop (eX l i+(if 1<L.gs.length then 1 else 0)+1)).map nv))):=gR g2 x;generalize cA n o (.lst ((j.drop (eX l i+(if 1<L.gs.length then 1 else 0)+1)).map nv))=H3 at G xu I aa g3⊢;have kt:=cM G (.tup [nv (e8 l j i L).1,nv (e8 l j i L).2]);refine⟨r,_,_,zZ,zZ,kt _ _ I,by rw[cC,dz];lia,?_⟩;have lo:mP (cA H3 tp (.tup [nv (e8 l j i L).1,nv (e8 l j i L).2])) (cA (cA H3 tp (.tup [nv (e8 l j i L).1,nv (e8 l j i L).2])) r (.lst (u.map V.ref++[.ref tp]))):=Stays.offL (kt _ _ I);refine⟨gR (g3.trans kt) y,u++[tp],some (.ref b),some (nv (e8 l j i L).1),by rw[cF,eI];rfl,?_,?_,zZ⟩
   .rw[qp eL];exact(((ag.st xu).st (lM kt)).st lo).snoc (lo.a cF)
   .rw[cK C.symm,kt _ _ aa,pn];by_cases c:1<L.gs.length
    .rw[wB c,wB c]
    .rw[wA c,wA c]
 .obtain⟨M,u,o4,o5,ef,t,N,rfl⟩:=pv;rw[cC,lq]at t;exact⟨_,zZ,q r u H1 M y ef t⟩
def ux(a:List Lv)(i:Nat)(x:cz):Prop:= ∀(j:Nat) (L:Lv),j<i->a[j]? =some L->x∉L.c
section
variable{H:Hp}{m:Ad}{ts:LN}{n:Nat}{a:LN}{b:List Lv}
def RowOf.due(M:Mach H m ts n)(R:RowOf ts n a b){i:Nat}{L:Lv}(e:b[i]? =some L):Due ts ((b.map (·.c)).drop i) L.c:=by
 refine ON R.od (Jc ts _) (J0 R.ff) (λc g d h r=>?_) i L.c (by rw[cV,e];rfl);exact A8 M (R.ff.inU M (dP.mp (iD g).2.2.1).1) r
def RowOf.in_drop{i j:Nat}{L:Lv}(h:i<=j)(e:b[j]? =some L):L.c∈(b.map (·.c)).drop i:=by
 refine cY (i:=j-i) ?_;rw[zg,cV,show i+(j-i)=j by lia,e];rfl
def RowOf.len_le(M:Mach H m ts n)(R:RowOf ts n a b){i j:Nat}{L c:Lv}(h:i<=j)(e:b[i]? =some L)(d:b[j]? =some c){x y:cz}(g:x∈L.c)(k:y∈c.c):y.length<=x.length:=by
 rw[HW M R.ff (R.ok L (cY e)).p.cls g,HW M R.ff (R.ok c (cY d)).p.cls k];exact(R.due M e).most _ (RowOf.in_drop h d)
def F5(M:Mach H m ts n)(R:RowOf ts n a b){i:Nat}{L:Lv}(e:b[i]? =some L){here:cz}(k:here∈a)(l:ux b i here){p:Nat×Nat}(po:PairOk L p):ux b (i+1) (fB ts L here p):=by
 by_cases c:here∈L.c
 .have ok:=R.ok L (cY e);obtain⟨o,q,r,_⟩:=(oN M R.ff).mp (ok.wthn_in M R.ff c po);have lt:=KJ (R.ff.inU M k) (R.ff.inU M o) r q;intro j h s d g;have:=R.len_le M (show j<=i by lia) d e g c;lia
 .have t:fB ts L here p=here:=by unfold fB;rw[wA c]
  rw[t];intro j h s d g;by_cases z:j=i
  .subst z;rw[e]at d;cases d;exact c g
  .exact l j h () d g
def eA(ts:LN)(L:Lv)(here:cz):LN:=tl ts L.us (L.wds.getD (dO L.c here) [])
def LvOk.tls_iff(M:Mach H m ts n)(d:FamOf ts n a){L:Lv}(ok:LvOk ts a L){here:cz}(c:here∈L.c)(y:cz):y∈eA ts L here↔y∈jd a here:=by
 obtain⟨e,g⟩:=iP c;exact Oo M d ok.p g (fF (by rw[ok.p.len];exact e)) y
def E2{L:Lv}{here:cz}(c:here∈L.c)(p:Nat×Nat):fB ts L here p=(eA ts L here).getD (jz L p) []:=by
 unfold fB;rw[wB c];rfl
def pX{L:Lv}{here:cz}:(eA ts L here).length=L.us.length:=by unfold eA tl;rw[List.length_map]
def ig(d:LN)(c:cz):Nat:=(d.map (sub c)).idxOf true
def Eo{d:LN}{c:cz}(h: ∃t∈d,sub c t=true):true∈d.map (sub c)/\ig d c<d.length/\sub c (d.getD (ig d c) [])=true:=by
 obtain⟨t,ht,st⟩:=h;have i:true∈d.map (sub c):=dh.mpr ⟨t,ht,st⟩;have e:ig d c<(d.map (sub c)).length:=uz.mpr i;have g:ig d c<d.length:=by rw[cC]at e;exact e
 have z:(d.map (sub c))[ig d c]? =some true:=by rw[cE e];exact dN some (sw e)
 refine⟨i,g,?_⟩;rw[cV,cE g]at z;rw[eC,cE g];exact gD z
def LvOk.has_tile(M:Mach H m ts n)(d:FamOf ts n a){L:Lv}(ok:LvOk ts a L){here u:cz}(c:here∈L.c)(e:u∈a)(g:u≠here)(s:sub u here=true): ∃t∈eA ts L here,sub u t=true:=by
 obtain⟨t,ht,st⟩:=(qr M d here).all u e g s;exact⟨t,(ok.tls_iff M d c t).mpr ht,st⟩
def LvOk.big_len{L:Lv}(ok:LvOk ts a L){here:cz}(c:here∈L.c):1<here.length/\here∈a:=by
 obtain⟨d,e⟩:=dP.mp ((iD ok.p.cls).2.2.2 here c).1;exact⟨ie e,d⟩
end
structure Al(ps:List (Bool×Nat×Nat))(rs:cz):Prop where
 len:rs.length=ps.length
 lt: ∀(j:Nat) (p:Bool×Nat×Nat) (r:Nat),ps[j]? =some p->rs[j]? =some r->r<p.2.2
def Al.app{g a:List (Bool×Nat×Nat)}{i b:cz}(h:Al g i)(k:Al a b):Al (g++a) (i++b):=by
 refine⟨by rw[dF,dF,h.len,k.len],λj p r d e=>?_⟩;by_cases c:j<g.length
 .rw[fe c]at d;rw[fe (by rw[h.len];exact c)]at e;exact h.lt j p r d e
 .rw[e9 ()]at d;rw[e9 (by rw[h.len];lia),h.len]at e;exact k.lt _ p r d e
theorem Al.one{p:Bool×Nat×Nat}{r:Nat}(h:r<p.2.2):Al [p] [r]:=⟨zZ,λj c d a b=>by
 cases j with
 |zero=>cases a;cases b;exact h
 |succ j=>cases a⟩
def mL(L:Lv)(p:Nat×Nat):cz:=(if 1<L.gs.length then[p.1]else[])++[p.2]
def mZ(a:List Lv)(prs:List (Nat×Nat)):Nat->List Nat
 |0=>[]
 |i+1=>mZ a prs i++(match a[i]?,prs[i]? with|some L,some p=>mL L p|_,_=>[])
def Au(a:List Lv)(prs:List (Nat×Nat)):cz:=mZ a prs a.length
def AY{a:List Lv}{prs:List (Nat×Nat)}{i:Nat}{L:Lv}{p:Nat×Nat}(b:a[i]? =some L)(c:prs[i]? =some p):mZ a prs (i+1)=mZ a prs i++mL L p:=by
 show mZ a prs i++_=_;rw[b,c]
def Na{i:Nat}{L:Lv}{p:Nat×Nat}(po:PairOk L p):Al (iL i L) (mL L p):=by
 unfold iL mL;refine Al.app ?_ (Al.one po.t);by_cases c:1<L.gs.length
 .rw[wB c,wB c];exact Al.one po.g
 .rw[wA c,wA c];exact⟨zZ,λj p r e=>by simp at e⟩
theorem IP{a:List Lv}{prs:List (Nat×Nat)}(d:prs.length=a.length)(po: ∀(i:Nat) (L:Lv) (p:Nat×Nat),a[i]? =some L->prs[i]? =some p->PairOk L p): ∀i,i<=a.length->Al (gX a i) (mZ a prs i)
 |0,_=>⟨zZ,λj p r e=>by simp[gX]at e⟩
 |i+1,h=>by
  have b:=cE (show i<a.length from h);have c:=cE (show i<prs.length by lia);rw[r4 b,AY b c];exact(IP d po i (fQ h)).app (Na (po i _ _ b c))
def Jr{a:List Lv}{prs:List (Nat×Nat)}(b:prs.length=a.length)(po: ∀(i:Nat) (L:Lv) (p:Nat×Nat),a[i]? =some L->prs[i]? =some p->PairOk L p):RowIn a (Au a prs):=let z:=IP b po a.length (cO _);⟨z.len,z.lt⟩
theorem HV{a:List Lv}{prs:List (Nat×Nat)}(d:prs.length=a.length): ∀i,i<=a.length->(mZ a prs i).length=eX a i
 |0,_=>rfl
 | i+1,h=>by
  have b:=cE (show i<a.length from h);have e:=cE (show i<prs.length by lia);rw[AY b e,dF,HV d i (fQ h),wS b];unfold mL;by_cases c:1<(a[i]'h).gs.length
  .rw[wB c,wB c];rfl
  .rw[wA c,wA c];rfl
def z8{H:Hp}{m:Ad}{a:LN}{n:Nat}(M:Mach H m a n){x:cz}(h:x∈eK n):x.length<=5:=dL (ud M.n5 h) M.n5
inductive jb(C:Ad)(d:List V)(H:Hp)(Q:VK)(b:XK):Prop|mk:∀(q h e m:Ad) (c:LN) (L:Lv) (here a:cz),d=[.ref q,.ref h,.ref e]->StepAt C H q m c L->H h=some (.tup (here.map nv))->H e=some (.tup (a.map nv))->here∈L.c->L.c.Nodup->L.wds.length=L.c.length->L.us.length<=32->a.length<=5->(∃t∈eA c L here,sub a t=true)->(∀g,Same H g->Q (nv (ig (eA c L here) a)) g)->jb C d H Q b
def Pz{C:Ad}(F:Fun K vO "LevelParts.least_tile" zF f fd)(M2:OwnC K C [sA,sI,sJ,sS,sQ])(T:dE P w K mg base uY 1 [uE,tG] jy):FnOk P w K mg base de 3 f fd [sC,sZ,sB] (jb C):=by
 refine F.ok Mx (λU A o s H vs Q E r h=>?_)
 obtain⟨q,h,Y,m,j,L,here,a,rfl,⟨dx,g,t,u,gr,h1,h2,h3,⟨as,t1,t2,t3⟩,_⟩,hh,x,c,nd,wl,few,r5,ex,k⟩:=h;have hu:=r.units;have y:=jq r;refine⟨_,(cU (dG (hE hV vv vw Lu (gW (CompSc.to (N:=[sC,sZ,sB]) (osc:=cZ zF) (vs:=[tW]) {}) zZ zZ (iT (og y (iB (pv 0) zZ) (pv 1) (λ_ _=>rfl))) (λ_ _ _ _=>i3) (λ_ _ _ _=>(dH T r.m zZ (c8 (cD (pv 3) (cD (pv 0) db zZ) zZ))))) (cN tj cJ)))),?_⟩;obtain⟨li,ei⟩:=iP c;obtain⟨b,B⟩: ∃b,as[dO L.c here]? =some b:=⟨_,cE ()⟩;have ew:L.wds[dO L.c here]? =some (L.wds.getD (dO L.c here) []):=fF (by rw[wl];exact li);obtain⟨D,G,I⟩:=t3 _ _ _ ew B;have dg:=ph nd t1 hh ei B;have le:=I.len;have lt:(eA j L here).length=L.us.length:=pX;have e:D.length=L.us.length:=by rw[le];exact lt
 refine⟨_,zZ,q,C,dx,_,_,zZ,h1,M2.cl,M2.no,ql,_,zZ,t,_,zZ,dg,b,zZ,⟨_,Q3 G⟩,m7 (xs:=D.map .ref) (λi l n=>Same H n/\l=(((eA j L here).take i).map (sub a)).map V.bl) (by rw[cC];exact small ()) ⟨Same.refl _,zZ⟩ (λi l n _ p=>?_) (λi v l n J p=>?_) (λl n p sg z=>?_)⟩
 .obtain⟨g,rfl⟩:=p;refine⟨Q3 (g _ _ G),?_⟩;rw[cC,cC,fi];exact Nat.min_le_left _ _
 .obtain⟨g,rfl⟩:=p;rw[cV]at J;obtain⟨d,M,rfl⟩:=eU.mp J;obtain⟨u,O⟩: ∃u,(eA j L here)[i]? =some u:=⟨_,cE (by rw[lt,<-e];exact(cP.mp M).1)⟩;refine⟨iO,lB ⟨_,zZ,_,zZ,Y,d,a,u,zZ,g _ _ x,g _ _ (I.is i d u M O),r5,λH2 g2=>⟨g.trans g2,?_⟩⟩⟩;rw[iY,O,eI,eI];rfl
 .obtain⟨g,rfl⟩:=p;rw[cC,e,<-lt,hA];obtain⟨m1,_,_⟩:=Eo ex;have ks:=cM z (.lst (((eA j L here).map (sub a)).map V.bl));refine⟨.inl ⟨zZ,_,Q3 cF⟩,sg,_,zZ,zZ,Q3 cF,m1,k _ (g.trans ks)⟩
def ft(a:LN)(L:Lv)(here:cz)(l:Nat):cz:=(eA a L here).map λu=>dO (eA a L (cI a here l)) (cI a u l)
def eQ(b:LN)(L:Lv)(here a:cz)(l:Nat):cz×Option Nat:=
 if a∈L.c then(if here∈L.c/\cI b here l=a then(ft b L here l,none)else(List.range L.us.length,some (ig (eA b L a) (cI b here l))))else(List.range L.us.length,none)
def mv(L:Lv)(d:cz×Option Nat)(a:Nat):Nat:=L.gs.idxOf (eF (L.gs.getD a []) d.1)
def yM(L:Lv)(d:cz×Option Nat)(a b:Nat):Nat:=match d.2 with
 |none=>b
 |some j=>(L.gs.getD a []).idxOf j
def iI(L:Lv)(d:cz×Option Nat)(p:Nat×Nat):Nat×Nat:=(mv L d p.1,yM L d p.1 p.2)
section
variable{H:Hp}{m:Ad}{ts:LN}{n:Nat}{d:LN}{f:List Lv}{L:Lv}
def Ax{l:Nat}(a:l<ts.length): ∀z∈[l],z<ts.length:=λz b=>by rw[dw.mp b];exact a
def LvOk.tls_nd(M:Mach H m ts n)(g:FamOf ts n d)(ok:LvOk ts d L){here:cz}(c:here∈L.c):(eA ts L here).Nodup:=by
 obtain⟨k,l⟩:=iP c;obtain⟨p,h⟩:=ok.p.bij M g l (fF (by rw[ok.p.len];exact k));unfold eA tl;rw[List.Nodup,wG];refine Dh (λ{a b} i j o e=>o ?_) (wq M g ok.p);rw[ok.p.tl]at i j;obtain⟨q,_,r,_⟩:=(oN M g).mp i;obtain⟨s,_,t,_⟩:=(oN M g).mp j;rw[<-h.back M (g.inU M q) r,<-h.back M (g.inU M s) t,e]
def yS{here:cz}{j:Nat}{u:cz}(e:L.us[j]? =some u):(eA ts L here)[j]? =some (dv (cI ts) u (L.wds.getD (dO L.c here) [])):=by
 unfold eA tl;rw[cV,e];rfl
def LvOk.trn_eq(M:Mach H m ts n)(e:FamOf ts n d)(ok:LvOk ts d L){here:cz}{l:Nat}(g:cI ts here l∈L.c){a:cz}(h:ke ts L.us (L.wds.getD (dO L.c here) []) (L.wds.getD (dO L.c (cI ts here l)) []) l a):a=ft ts L here l:=by
 obtain⟨q,i⟩:=h;refine oj λj=>?_;by_cases k:j<L.us.length
 .have b:=cE k;have c:=cE (show j<a.length by lia);obtain⟨r,o,p⟩:=i j _ _ b c;unfold ft;rw[cV,yS b,c];exact dN some (u9 (ok.tls_nd M e g) (j:=a[j]) (by rw[yS o,p])).symm
 .have s:(ft ts L here l).length=L.us.length:=by unfold ft;rw[List.length_map,pX]
  rw[j4 (),j4 ()]
def LvOk.trn_by(M:Mach H m ts n)(e:FamOf ts n d)(ok:LvOk ts d L){here:cz}{l:Nat}(g:l<ts.length)(h:here∈L.c)(i:cI ts here l∈L.c):ke ts L.us (L.wds.getD (dO L.c here) []) (L.wds.getD (dO L.c (cI ts here l)) []) l (ft ts L here l):=by
 obtain⟨k,o⟩:=iP h;obtain⟨p,q⟩:=iP i;have r:=fF (show dO L.c here<L.wds.length by rw[ok.p.len];exact k);have s:=fF (show dO L.c (cI ts here l)<L.wds.length by rw[ok.p.len];exact p);refine⟨by unfold ft;rw[List.length_map,pX],λj u t c a=>?_⟩;unfold ft at a;rw[cV,yS c]at a;have a:dO (eA ts L (cI ts here l)) (cI ts (dv (cI ts) u (L.wds.getD (dO L.c here) [])) l)=t:=gD a;have v:cI ts (dv (cI ts) u (L.wds.getD (dO L.c here) [])) l∈eA ts L (cI ts here l):=Fj M e ok.p o r g q s (cY c);obtain⟨A,b⟩:=iP v;rw[a]at b;unfold eA tl at b;rw[cV]at b;obtain⟨x,y,z⟩:=eU.mp b;exact⟨x,y,z⟩
def LvOk.trn_gs(M:Mach H m ts n)(e:FamOf ts n d)(ok:LvOk ts d L){here:cz}{l:Nat}(a:l<ts.length)(b:here∈L.c)(c:cI ts here l∈L.c){g:cz}(h:g∈L.gs):eF g (ft ts L here l)∈L.gs:=by
 obtain⟨i,j⟩:=iP b;obtain⟨k,o⟩:=iP c;exact(ok.g.mem _).mpr (.step ((ok.g.mem g).mp h) ⟨_,l,_,here,_,_,j,fF (by rw[ok.p.len];exact i),a,o,fF (by rw[ok.p.len];exact k),ok.trn_by M e a b c⟩)
def F6(M:Mach H m ts n)(a:FamOf ts n d){x:cz}(b:x∈d){l:Nat}(c:l<ts.length):cI ts x l∈d:=D6 M a (w:=[l]) b (Ax c)
def zL{a:LN}{g:cz}(h:g∈a):a.idxOf g<a.length/\a.getD (a.idxOf g) []=g:=by
 have l:=uz.mpr h;refine⟨l,?_⟩;rw[eC,cE l];exact sw l
def O9{a:cz}{g:Nat}(h:g∈a):a.idxOf g<a.length/\a.getD (a.idxOf g) 0=g:=by
 have l:=uz.mpr h;refine⟨l,?_⟩;rw[eC,cE l];exact sw l
def LvOk.still(M:Mach H m ts n)(b:FamOf ts n d)(ok:LvOk ts d L){a:Nat}(h:a<L.gs.length):eF (L.gs.getD a []) (List.range L.us.length)=L.gs.getD a []:=Kj λr c=>f'.mp ((ok.pm M b (cY (fF h))).mem_iff.mp c)
def LvOk.idx_still(M:Mach H m ts n)(b:FamOf ts n d)(ok:LvOk ts d L){a:Nat}(h:a<L.gs.length):L.gs.idxOf (eF (L.gs.getD a []) (List.range L.us.length))=a:=by
 rw[ok.still M b h];obtain⟨l,e⟩:=zL (cY (fF h));exact(jx l ok.nd).mp ((fF l).trans (by rw[e];exact(fF h).symm))
def FV(M:Mach H m ts n)(R:RowOf ts n d f){i:Nat}(e:f[i]? =some L){here:cz}{l:Nat}(r:l<ts.length)(h:here∈d)(s:ux f i here)(k:cI ts here l∈L.c):here∈L.c:=by
 have ok:=R.ok L (cY e);have o:Rch ts here (cI ts here l):=⟨[l],Ax r,zZ⟩;have y:=A8 M (R.ff.inU M h) (cL.mpr o);have A:=(ok.big_len k).1;obtain⟨t,a,b⟩:=Pd (ts:=ts) (dP.mpr ⟨h,eJ (show 1<here.length by lia)⟩);obtain⟨c,u,rfl⟩:=dh.mp (IW R.od t a);obtain⟨j,p⟩:=gA.mp u;by_cases g:j<i
 .exact wC b (s j c g p)
 .by_cases q:c.c=L.c
  .rw[<-q];exact b
  .have z:=(R.due M e).free c.c (RowOf.in_drop () p) q;have v:=((iD a).2.2.2 here b).2.1;have x:=((iD ok.p.cls).2.2.2 _ k).2.2;rw[cL.mpr ((v.trans o).trans x)]at z;cases z
def Br(M:Mach H m ts n)(R:RowOf ts n d f){i:Nat}(e:f[i]? =some L){here a:cz}{l:Nat}(b:l<ts.length)(c:here∈d)(h:ux f i here)(s:sub (cI ts here l) a=true)(g:a∈L.c)(no: ¬(here∈L.c/\cI ts here l=a)): ∃t∈eA ts L a,sub (cI ts here l) t=true:=by
 refine(R.ok L (cY e)).has_tile M R.ff g (F6 M R.ff c b) (λz=>no ⟨?_,z⟩) s;exact FV M R e b c h (by rw[z];exact g)
def LvOk.wthn_sub(M:Mach H m ts n)(a:FamOf ts n d)(ok:LvOk ts d L){here:cz}{p:Nat×Nat}(po:PairOk L p):sub (fB ts L here p) here=true:=by
 by_cases c:here∈L.c
 .exact((oN M a).mp (ok.wthn_in M a c po)).2.2.1
 .unfold fB;rw[wA c];exact cX.mpr λr b=>b
def xw(M:Mach H m ts n)(R:RowOf ts n d f){i:Nat}(e:f[i]? =some L){here a:cz}{l:Nat}{p:Nat×Nat}(po:PairOk L p)(o:l<ts.length)(t:here∈d)(C:ux f i here)(tf:a∈d)(s:sub (cI ts here l) a=true):
  PairOk L (iI L (eQ ts L here a l) p)/\sub (cI ts (fB ts L here p) l) (fB ts L a (iI L (eQ ts L here a l) p))=true/\eF (L.gs.getD p.1 []) (eQ ts L here a l).1∈L.gs/\(∀j,(eQ ts L here a l).2=some j->j∈L.gs.getD p.1 []):=by
 have ok:=R.ok L (cY e);have D:=fF po.g;have mg:=cY D;have pm:=ok.pm M R.ff mg;have gl:(L.gs.getD p.1 []).length=L.us.length:=by rw[pm.length_eq,iU]
 have E:=ok.wthn_fam M R.ff t po;have mono:sub (cI ts (fB ts L here p) l) (cI ts here l)=true:=zc M (R.ff.inU M E) (R.ff.inU M t) (Ax o) (ok.wthn_sub M R.ff po);by_cases b:a∈L.c
 .by_cases c:here∈L.c/\cI ts here l=a
  .obtain⟨c,u⟩:=c;have h:eQ ts L here a l=(ft ts L here l,none):=by unfold eQ;rw[wB b,wB ⟨c,u⟩]
   rw[h];have k:cI ts here l∈L.c:=by rw[u];exact b
   have v:=ok.trn_gs M R.ff o c k mg;obtain⟨G,I⟩:=zL v;refine⟨⟨G,po.t⟩,?_,v,λj z=>nomatch z⟩;have g:jz L (iI L (ft ts L here l,none) p)=(ft ts L here l).getD (jz L p) 0:=by
    show(L.gs.getD (L.gs.idxOf (eF (L.gs.getD p.1 []) (ft ts L here l))) []).getD p.2 0=_;rw[I];unfold eF;rw[eC,cV,dy (by rw[gl];exact po.t)];rfl
   have w:=ok.wok M R.ff po;obtain⟨J,N⟩:=ok.trn_by M R.ff o c k;have x:=fF w.g3;have O:(ft ts L here l)[jz L p]? =some ((ft ts L here l).getD (jz L p) 0):=dy (by rw[J];exact w.g3);obtain⟨Q,T,U⟩:=N _ _ _ x O;have Y:fB ts L here p=dv (cI ts) (L.us.getD (jz L p) []) (L.wds.getD (dO L.c here) []):=by rw[E2 c,eC,yS x];rfl
   have a2:fB ts L a (iI L (ft ts L here l,none) p)=dv (cI ts) Q (L.wds.getD (dO L.c (cI ts here l)) []):=by rw[E2 b,g,eC,yS T,u];rfl
   rw[Y,a2,U];exact cX.mpr λr hr=>hr
  .have h:eQ ts L here a l=(List.range L.us.length,some (ig (eA ts L a) (cI ts here l))):=by unfold eQ;rw[wB b,wA c]
   rw[h];obtain⟨_,y,st⟩:=Eo (Br M R e o t C s b c);rw[pX]at y;have A:ig (eA ts L a) (cI ts here l)∈L.gs.getD p.1 []:=pm.mem_iff.mpr (f'.mpr y);obtain⟨B,j2⟩:=O9 A;have q:mv L (List.range L.us.length,some (ig (eA ts L a) (cI ts here l))) p.1=p.1:=ok.idx_still M R.ff po.g;refine⟨⟨by show mv L _ p.1<_;rw[q];exact po.g,by rw[gl]at B;exact B⟩,?_,by show eF _ (List.range L.us.length)∈_;rw[ok.still M R.ff po.g];exact mg,λj z=>by cases z;exact A⟩;have g:jz L (iI L (List.range L.us.length,some (ig (eA ts L a) (cI ts here l))) p)=ig (eA ts L a) (cI ts here l):=by
    show(L.gs.getD (mv L _ p.1) []).getD ((L.gs.getD p.1 []).idxOf _) 0=_;rw[q,j2]
   rw[E2 b,g];exact BV mono st
 .have h:eQ ts L here a l=(List.range L.us.length,none):=by unfold eQ;rw[wA b]
  rw[h];have q:mv L (List.range L.us.length,none) p.1=p.1:=ok.idx_still M R.ff po.g;have en:iI L (List.range L.us.length,none) p=p:=Prod.ext q rfl;rw[en];refine⟨po,?_,by show eF _ (List.range L.us.length)∈_;rw[ok.still M R.ff po.g];exact mg,λj z=>nomatch z⟩;have ew:fB ts L a p=a:=by unfold fB;rw[wA b]
  rw[ew];exact BV mono s
end
def gw(ts:LN)(n:Nat)(Ls:List Lv)(prs:List (Nat×Nat))(l:Nat):Nat->List Nat
 |0=>List.range n
 |i+1=>match Ls[i]?,prs[i]? with
  |some L,some p=>fB ts L (gw ts n Ls prs l i) (iI L (eQ ts L (ge ts n Ls prs i) (gw ts n Ls prs l i) l) p)
  |_,_=>gw ts n Ls prs l i
def lA(a:LN)(n:Nat)(b:List Lv)(prs:List (Nat×Nat))(l:Nat):Nat->List (Nat×Nat)
 |0=>[]
 |i+1=>lA a n b prs l i++(match b[i]?,prs[i]? with
  |some L,some p=>[iI L (eQ a L (ge a n b prs i) (gw a n b prs l i) l) p]
  |_,_=>[])
def xm(c:LN)(n:Nat)(a:List Lv)(b:cz)(l:Nat):cz:=Au a (lA c n a (fT a b) l a.length)
section
variable{H:Hp}{m:Ad}{ts:LN}{n:Nat}{fam:LN}{Ls:List Lv}{prs:List (Nat×Nat)}{l i:Nat}{L:Lv}{p:Nat×Nat}
def DM(a:Ls[i]? =some L)(b:prs[i]? =some p):gw ts n Ls prs l (i+1)=fB ts L (gw ts n Ls prs l i) (iI L (eQ ts L (ge ts n Ls prs i) (gw ts n Ls prs l i) l) p):=by
 show(match Ls[i]?,prs[i]? with|some L,some p=>_|_,_=>_)=_;rw[a,b]
def D8(a:Ls[i]? =some L)(b:prs[i]? =some p):lA ts n Ls prs l (i+1)=lA ts n Ls prs l i++[iI L (eQ ts L (ge ts n Ls prs i) (gw ts n Ls prs l i) l) p]:=by
 show lA ts n Ls prs l i++_=_;rw[a,b]
theorem rk(a:prs.length=Ls.length): ∀{i:Nat},i<=Ls.length->(lA ts n Ls prs l i).length=i
 |0,_=>rfl
 |i+1,h=>by
  rw[D8 (cE h) (cE (show i<prs.length by lia)),dF,rk a (fQ h)];rfl
def D'(b:prs.length=Ls.length)(c:Ls[i]? =some L)(d:prs[i]? =some p):(lA ts n Ls prs l Ls.length)[i]? =some (iI L (eQ ts L (ge ts n Ls prs i) (gw ts n Ls prs l i) l) p):=by
 have a:=(cP.mp c).1;obtain⟨r,z⟩:=wN (t:=lA ts n Ls prs l) (λi=>⟨_,zZ⟩) (show i+1<=Ls.length from a);rw[z,D8 c d,fO,e9 (by rw[rk b (fQ a)];exact cO _),rk b (fQ a),nG];rfl
structure Both(ts fam:LN)(Ls:List Lv)(l i:Nat)(here there:cz):Prop where
 hf:here∈fam
 hp:ux Ls i here
 tf:there∈fam
 tp:ux Ls i there
 s:sub (cI ts here l) there=true
theorem yf(M:Mach H m ts n)(R:RowOf ts n fam Ls)(o:prs.length=Ls.length)(po: ∀(i:Nat) (L:Lv) (p:Nat×Nat),Ls[i]? =some L->prs[i]? =some p->PairOk L p)(c:l<ts.length): ∀i,i<=Ls.length->Both ts fam Ls l i (ge ts n Ls prs i) (gw ts n Ls prs l i)
 |0,_=>by
  refine⟨D4 R.ff,λj L d=>wC d (tq j),D4 R.ff,λj L d=>wC d (tq j),?_⟩;exact cX.mpr λr q=>f'.mpr ((cG.mp (R.ff.inU M (F6 M R.ff (D4 R.ff) c))).2 r q)
 |i+1,h=>by
  have b:=yf M R o po c i (fQ h);have a:=cE (show i<Ls.length from h);have e:=cE (show i<prs.length by lia);have g:=po i _ _ a e;obtain⟨k,s,_,_⟩:=xw M R a g c b.hf b.hp b.tf b.s;have ok:=R.ok _ (cY a);rw[DB a e,DM a e];exact⟨ok.wthn_fam M R.ff b.hf g,F5 M R a b.hf b.hp g,ok.wthn_fam M R.ff b.tf k,F5 M R a b.tf b.tp k,s⟩
def Po(M:Mach H m ts n)(R:RowOf ts n fam Ls)(c:prs.length=Ls.length)(po: ∀(i:Nat) (L:Lv) (p:Nat×Nat),Ls[i]? =some L->prs[i]? =some p->PairOk L p)(d:l<ts.length)(i:Nat)(L:Lv)(q:Nat×Nat)(a:Ls[i]? =some L)(e:(lA ts n Ls prs l Ls.length)[i]? =some q):PairOk L q:=by
 have h:=(cP.mp a).1;have g:=cE (show i<prs.length by lia);rw[D' c a g]at e;cases e;have b:=yf M R c po d i (fQ h);exact(xw M R a (po i _ _ a g) d b.hf b.hp b.tf b.s).1
def NO(M:Mach H m ts n)(R:RowOf ts n fam Ls){row:cz}(a:RowIn Ls row)(b:l<ts.length):RowIn Ls (xm ts n Ls row l):=Jr (rk (nh (cO _)) (cO _)) (Po M R (nh (cO _)) (a.po M R) b)
end
def zN(x:cz):Zs:=x.map λr=>((r:Nat):Int)
def OM{x:cz}{i:Int}:i∈zN x↔ ∃r∈x,((r:Nat):Int)=i:=dh
def nX{x:cz}{r:Nat}:((r:Nat):Int)∈zN x↔r∈x:=by
 rw[OM];exact⟨λ⟨a,h,e⟩=>by rwa[<-zb e],λh=>⟨r,h,zZ⟩⟩
theorem DX{r:Nat}: ∀{x:cz},(zN x).idxOf ((r:Nat):Int)=x.idxOf r
 | []=>rfl
 | a::x=>by
  show(((a:Nat):Int)::zN x).idxOf ((r:Nat):Int)=_;rw[List.idxOf_cons,List.idxOf_cons,DX];have e:(((a:Nat):Int)==((r:Nat):Int))=(a==r):=by
   rw[lH,oO,oO];exact⟨λh=>by lia,λh=>by lia⟩
  rw[e]
def DeedAt(H:Hp)(r:Ad)(d:cz×Option Nat):Prop:= ∃(a:Ad) (v:V),H r=some (.tup [.ref a,v])/\H a=some (.tup (d.1.map nv))/\v=(match d.2 with|none=> .non|some j=>nv j)
def DeedAt.same{H b:Hp}{r:Ad}{d:cz×Option Nat}(h:DeedAt H r d)(g:Same H b):DeedAt b r d:=let⟨a,v,c,e,i⟩:=h;⟨a,v,g _ _ c,g _ _ e,i⟩
inductive jo(C:Ad)(K:Q5)(g:List V)(H:Hp)(Q:VK)(d:XK):Prop|mk:∀(q h t m:Ad) (b:LN) (n:Nat) (c:LN) (L:Lv) (here a:cz) (l:Nat),g=[.ref q,.ref h,.ref t,nv l]->StepAt C H q m b L->Mach H m b n->FamOf b n c->LvOk b c L->H h=some (.tup (here.map nv))->H t=some (.tup (a.map nv))->here∈c->l<b.length->((a∈L.c-> ¬(here∈L.c/\cI b here l=a)-> ∃t∈eA b L a,sub (cI b here l) t=true))->(∀r e,Same H e->DeedAt e r (eQ b L here a l)->Q (.ref r) e)->jo C K g H Q d
inductive fM(C:Ad)(c:List V)(H:Hp)(Q:VK)(b:XK):Prop|mk:∀(q e m:Ad) (h:LN) (L:Lv) (d:cz×Option Nat) (a:Nat),c=[.ref q,.ref e,nv a]->StepAt C H q m h L->DeedAt H e d->a<L.gs.length->(∀x∈L.gs.getD a [],x<d.1.length)->(L.gs.getD a []).length<=1000->eF (L.gs.getD a []) d.1∈L.gs->(∀g,Same H g->Q (nv (mv L d a)) g)->fM C c H Q b
inductive fK(C:Ad)(e:List V)(H:Hp)(Q:VK)(c:XK):Prop|mk:∀(q g m:Ad) (h:LN) (L:Lv) (d:cz×Option Nat) (a b:Nat),e=[.ref q,.ref g,nv a,nv b]->StepAt C H q m h L->DeedAt H g d->a<L.gs.length->((∀j,d.2=some j->j∈L.gs.getD a []))->Q (nv (yM L d a b)) H->fK C e H Q c
inductive jm(C:Ad)(c:List V)(H:Hp)(Q:VK)(a:XK):Prop|mk:∀(q e g m:Ad) (h:LN) (L:Lv) (d:cz×Option Nat) (p:Nat×Nat),c=[.ref q,.ref e,.ref g]->StepAt C H q m h L->DeedAt H e d->H g=some (.tup [nv p.1,nv p.2])->p.1<L.gs.length->(∀x∈L.gs.getD p.1 [],x<d.1.length)->(L.gs.getD p.1 []).length<=1000->eF (L.gs.getD p.1 []) d.1∈L.gs->((∀j,d.2=some j->j∈L.gs.getD p.1 []))->(∀t b,Same H b->b t=some (.tup [nv (iI L d p).1,nv (iI L d p).2])->Q (.ref t) b)->jm C c H Q a
def D2{a:LN}{g:cz}: ∀i,i<a.idxOf g->a[i]? ≠some g:=λi b e=>by
 have y:=CB (p:=(· ==g)) (xs:=a) (i:=i) b;obtain⟨d,c⟩:=cP.mp e;rw[c,yW]at y;cases y
def OG{C:Ad}(F:Fun K "deed_of" "LevelParts.deed_of" Er f fd)(M2:OwnC K C [sA,sI,sJ,sS,sQ])(jK:dE P w K mg base tY 3 [sA,sB,tN] (dQ K))(jT:gq P w K mg base C vO 3 [sC,sZ,sB] (jb C)):FnOk P w K mg base de 5 f fd [sC,sZ,uK,sK] (jo C K):=by
 refine F.ok kE (λal A aa s H vs Q E hr h=>?_)
 obtain⟨q,h,th,m,d,n,am,L,here,a,l,rfl,SA,M,J,ok,hh,ht,hf,hl,ext,k⟩:=h;have hu:=hr.units;have B:=jq hr;obtain⟨x,g,t,u,gr,y,h2,h3,⟨as,t1,t2,t3⟩,ab,u1,u2,u3⟩:=id SA;have nd:=ok.p.nd J;have e0:=ok.first M J;obtain⟨g0,N⟩: ∃g0,gr[0]? =some g0:=⟨_,cE (by rw[h3.len];exact(cP.mp e0).1)⟩;have D:=h3.is 0 g0 _ N e0;have hU:=J.inU M hf;have x5:=z8 M hU;have xn:=(cG.mp hU).2;refine⟨_,(cQ (dj (i:=4) kE.nd zZ (Or.inl zZ) (cW fX (iB (pv 0) zZ) cR (λ_ _=>rfl))) (cQ (gk (oB (AW B (pv 2) (iB (pv 0) zZ))) (cU (dG (jg (c8 (cD (pv 4) (cD vT db zZ) zZ))))) gO) (cQ (dj (i:=5) kE.nd zZ (Or.inl zZ) (dH jK hr.m zZ (c8 (cD (iB (pv 0) zZ) (cD (pv 1) (cD (gI (cN (pv 3) cJ)) db zZ) zZ) zZ)))) (cQ (gk (PW.pt (uo (oB (uy B (pv 1) (iB (pv 0) zZ))) (wj (gB (tD hu) (pv 5) (pv 2) (fY _))))) (cU (dG (jg (c8 (cD (cW fX (og B (iB (pv 0) zZ) (pv 1) (λ_ _=>rfl)) (pv 3) (λ_ _=>rfl)) (cD vT db zZ) zZ))))) gO) (cU (dG (jg (c8 (cD (pv 4) (cD (mM (pv 0) M2.cl jT hr.m (c8 (cD (pv 2) (cD (pv 5) db zZ) zZ))) db zZ) zZ))))))))),?_⟩;refine⟨_,zZ,q,C,x,_,_,zZ,y,M2.cl,M2.no,sd,g,_,_,_,zZ,zZ,Q3 h2,(gF (j:=0) (v:= .ref g0) (by rw[cV,N];rfl):lF _ ((0:Nat):Int)=_),?_⟩;by_cases o:a∈L.c
 .obtain⟨li,ei⟩:=iP o;obtain⟨b,eb⟩: ∃b,as[dO L.c a]? =some b:=⟨_,cE ()⟩;refine⟨_,zZ,_,zZ,q,C,x,_,_,zZ,y,M2.cl,M2.no,ql,t,_,zZ,ph nd t1 ht ei eb,_,zZ,fq ?_⟩;refine⟨_,zZ,q,C,x,_,_,zZ,y,M2.cl,M2.no,yG,_,zZ,_,zZ,by show 1<=sizeLine;decide,λp1 ae=>?_⟩;have kp:=cM ae (.lst [nv l]);refine⟨m,h,p1,d,n,here,[l],zZ,M.same kp,Q4 (kp _ _ hh),x5,xn,Q3 cF,Ax hl,λen H2 O e2=>?_⟩;have c:=kp.trans O;have G:H2 en=some (.tup ((cI d here l).map nv)):=e2;clear e2 O kp;by_cases T:here∈L.c
  .obtain⟨lh,eh⟩:=iP T;obtain⟨bh,af⟩: ∃b,as[dO L.c here]? =some b:=⟨_,cE ()⟩;refine⟨_,zZ,_,zZ,q,C,x,_,_,zZ,c _ _ y,M2.cl,M2.no,ql,t,_,zZ,ph nd (c _ _ t1) (c _ _ hh) eh af,_,zZ,fH ?_⟩;refine⟨_,zZ,_,zZ,en,th,0,_,_,zZ,zZ,iX (Q4 G),iX (Q4 (c _ _ ht)),by decide,λcc hc=>⟨_,zZ,?_⟩⟩;have ag:cc=decide (cI d here l=a):=by
    rw[lH,vV,<-dC];exact hc
   subst ag;by_cases I:cI d here l=a
   .rw[eJ I];refine fH ?_;obtain⟨b2,U⟩: ∃b,ab[dO L.c here]? =some b:=⟨_,cE ()⟩;have ew:=fF (show dO L.c here<L.wds.length by rw[ok.p.len];exact lh);obtain⟨vs,v1,v2,v3⟩:=u3 _ _ _ _ eh ew U;obtain⟨v,ev⟩: ∃v,vs[l]? =some v:=⟨_,cE ()⟩
    rcases v3 l v ev with⟨no,_⟩|⟨pj,js,k',ah,rfl,ep,ek,ai,tb⟩
    .exact wC (by rw[I];exact o) no
    have aj:k'=dO L.c (cI d here l):=(u9 nd ek).symm;subst aj;have ak:ah=L.wds.getD (dO L.c (cI d here l)) []:=by rw[eC,ai];rfl
    subst ak;have ej:=ok.trn_eq M J (by rw[I];exact o) tb;subst ej;refine⟨_,zZ,q,C,x,_,_,zZ,c _ _ y,M2.cl,M2.no,yk,_,zZ,u,_,zZ,ph nd (c _ _ u1) (c _ _ hh) eh U,_,zZ,b2,_,_,_,zZ,zZ,Q3 (c _ _ v1),gF ev,by show 2<=sizeLine;decide,λr e=>?_⟩;have p:=cM e (.tup [.ref pj,.non]);refine k r _ (c.trans p) ⟨pj,.non,cF,?_,?_⟩
    .rw[p _ _ (c _ _ ep)];unfold eQ;rw[wB o,wB ⟨T,I⟩]
    .unfold eQ;rw[wB o,wB ⟨T,I⟩]
   .rw[fy I];refine fq ?_;have no: ¬(here∈L.c/\cI d here l=a):=λz=>I z.2
    have ed:eQ d L here a l=(List.range L.us.length,some (ig (eA d L a) (cI d here l))):=by unfold eQ;rw[wB o,wA no]
    refine⟨_,zZ,_,zZ,q,x,_,zZ,c _ _ y,(by kernel_rfl),_,zZ,_,zZ,q,th,en,m,d,L,a,cI d here l,zZ,SA.keeps c.keeps,c _ _ ht,G,o,nd,ok.p.len,(ok.p.inU M J).2,z8 M (vc M hU hl),ext o no,λH3 Y=>⟨by show 2<=sizeLine;decide,λr e=>?_⟩⟩;have p:=cM e (.tup [.ref g0,nv (ig (eA d L a) (cI d here l))]);rw[ed]at k;exact k r _ ((c.trans Y).trans p) ⟨g0,_,cF,p _ _ ((c.trans Y) _ _ D),zZ⟩
  .refine⟨_,zZ,_,zZ,q,C,x,_,_,zZ,c _ _ y,M2.cl,M2.no,ql,t,_,zZ,sj (c _ _ t1) (c _ _ hh) T,_,zZ,fq (fq ?_)⟩
   .have no: ¬(here∈L.c/\cI d here l=a):=λz=>T z.1;have ed:eQ d L here a l=(List.range L.us.length,some (ig (eA d L a) (cI d here l))):=by unfold eQ;rw[wB o,wA no]
    refine⟨_,zZ,_,zZ,q,x,_,zZ,c _ _ y,(by kernel_rfl),_,zZ,_,zZ,q,th,en,m,d,L,a,cI d here l,zZ,SA.keeps c.keeps,c _ _ ht,G,o,nd,ok.p.len,(ok.p.inU M J).2,z8 M (vc M hU hl),ext o no,λH3 Y=>⟨by show 2<=sizeLine;decide,λr e=>?_⟩⟩;have p:=cM e (.tup [.ref g0,nv (ig (eA d L a) (cI d here l))]);rw[ed]at k;exact k r _ ((c.trans Y).trans p) ⟨g0,_,cF,p _ _ ((c.trans Y) _ _ D),zZ⟩
 .refine⟨_,zZ,_,zZ,q,C,x,_,_,zZ,y,M2.cl,M2.no,ql,t,_,zZ,sj t1 ht o,_,zZ,fH ?_⟩;refine⟨_,zZ,by show 2<=sizeLine;decide,λr e=>?_⟩;have p:=cM e (.tup [.ref g0,.non]);refine k r _ p ⟨g0,.non,cF,?_,?_⟩
  .rw[p _ _ D];unfold eQ;rw[wA o]
  .unfold eQ;rw[wA o]
def MA{C:Ad}(F:Fun K "turned" "LevelParts.turned" CU f fd)(M2:OwnC K C [sA,sI,sJ,sS,sQ])(I:dE P w K mg base vI 1 [uE,tG] fG):FnOk P w K mg base de 3 f fd [sC,tE,sW] (fM C):=by
 refine F.ok JE (λJ A n s H vs Q E y h=>?_)
 obtain⟨q,M,m,ts,L,d,a,rfl,⟨z,g,t,u,N,B,o,l,_⟩,⟨O,v,T,U,_⟩,D,lt,Y,mem,k⟩:=h;have hu:=y.units;obtain⟨b,c⟩: ∃b,N[a]? =some b:=⟨_,cE (by rw[l.len];exact D)⟩;have p:=l.is a b _ c (fF D);refine⟨_,(cU (dG (hE hV vv vw (xF hu) (iB (pv 0) zZ) (cN (dH I y.m zZ (c8 (cD (cW fX (iB (pv 0) zZ) (pv 2) (λ_ _=>rfl)) (cD (cW dr (pv 1) cR (λ_ _=>rfl)) db zZ) zZ))) cJ)))),?_⟩;refine⟨_,zZ,q,C,z,_,_,zZ,B,M2.cl,M2.no,sd,.inl ⟨zZ,_,Q3 o⟩,_,zZ,q,C,z,_,_,zZ,B,M2.cl,M2.no,sd,_,zZ,g,_,_,_,zZ,zZ,Q3 o,gF (j:=a) (v:= .ref b) (by rw[cV,c];rfl),_,zZ,M,_,_,_,zZ,zZ,Q4 T,zZ,b,O,_,_,zZ,p,U,lt,Y,λr H2 x e2=>?_⟩;obtain⟨G,_⟩:=zL mem;refine⟨g,_,1,.tup (hI (eF (L.gs.getD a []) d.1)),L.gs.map λu=>Dt.tup (hI u),_,L.gs.idxOf (eF (L.gs.getD a []) d.1),zZ,zZ,Q3 (x _ _ o),by rw[cC,cC,l.len],iX (Q4 e2),vp (l.same x),by decide,eW.mpr (by rw[cE G];exact dN some (sw G)),λi hi e=>D2 i hi (eW.mp e),?_⟩;exact k H2 x
def MG{C:Ad}(F:Fun K "brought" "LevelParts.brought" D5 f fd)(M2:OwnC K C [sA,sI,sJ,sS,sQ]):FnOk P w K mg base de 1 f fd [sC,tE,sW,uN] (fK C):=by
 refine F.ok Pc (λx A l s H M Q E y h=>?_)
 obtain⟨q,n,m,N,L,⟨O,z⟩,a,b,rfl,⟨B,g,t,u,D,G,I,p,_⟩,⟨T,v,o,U,rfl⟩,r,mem,k⟩:=h;have Y:=y.units;obtain⟨c,d⟩: ∃c,D[a]? =some c:=⟨_,cE (by rw[p.len];exact r)⟩;have e:=p.is a c _ d (fF r);refine⟨_,(cQ (gk (gB Mu (cW dr (pv 1) cR (λ_ _=>rfl)) vT (fY _)) (cU (dG (pv 3))) gO) (cU (dG (Ix PySem.F.slot_tuple_index PySem.F.type_tuple_index Hf (cW fX (iB (pv 0) zZ) (pv 2) (λ_ _=>rfl)) (cN (cW dr (pv 1) cR (λ_ _=>rfl)) cJ))))),?_⟩;cases z with
 |none=>
  exact⟨_,zZ,n,_,_,_,zZ,zZ,Q4 o,zZ,zZ,_,zZ,fH ⟨_,zZ,k⟩⟩
 |some j=>
  refine⟨_,zZ,n,_,_,_,zZ,zZ,Q4 o,zZ,zZ,_,zZ,fq ?_⟩;refine⟨_,zZ,q,C,B,_,_,zZ,G,M2.cl,M2.no,sd,_,zZ,g,_,_,_,zZ,zZ,Q3 I,gF (j:=a) (v:= .ref c) (by rw[cV,d];rfl),?_⟩;have J:(L.gs.getD a []).map nv=(zN (L.gs.getD a [])).map V.int:=by unfold zN;rw[List.map_map];rfl
  have i:=e;rw[J]at i;refine⟨⟨c,_,zZ,e⟩,_,zZ,n,_,_,_,zZ,zZ,Q4 o,zZ,c,zN (L.gs.getD a []),_,zZ,zZ,Q4 i,nX.mpr (mem j zZ),?_⟩;rw[DX];exact k
def L8{C:Ad}(F:Fun K vC "LevelParts.pair_behind" Cn f fd)(M2:OwnC K C [sA,sI,sJ,sS,sQ])(B:gq P w K mg base C "turned" 3 [sC,tE,sW] (fM C))(D:gq P w K mg base C "brought" 1 [sC,tE,sW,uN] (fK C)):FnOk P w K mg base de 5 f fd [sC,tE,uI] (jm C):=by
 refine F.ok Pa (λG A b s H M Q E l h=>?_)
 obtain⟨q,n,c,m,o,L,d,p,rfl,e,v,i,x,lt,I,mem,J,k⟩:=h;obtain⟨y,g,t,u,N,z,_⟩:=id e;refine⟨_,(cU (dG (jg (c8 (cD (mM (pv 0) M2.cl B l.m (c8 (cD (pv 1) (cD (cW dr (pv 2) cR (λ_ _=>rfl)) db zZ) zZ))) (cD (mM (pv 0) M2.cl D l.m (c8 (cD (pv 1) (cD (cW dr (pv 2) cR (λ_ _=>rfl)) (cD (cW dr (pv 2) cR (λ_ _=>rfl)) db zZ) zZ) zZ))) db zZ) zZ))))),?_⟩;refine⟨_,zZ,q,y,_,zZ,z,(by kernel_rfl),_,zZ,_,zZ,c,_,_,_,zZ,zZ,Q4 i,zZ,q,n,m,o,L,d,p.1,zZ,e,v,x,lt,I,mem,λO a=>?_⟩;refine⟨_,zZ,q,y,_,zZ,a _ _ z,(by kernel_rfl),_,zZ,_,zZ,c,_,_,_,zZ,zZ,Q4 (a _ _ i),zZ,_,zZ,c,_,_,_,zZ,zZ,Q4 (a _ _ i),zZ,q,n,m,o,L,d,p.1,p.2,zZ,e.keeps a.keeps,v.same a,x,J,by show 2<=sizeLine;decide,λr j=>?_⟩;exact k r _ (a.trans (cM j _)) cF
inductive hY(g CR:Ad)(j:List V)(H:Hp)(Q:VK)(d:XK):Prop|mk:∀(p l m:Ad) (o:As) (b:LN) (n:Nat) (e:LN) (a:List Lv) (prs:List (Nat×Nat)) (lt k:Nat),j=[.ref p,.ref l,nv lt]->RowAt g CR H p m b n a->Mach H m b n->RowOf b n e a->H l=some (.lst (o.map .ref))->PairsAt H o (prs.take k)->prs.length=a.length->k<=a.length->((∀(i:Nat) (L:Lv) (p:Nat×Nat),a[i]? =some L->prs[i]? =some p->PairOk L p))->lt<b.length->(∀r h t q s c,Same H c->c r=some (.tup [.ref h,.ref t,.ref q])->c h=some (.tup ((ge b n a prs k).map nv))->c t=some (.tup ((gw b n a prs lt k).map nv))->c q=some (.lst (s.map .ref))->PairsAt c s (lA b n a prs lt k)->Q (.ref r) c)->hY g CR j H Q d
def JX{C CR:Ad}(F:Fun K "walked" "Row.walked" C2 f fd)(M2:OwnC K C [sA,sI,sJ,sS,sQ])(P8:OwnC K CR [sB,tV])(jI:gq P w K mg base C "deed_of" 5 [sC,sZ,uK,sK] (jo C K))(jP:gq P w K mg base C vC 5 [sC,tE,uI] (jm C))(jQ:gq P w K mg base C uR 1 [sC,sZ,uI] (iw C))(rT:mg "zip"=none):FnOk P w K mg base de 7 f fd [sC,uL,sK] (hY C CR):=by
 refine F.ok jO (λao A ai s H vs Q E hr h=>?_)
 obtain⟨p,l,m,as,c,n,aj,D,prs,lt,k,rfl,RA,M,R,el,PA,hl,kl,po,ll,q⟩:=h;have hu:=hr.units;obtain⟨dx,r,st,qs,h1,h2,h3,S⟩:=id RA;have lq:=S.len;have ap:=R.few;have la:as.length=k:=by rw[PA.len,fi];lia
 refine⟨_,(cQ (dj (i:=3) jO.nd zZ (Or.inl zZ) (iB (pv 0) zZ)) (cQ (dj (i:=4) jO.nd zZ (Or.inl zZ) (iB (pv 0) zZ)) (cQ (dj (i:=5) jO.nd zZ (Or.inl zZ) (gI cJ)) (cQ (iH gY zZ (Hj zZ rT (c8 (cD (iB (pv 0) zZ) (cD (pv 1) db zZ) zZ))) (om zZ (iA (fb (i:=6) jO.nd zZ (Or.inl zZ)) (iA (fb (i:=7) jO.nd zZ (Or.inl zZ)) nO))) (cQ (dj (i:=8) jO.nd zZ (Or.inl zZ) (mM (pv 6) M2.cl jP hr.m (c8 (cD (mM (pv 6) M2.cl jI hr.m (c8 (cD (pv 3) (cD (pv 4) (cD (pv 2) db zZ) zZ) zZ))) (cD (pv 7) db zZ) zZ)))) (cQ (dj (i:=3) jO.nd zZ (Or.inl zZ) (mM (pv 6) M2.cl jQ hr.m (c8 (cD (pv 3) (cD (pv 7) db zZ) zZ)))) (cQ (dj (i:=4) jO.nd zZ (Or.inl zZ) (mM (pv 6) M2.cl jQ hr.m (c8 (cD (pv 4) (cD (pv 8) db zZ) zZ)))) (cU (ju (hE hV ko lE ku (pv 5) (cN (pv 8) cJ)))))))) (cU (dG (jg (c8 (cD (pv 3) (cD (pv 4) (cD (pv 5) db zZ) zZ) zZ))))))))),?_⟩;refine⟨_,zZ,p,CR,dx,_,_,zZ,h1,P8.cl,P8.no,HS,?_⟩;refine⟨_,zZ,p,CR,dx,_,_,zZ,h1,P8.cl,P8.no,HS,?_⟩;refine⟨by show 0<=sizeLine;decide,λT aa=>?_⟩;have U:=cM aa (.lst [])
 let Pv:Nat->L2.St->Hp->Prop:=λi σ Y=>Same H Y/\ ∃(h t:Ad) (N:As) (o6 o7 o8:Option V),Y h=some (.tup ((ge c n D prs i).map nv))/\Y t=some (.tup ((gw c n D prs lt i).map nv))/\Y T=some (.lst (N.map .ref))/\PairsAt Y N (lA c n D prs lt i)/\σ=[some (.ref p),some (.ref l),some (nv lt),some (.ref h),some (.ref t),some (.ref T),o6,o7,o8]
 refine⟨_,zZ,p,CR,dx,_,_,zZ,U _ _ h1,P8.cl,P8.no,AC,_,zZ,st,l,_,_,zZ,Q3 (U _ _ h3),Q3 (U _ _ el),FL (xs:=qs.map .ref) (ys:=as.map .ref) Pv ⟨U,r,r,[],_,_,_,U _ _ h2,U _ _ h2,cF,⟨zZ,λi a p e=>by simp at e⟩,zZ⟩ (λi σ Y p=>⟨Q3 (p.1 _ _ h3),Q3 (p.1 _ _ el)⟩) (λi x y Tp σ H1 hx hy nT pv=>?_) (λσ H1 pv=>?_)⟩
 .obtain⟨g1,h,t,N,o6,o7,o8,eh,et,ef,d,rfl⟩:=pv;rw[cV]at hx hy;obtain⟨b,eb,rfl⟩:=eU.mp hx;obtain⟨G,ab,rfl⟩:=eU.mp hy;have li:=(cP.mp eb).1;have lk:=(cP.mp ab).1;obtain⟨L,I⟩: ∃L,D[i]? =some L:=⟨_,cE ()⟩;obtain⟨o,j⟩: ∃o,prs[i]? =some o:=⟨_,cE ()⟩;have ok:=R.ok L (cY I);have J:=yf M R hl po ll i ();have pk:=po i L o I j;obtain⟨n1,n2,n3,n4⟩:=xw M R I pk ll J.hf J.hp J.tf J.s;have le:=d.len;rw[rk hl ()]at le;have kT:=cM nT (.tup [.ref b,.ref G]);have eT:cA H1 Tp (.tup [.ref b,.ref G]) Tp=some (.tup [.ref b,.ref G]):=cF;generalize cA H1 Tp (.tup [.ref b,.ref G])=H2 at kT eT⊢;have g2:=g1.trans kT;have SA:=(S.is i b L eb I).keeps g2.keeps;obtain⟨v,g,tt,u,gr,s1,_⟩:=id SA;have ae:H G=some (.tup [nv o.1,nv o.2]):=PA.is i G o ab (by rw[pG ()];exact j);have pm:=ok.pm M R.ff (cY (fF pk.g));have gl:(L.gs.getD o.1 []).length=L.us.length:=by rw[pm.length_eq,iU]
  have few:=(ok.p.inU M R.ff).2;refine⟨Tp,_,zZ,Q4 eT,zZ,_,_,zZ,_,_,zZ,zZ,?_⟩;refine⟨_,zZ,b,v,_,zZ,s1,(by kernel_rfl),_,zZ,b,v,_,zZ,s1,(by kernel_rfl),_,zZ,_,zZ,_,zZ,b,h,t,m,c,n,aj,L,_,_,lt,zZ,SA,M.same g2,R.ff,ok,kT _ _ eh,kT _ _ et,J.hf,ll,λct no=>Br M R I ll J.hf J.hp J.s ct no,λda H3 z DA=>?_⟩;have g3:=kT.trans z;have ak:=g1.trans g3;have af:=SA.keeps z.keeps;have dl: ∀x∈L.gs.getD o.1 [],x<(eQ c L (ge c n D prs i) (gw c n D prs lt i) lt).1.length:=λx hx=>by
   have xl:x<L.us.length:=f'.mp (pm.mem_iff.mp hx);have ed:(eQ c L (ge c n D prs i) (gw c n D prs lt i) lt).1.length=L.us.length:=by
    unfold eQ;split
    .split
     .show(ft _ _ _ _).length=_;unfold ft;rw[cC,pX]
     .exact iU
    .exact iU
   rw[ed];exact xl
  refine⟨_,zZ,b,da,G,m,c,L,_,o,zZ,af,DA,ak _ _ ae,pk.g,dl,(),n3,n4,λen H4 B e4=>?_⟩;have g4:=g3.trans B;have ag:=g1.trans g4;have ah:=af.keeps B.keeps;refine⟨_,zZ,b,v,_,zZ,(z.trans B) _ _ s1,(by kernel_rfl),_,zZ,_,zZ,b,h,G,m,c,L,_,o,zZ,ah,g4 _ _ eh,ag _ _ ae,ok.wok M R.ff pk,λh' al=>?_⟩;refine⟨_,zZ,b,v,_,zZ,(z.trans B) _ _ s1,(by kernel_rfl),_,zZ,_,zZ,b,t,en,m,c,L,_,_,zZ,ah,g4 _ _ et,e4,ok.wok M R.ff n1,λt' am=>?_⟩;have O:=g4 _ _ ef;refine⟨_,zZ,.inl ⟨zZ,_,Q3 O⟩,_,zZ,T,_,_,zZ,zZ,O,by rw[cC,dz];lia,?_⟩;have lo:mP H4 (cA H4 T (.lst (N.map V.ref++[.ref en]))):=Stays.offL O;refine⟨gR ag aa,h',t',N++[en],_,_,_,?_,?_,by rw[cF,eI];rfl,?_,zZ⟩
  .rw[DB I j];exact lo.a al
  .rw[DM I j];exact lo.a am
  .rw[D8 I j];exact((d.st (lM g4)).st lo).snoc (lo.a e4)
 .obtain⟨g1,h,t,N,o6,o7,o8,eh,et,ef,d,rfl⟩:=pv;have lm:min (qs.map V.ref).length (as.map V.ref).length=k:=by rw[cC,cC,lq,la];lia
  rw[lm]at eh et d;refine⟨_,zZ,_,zZ,_,zZ,by show 3<=sizeLine;decide,λrr an=>?_⟩;have kr:=cM an (.tup [.ref h,.ref t,.ref T]);exact q rr h t T N _ (g1.trans kr) cF (kr _ _ eh) (kr _ _ et) (kr _ _ ef) (d.st (lM kr))
inductive je(K:Q5)(d:List V)(H:Hp)(Q:VK)(b:XK):Prop|mk:∀(m p:Ad) (c:LN) (n l:Nat) (a:cz),d=[.ref m,.ref p,nv l]->Mach H m c n->H p=some (.tup (a.map nv))->a∈eK n->l<c.length->ww H ((cI c a l).map nv) Q->je K d H Q b
def O7(F:Fun K uV uV AE f fd)(B:mg "tuple"=none)(C:mg "sorted"=none)(D:mg "set"=none):FnOk P w K mg base de 1 f fd [sD,sY,sO] (je K):=by
 refine F.ok OB (λG A g s H vs Q E hr h=>?_)
 obtain⟨m,p,d,n,l,c,rfl,M,k,I,u,q⟩:=h;refine⟨_,(cU (dG (iN n6 zZ B mz (cN (fc (Ig zZ) zZ C Ag (cN (iN (FK zZ) zZ D PyProof.Rows.boot_set (cN (gW (CompSc.to (N:=[sD,sY,sO]) (osc:=cZ AE) (vs:=["_law_room"]) {}) zZ zZ (ua (pv 1)) (λ_ _ _ _=>i3) (λ_ _ _ _=>(cW (IxR.k (K:=K) mS dr zZ) (cW (IxR.k (K:=K) mS dr zZ) (pv 1) (pv 3) (λ_ _=>rfl)) (pv 0) (λ_ _=>rfl)))) cJ)) cJ)) cJ)))),?_⟩;have n5:=M.n5;obtain⟨J,y⟩:=cG.mp I;obtain⟨rs,L,O,k2,T,k4,U,k6⟩:=M.at u;refine⟨_,zZ,p,zZ,⟨_,Q4 k⟩,zh (f:=λv=>match v with| .int i=>nv (e7 d i.toNat [l])|v=>v) (by rw[cC,<-J];exact small (by have:=GQ c;lia)) (Q4 k) (λv Q Y q=>?_) (λa ha=>?_)⟩
 .obtain⟨r,j,rfl⟩:=dh.mp Y;exact⟨_,zZ,_,zZ,m,_,_,_,zZ,zZ,Q4 O,T,_,zZ,L,_,_,_,zZ,zZ,Q4 k4,mY (by rw[U];exact y r j),q⟩
 .have e:(c.map nv).map (λv=>match v with| .int i=>nv (e7 d i.toNat [l])|v=>v)=(nJ d c [l]).map nv:=by
   unfold nJ;rw[i4,i4];rfl
  try dsimp only
  rw[e];have g1:=cM ha (.lst ((nJ d c [l]).map nv));refine⟨a,_,zZ,Q3 cF,λx hx=>?_,λb hb=>⟨b,_,zZ,cF,λo ho=>?_⟩⟩
  .obtain⟨r,j,rfl⟩:=dh.mp hx;have:=ou M [l] r (y r j) λz hz=>by rw[dw.mp hz];exact u
   lia
  .try dsimp only
   rw[C0];exact⟨o,_,zZ,.inl ⟨Q3 cF,λt ht=>q t _ (g1.trans ((cM hb _).trans ((cM ho _).trans (cM ht _)))) cF⟩⟩
def SqL.keeps{K:Q5}{H b:Hp}{a:Ad}{xs:List V}(h:SqL K H a xs)(g:Keeps H b):SqL K b a xs:=by
 rcases h with(h|⟨o,h⟩)|h
 .exact .inl (.inl (g _ _ (nU h)))
 .exact .inl (.inr ⟨o,g _ _ (nU h)⟩)
 .exact .inr h
def Hi(word:cz)(k:Nat):jB (word.map nv) none (some (k:Int))=(word.take k).map nv:=by
 unfold jB;rw[HT.sIx_none,HT.sIx_nat,wg,cC,A9,<-List.map_take]
 congr 1
 rw[List.take_eq_take_iff];lia
def Ow{a:cz}{k:Nat}(h:k<=a.length):jB (a.map nv) (some (k:Int)) none=(a.drop k).map nv:=by
 unfold jB;rw[HT.sIx_none,HT.sIx_nat,cC,u0 h,<-List.map_drop,xM (by rw[cC,oD];exact cO _)]
section
variable{ts:LN}{n:Nat}{Ls:List Lv}{prs a:List (Nat×Nat)}{l i j:Nat}{L:Lv}{row row':cz}
def Bm(e:row.take j=row'.take j){k:Nat}(h:k<j):row.getD k 0=row'.getD k 0:=by
 have z:=dN (λx=>x[k]?) e
 try dsimp only at z
 rw[pG h,pG h]at z;rw[eC,eC,z]
theorem EM(e:row.take j=row'.take j): ∀i,i<=Ls.length->eX Ls i<=j->mI Ls row i=mI Ls row' i
 |0,_,_=>rfl
 | i+1,h,g=>by
  have b:=cE (show i<Ls.length from h);have d:=wS b;by_cases c:1<(Ls[i]'h).gs.length
  .rw[wB c]at d;rw[qp b,qp b,EM e i (fQ h) ()];unfold e8;rw[wB c,wB c,Bm e (show eX Ls i<j by lia),Bm e (show eX Ls i+1<j by lia)]
  .rw[wA c]at d;rw[qp b,qp b,EM e i (fQ h) ()];unfold e8;rw[wA c,wA c,Bm e (show eX Ls i<j by lia)]
def Lb(e:row.take j=row'.take j)(b:i<=Ls.length)(d:eX Ls i<=j): ∀k,k<i->(fT Ls row)[k]? =(fT Ls row')[k]? :=λk c=>by
 obtain⟨r,z⟩:=EZ Ls row b;obtain⟨h,g⟩:=EZ Ls row' b;unfold fT;rw[z,g,fe (by rw[nh b];exact c),fe (by rw[nh b];exact c),EM e i b d]
theorem Ce: ∀i,(∀k,k<i->prs[k]? =a[k]?)->ge ts n Ls prs i=ge ts n Ls a i
 |0,_=>rfl
 |i+1,h=>by
  show(match Ls[i]?,prs[i]? with|some L,some p=>fB ts L (ge ts n Ls prs i) p|_,_=>ge ts n Ls prs i)=(match Ls[i]?,a[i]? with|some L,some p=>fB ts L (ge ts n Ls a i) p|_,_=>ge ts n Ls a i);rw[h i (oJ i),Ce i λk b=>h k (qc b)]
theorem Hy: ∀i,(∀k,k<i->prs[k]? =a[k]?)->gw ts n Ls prs l i=gw ts n Ls a l i
 |0,_=>rfl
 |i+1,h=>by
  have c:=Hy i λk b=>h k (qc b);have d:=Ce (ts:=ts) (n:=n) (Ls:=Ls) i λk b=>h k (qc b);show(match Ls[i]?,prs[i]? with|some L,some p=>fB ts L (gw ts n Ls prs l i) (iI L (eQ ts L (ge ts n Ls prs i) (gw ts n Ls prs l i) l) p)|_,_=>gw ts n Ls prs l i)=(match Ls[i]?,a[i]? with|some L,some p=>fB ts L (gw ts n Ls a l i) (iI L (eQ ts L (ge ts n Ls a i) (gw ts n Ls a l i) l) p)|_,_=>gw ts n Ls a l i);rw[h i (oJ i),c,d]
theorem yE{p:Bool×Nat×Nat}: ∀i,i<=Ls.length-> ∀j,(gX Ls i)[j]? =some p-> ∃k L,Ls[k]? =some L/\((p=(true,k,L.gs.length)/\1<L.gs.length/\j=eX Ls k)∨(p=(false,k,L.us.length)/\j=eX Ls k+(if 1<L.gs.length then 1 else 0)))
 |0,_,j,e=>by simp[gX]at e
 | i+1,h,j,e=>by
  have b:=cE (show i<Ls.length from h);rw[r4 b]at e;by_cases c:j<(gX Ls i).length
  .rw[fe c]at e;exact yE i (fQ h) j e
  .rw[e9 ()]at e;refine⟨i,_,b,?_⟩;have d:j=eX Ls i+(j-(gX Ls i).length):=by unfold eX;lia
   rw[d]
   revert e
   generalize j-(gX Ls i).length=t;intro e;unfold iL at e;by_cases g:1<(Ls[i]'h).gs.length
   .rw[wB g]at e;rw[wB g]
    match t,e with
    |0,e=>cases e;exact .inl ⟨zZ,g,zZ⟩
    |1,e=>cases e;exact .inr ⟨zZ,zZ⟩
   .rw[wA g]at e;rw[wA g]
    match t,e with
    |0,e=>cases e;exact .inr ⟨zZ,zZ⟩
def DU{k t:Nat}{p:Nat×Nat}(c:prs.length=Ls.length)(b:Ls[k]? =some L)(d:prs[k]? =some p)(h:t<(mL L p).length):(Au Ls prs)[eX Ls k+t]? =(mL L p)[t]? :=by
 have lk:=(cP.mp b).1;obtain⟨r,z⟩:=wN (t:=mZ Ls prs) (λi=>⟨_,zZ⟩) (show k+1<=Ls.length from lk);unfold Au;have e:=HV c k (fQ lk);rw[z,AY b d,fO,e9 (),e,vj,fe h]
def qb(ts:LN)(n:Nat)(Ls:List Lv)(row:cz)(l:Nat)(p:Bool×Nat×Nat)(L:Lv)(r:Nat):Nat:=
 if p.1 then mv L (eQ ts L (ge ts n Ls (fT Ls row) p.2.1) (gw ts n Ls (fT Ls row) l p.2.1) l) r else yM L (eQ ts L (ge ts n Ls (fT Ls row) p.2.1) (gw ts n Ls (fT Ls row) l p.2.1) l) (e8 Ls row p.2.1 L).1 r
def PD{p:Bool×Nat×Nat}(e:(eB Ls)[j]? =some p)(o:Ls[p.2.1]? =some L)(c:row.take j=row'.take j):(xm ts n Ls row l)[j]? =some (qb ts n Ls row' l p L (row.getD j 0)):=by
 obtain⟨k,v,b,h⟩:=yE Ls.length (cO _) j e;have q:p.2.1=k:=by rcases h with⟨z,_⟩|⟨z,_⟩<;>rw[z]
 rw[q,b]at o;cases o;have lk:=(cP.mp b).1;have r:eX Ls k<=j:=by rcases h with⟨_,_,z⟩|⟨_,z⟩<;>lia
 have up:=Lb c (fQ lk) r;have d:(fT Ls row).length=Ls.length:=nh (cO _);have s:=Ch (row:=row) b;have m:=D' (ts:=ts) (n:=n) (l:=l) d b s;unfold qb xm;rw[q,<-Ce k up,<-Hy k up]
 rcases h with⟨rfl,g,rfl⟩|⟨rfl,rfl⟩
 .have z:=DU (t:=0) (rk d (cO _)) b m (by unfold mL;rw[wB g];simp);rw[wr]at z;rw[z];unfold mL iI e8;rw[wB g,wB g];rfl
 .by_cases g:1<L.gs.length
  .have z:=DU (t:=1) (rk d (cO _)) b m (by unfold mL;rw[wB g];simp);rw[wB g]at c⊢;rw[z];have u:=Bm c (show eX Ls k<eX Ls k+1 by lia);unfold mL iI e8;rw[wB g,wB g,wB g,u];rfl
  .have z:=DU (t:=0) (rk d (cO _)) b m (by unfold mL;rw[wA g];simp);rw[wA g]at c⊢;rw[z];unfold mL iI e8;rw[wA g,wA g,wA g];rfl
def JK{p:Bool×Nat×Nat}(b:p∈eB Ls): ∃L,Ls[p.2.1]? =some L:=by
 obtain⟨j,e⟩:=vR b;obtain⟨k,L,c,h⟩:=yE Ls.length (cO _) j e
 rcases h with⟨rfl,_⟩|⟨rfl,_⟩<;>exact⟨L,c⟩
def RowIn.zeros{k:Nat}(h:RowIn Ls row)(pos: ∀p∈eB Ls,0<p.2.2)(e:k<=row.length):RowIn Ls (row.take k++List.replicate ((eB Ls).length-k) 0):=by
 have g:=h.len;refine⟨by rw[dF,fi,xv];lia,λj p r d b=>?_⟩;by_cases c:j<k
 .rw[fe (by rw[fi];lia),pG c]at b;exact h.lt j p r d b
 .rw[e9 (by rw[fi];lia),List.getElem?_replicate]at b;split at b
  .cases b;exact pos p (cY d)
  .cases b
end
def Ee(p:Bool×Nat×Nat):Dt:= .tup [.str (An p.1),.int (p.2.1:Int),.int (p.2.2:Int)]
def LQ{K:Q5}{H:Hp}{l:Ad}{e:As}{g:List (Bool×Nat×Nat)}(h:H l=some (.lst (e.map .ref)))(S:PartsAt H e g):Rep K H 2 (.lst (g.map Ee)) (.ref l):=by
 refine .lst (Q3 h) (by rw[cC,cC,S.len]) λi d v b c=>?_;rw[cV]at b c;obtain⟨p,k,rfl⟩:=eU.mp b;obtain⟨a,m,rfl⟩:=eU.mp c;refine .tup (Q4 (S.is i a p m k)) zZ λj d v b c=>?_
 match j,b,c with
 |0,b,c=>cases b;cases c;exact .str _ _
 |1,b,c=>cases b;cases c;exact .int _ _
 |2,b,c=>cases b;cases c;exact .int _ _
inductive lT(h CR:Ad)(i:List V)(H:Hp)(Q:VK)(d:XK):Prop|mk:∀(p k m:Ad) (c:LN) (n:Nat) (e:LN) (b:List Lv) (a:cz) (j lt:Nat) (pt:Bool×Nat×Nat) (L:Lv),i=[.ref p,nv j,.ref k,nv lt]->RowAt h CR H p m c n b->Mach H m c n->RowOf c n e b->H k=some (.tup (a.map nv))->a.length=j->RowIn b (a++List.replicate ((eB b).length-j) 0)->(eB b)[j]? =some pt->b[pt.2.1]? =some L->lt<c.length->(∀t g,Same H g->g t=some (.tup (((List.range pt.2.2).map (qb c n b (a++List.replicate ((eB b).length-j) 0) lt pt L)).map nv))->Q (.ref t) g)->lT h CR i H Q d
def Pq(a:List V)(k:Nat):jB a none (some (k:Int))=a.take k:=by
 unfold jB;rw[HT.sIx_none,HT.sIx_nat,wg,A9,List.take_eq_take_iff];lia
def O0(b:LN)(L:Lv)(here a:cz)(l:Nat):(eQ b L here a l).1.length=L.us.length:=by
 unfold eQ;split
 .split
  .show(ft _ _ _ _).length=_;unfold ft;rw[cC,pX]
  .exact iU
 .exact iU
def PairsAt.take{H:Hp}{c:As}{d:List (Nat×Nat)}(h:PairsAt H c d)(k:Nat):PairsAt H (c.take k) (d.take k):=⟨by rw[fi,fi,h.len],λi a p b e=>by
 have g:i<k:=by
  have:=(cP.mp b).1;rw[fi]at this;lia
 rw[pG g]at b e;exact h.is i a p b e⟩
def KN{B CR:Ad}(F:Fun K "move" "Row.move" zq f fd)(M2:OwnC K B [sA,sI,sJ,sS,sQ])(P8:OwnC K CR [sB,tV])(jY:gq P w K mg base CR "parts" 3 [sC] (gZ B CR))(qT:gq P w K mg base CR "paired" 3 [sC,"row"] (iC B CR))(qU:gq P w K mg base CR "walked" 7 [sC,uL,sK] (hY B CR))(jI:gq P w K mg base B "deed_of" 5 [sC,sZ,uK,sK] (jo B K))(jL:gq P w K mg base B "turned" 3 [sC,tE,sW] (fM B))(jH:gq P w K mg base B "brought" 1 [sC,tE,sW,uN] (fK B))(jA:mg "len"=none)(jD:mg "tuple"=none)(jC:mg "range"=none):FnOk P w K mg base de 9 f fd [sC,"n",vE,sK] (lT B CR):=by
 refine F.ok kO (λaL A aB s H vs Q E T h=>?_)
 obtain⟨p,aa,m,o,n,am,a,d,j,lt,pt,L,rfl,RA,M,R,aC,la,ri,ep,G,ll,q⟩:=h;have hu:=T.units;obtain⟨dx,r,st,qs,h1,h2,h3,S⟩:=id RA;have aM:=R.few;have lz:(eB a).length<=2 * a.length:=tr a a.length;have jl:=(cP.mp ep).1;refine⟨_,(cQ (dj (i:=4) kO.nd zZ (Or.inl zZ) (cW fX (xC (pv 0) P8.cl jY T.m) (pv 1) (λ_ _=>rfl))) (cQ (dj (i:=5) kO.nd zZ (Or.inr zZ) (cW fX (iB (pv 0) zZ) (cW dr (pv 4) cR (λ_ _=>rfl)) (λ_ _=>rfl))) (cQ (dj (i:=6) kO.nd zZ (Or.inl zZ) (mM (pv 0) P8.cl qT T.m (cN (fv DR (pv 2) (fv K6 (jg (cN cR cJ)) (fv Gf (fc gv zZ jA gj (cN (xC (pv 0) P8.cl jY T.m) cJ)) (pv 1)))) cJ))) (cQ (dj (i:=7) kO.nd zZ (Or.inl zZ) (mM (pv 0) P8.cl qU T.m (c8 (cD (ve Dc (pv 6) z7 (qE (cW dr (pv 4) cR (λ_ _=>rfl)))) (cD (pv 3) db zZ) zZ)))) (cQ (dj (i:=8) kO.nd zZ (Or.inr zZ) (mM (pv 5) M2.cl jI T.m (c8 (cD (cW dr (pv 7) cR (λ_ _=>rfl)) (cD (cW dr (pv 7) cR (λ_ _=>rfl)) (cD (pv 3) db zZ) zZ) zZ)))) (cQ (gk (gB Ak (cW dr (pv 4) cR (λ_ _=>rfl)) wL (fY _)) (cU (dG (iN n6 zZ jD mz (cN (gW (CompSc.to (N:=[sC,"n",vE,sK,tW,uH,uL,sX,tE,sW]) (osc:=cZ zq) (vs:=[uM]) {}) zZ zZ (m8 zZ jC (cN (cW dr (pv 4) cR (λ_ _=>rfl)) cJ)) (λ_ _ _ _=>i3) (λ_ _ _ _=>(mM (pv 6) M2.cl jL T.m (c8 (cD (pv 9) (cD (pv 0) db zZ) zZ))))) cJ)))) gO) (cQ (dj (i:=9) kO.nd zZ (Or.inr zZ) (cW dr (cW fX (pv 6) (cW dr (pv 4) cR (λ_ _=>rfl)) (λ_ _=>rfl)) cR (λ_ _=>rfl))) (cU (dG (iN n6 zZ jD mz (cN (gW (CompSc.to (N:=[sC,"n",vE,sK,tW,uH,uL,sX,tE,sW]) (osc:=cZ zq) (vs:=[uM]) {}) zZ zZ (m8 zZ jC (cN (cW dr (pv 4) cR (λ_ _=>rfl)) cJ)) (λ_ _ _ _=>i3) (λ_ _ _ _=>(mM (pv 6) M2.cl jH T.m (c8 (cD (pv 9) (cD (pv 10) (cD (pv 0) db zZ) zZ) zZ))))) cJ))))))))))),?_⟩;refine⟨_,zZ,p,dx,_,zZ,h1,(by kernel_rfl),p,m,o,n,a,zZ,RA,R.few,λl ps H1 g1 nl el PS=>?_⟩;obtain⟨C,an⟩: ∃C,ps[j]? =some C:=⟨_,cE (by rw[PS.len];exact jl)⟩;have ao:=PS.is j C pt an ep;obtain⟨b,eb⟩: ∃b,qs[pt.2.1]? =some b:=⟨_,cE (by rw[S.len];exact(cP.mp G).1)⟩;have kl:=(cP.mp G).1;refine⟨_,zZ,l,_,_,_,zZ,zZ,Q3 el,gF (j:=j) (v:= .ref C) (by rw[cV,an];rfl),?_⟩;refine⟨_,zZ,p,CR,dx,_,_,zZ,g1 _ _ h1,P8.cl,P8.no,AC,_,zZ,C,_,_,_,zZ,zZ,Q4 ao,zZ,st,_,_,_,zZ,zZ,Q3 (g1 _ _ h3),gF (j:=pt.2.1) (v:= .ref b) (by rw[cV,eb];rfl),?_⟩;refine⟨_,zZ,p,dx,_,zZ,g1 _ _ h1,(by kernel_rfl),_,zZ,by show 1<=sizeLine;decide,λz hz=>?_⟩;have kz:=cM hz (.tup [V.int 0]);have g2:=g1.trans kz;refine⟨_,zZ,p,dx,_,zZ,g2 _ _ h1,(by kernel_rfl),p,m,o,n,a,zZ,RA.keeps g2.keeps,R.few,λl2 aD H3 g3 aN aE aF=>?_⟩;have aG:=g2.trans g3;have k1:V.int (((aD.map V.ref).length:Nat)-((j:Nat):Int))=V.int ((((eB a).length-j-1+1:Nat)):Int):=by
  rw[cC,aF.len]
  congr 1
  lia
 refine⟨l2,_,zZ,.inl (Q3 aE),_,zZ,_,_,zZ,zZ,z,[V.int 0],(eB a).length-j-1,zZ,k1,g3 _ _ cF,(),by decide,λzz H4 g4 aH=>?_⟩;have ap:=aG.trans g4;have e0:d.map nv++(List.replicate ((eB a).length-j-1+1) [V.int 0]).flatten=(d++List.replicate ((eB a).length-j) 0).map nv:=by
  rw[GN,eI,List.map_replicate,show(eB a).length-j-1+1=(eB a).length-j by lia];rfl
 refine⟨aa,zz,_,_,zZ,zZ,ap _ _ aC,aH,?_,λra H5 g5 Y=>?_⟩
 .rw[GN,cC,xv,dz];lia
 rw[e0]at Y;have po:=ri.po M R;have rl:=ri.len;have hl:(fT a (d++List.replicate ((eB a).length-j) 0)).length=a.length:=nh (cO _);have ab:=Ch (row:=d++List.replicate ((eB a).length-j) 0) G;have J:=yf M R hl po ll pt.2.1 (fQ kl);have p0:=po _ _ _ G ab;have ns: ∀p,PairOk L p->_:=λp pk=>(xw M R G (p:=p) pk ll J.hf J.hp J.tf J.s).2.2;have aq:=λct no=>Br M R G ll J.hf J.hp J.s ct no;unfold qb at q;generalize d++List.replicate ((eB a).length-j) 0=c at Y ri po rl hl ab p0 J ns aq q;have ar:=ap.trans g5;refine⟨p,ra,m,o,n,a,c,zZ,RA.keeps ar.keeps,R.few,Y,rl,λpl as H6 g6 aO au PA=>?_⟩;have av:=ar.trans g6;have U:=(((kz.trans g3).trans g4).trans (g5.trans g6)) _ _ ao;refine⟨_,zZ,p,dx,_,zZ,av _ _ h1,(by kernel_rfl),_,zZ,_,zZ,C,_,_,_,zZ,zZ,Q4 U,zZ,_,zZ,pl,_,zZ,Q3 au,λsl aI=>?_⟩;rw[Pq,<-List.map_take];have ks:=cM aI (.lst ((as.take pt.2.1).map V.ref));have ae:=av.trans ks;refine⟨_,zZ,p,sl,m,as.take pt.2.1,o,n,am,a,fT a c,lt,pt.2.1,zZ,RA.keeps ae.keeps,M.same ae,R,cF,(PA.st (lM ks)).take _,hl,fQ kl,po,ll,λrr h t fo es H8 g8 er eh et ef PE=>?_⟩;have af:=ae.trans g8;have SA:=(S.is pt.2.1 b L eb G).keeps af.keeps;obtain⟨ag,g,tt,u,gr,s1,_⟩:=id SA;have ok:=R.ok L (cY G);refine⟨_,zZ,b,ag,_,zZ,s1,(by kernel_rfl),_,zZ,rr,_,_,_,zZ,zZ,Q4 er,zZ,_,zZ,rr,_,_,_,zZ,zZ,Q4 er,zZ,_,zZ,b,h,t,m,o,n,am,L,_,_,lt,zZ,SA,M.same af,R.ff,ok,eh,et,J.hf,ll,aq,λda H9 g9 DA=>?_⟩;have aw:=af.trans g9;have ax:=SA.keeps g9.keeps;have ay:=g9 _ _ s1;have e:=((ks.trans g8).trans g9) _ _ U;have az:=((ks.trans g8).trans g9) _ _ au;have aJ:=PA.st (lM ((ks.trans g8).trans g9));have dl:=O0 o L (ge o n a (fT a c) pt.2.1) (gw o n a (fT a c) lt pt.2.1) lt;generalize eQ o L (ge o n a (fT a c) pt.2.1) (gw o n a (fT a c) lt pt.2.1) lt=dd at DA dl q ns;have pd:(pt.1=true/\pt.2.2=L.gs.length)∨(pt.1=false/\pt.2.2=L.us.length):=by
  obtain⟨k,L',e1,h⟩:=yE a.length (cO _) j ep
  rcases h with⟨rfl,_,_⟩|⟨rfl,_⟩
  .have D:a[k]? =some L:=G;rw[e1]at D;cases D;exact .inl ⟨zZ,zZ⟩
  .have D:a[k]? =some L:=G;rw[e1]at D;cases D;exact .inr ⟨zZ,zZ⟩
 have gf:=ok.few M R.ff;have uf:=(ok.p.inU M R.ff).2;obtain⟨tf,i,mn⟩:=pt
 rcases pd with⟨rfl,rfl⟩|⟨rfl,rfl⟩
 .refine⟨_,zZ,C,_,_,_,zZ,zZ,Q4 e,zZ,zZ,_,zZ,fH ?_⟩;refine⟨_,zZ,C,_,_,_,zZ,zZ,Q4 e,zZ,(L.gs.length:Int),zZ,(),(),si (λk O I=>Same H9 I/\O=((List.range k).map (mv L dd)).map nv) (by rw[ip,dz];lia) ⟨Same.refl _,zZ⟩ (λk O I _ p=>by rw[p.2,cC,cC,iU];exact cO _) (λk O I hk p=>?_) (λO I p ah ai=>?_)⟩
  .obtain⟨y,rfl⟩:=p;have aj:k<L.gs.length:=by simpa using hk
   have zk:V.int ((0:Int)+((k:Nat):Int))=nv k:=by show V.int (0+(k:Int))=V.int (k:Int);rw[pF]
   rw[zk];have pm:=ok.pm M R.ff (cY (fF aj));have gl:(L.gs.getD k []).length=L.us.length:=by rw[pm.length_eq,iU]
   refine⟨iO,lB ⟨_,zZ,b,ag,_,zZ,y _ _ ay,(by kernel_rfl),_,zZ,_,zZ,b,da,m,o,L,dd,k,zZ,ax.keeps y.keeps,DA.same y,aj,λx hx=>by rw[dl];exact f'.mp (pm.mem_iff.mp hx),(),(ns (k,(e8 a c i L).2) ⟨aj,p0.t⟩).1,λI g'=>⟨y.trans g',?_⟩⟩⟩;rw[zC,eI,eI];rfl
  .obtain⟨y,rfl⟩:=p;have ak:=cM ai (.lst (((List.range (L.gs.length:Int).toNat).map (mv L dd)).map nv));refine⟨ah,_,zZ,.inl ⟨Q3 cF,λt2 al=>?_⟩⟩;exact q t2 _ (((aw.trans y).trans ak).trans (cM al _)) cF
 .refine⟨_,zZ,C,_,_,_,zZ,zZ,Q4 e,zZ,zZ,_,zZ,fq ?_⟩;obtain⟨pb,aA⟩: ∃pb,as[i]? =some pb:=⟨_,cE (by rw[PA.len,hl];exact kl)⟩;have aK:=aJ.is i pb _ aA ab;refine⟨_,zZ,_,zZ,C,_,_,_,zZ,zZ,Q4 e,zZ,pl,_,_,_,zZ,zZ,Q3 az,gF (j:=i) (v:= .ref pb) (by rw[cV,aA];rfl),pb,_,_,_,zZ,zZ,Q4 aK,zZ,?_⟩;refine⟨_,zZ,C,_,_,_,zZ,zZ,Q4 e,zZ,(L.us.length:Int),zZ,(),(),si (λk O I=>Same H9 I/\O=((List.range k).map (yM L dd (e8 a c i L).1)).map nv) (by rw[ip,dz];lia) ⟨Same.refl _,zZ⟩ (λk O I _ p=>by rw[p.2,cC,cC,iU];exact cO _) (λk O I hk p=>?_) (λO I p ah ai=>?_)⟩
  .obtain⟨y,rfl⟩:=p;have zk:V.int ((0:Int)+((k:Nat):Int))=nv k:=by show V.int (0+(k:Int))=V.int (k:Int);rw[pF]
   rw[zk];refine⟨iO,lB ⟨_,zZ,b,ag,_,zZ,y _ _ ay,(by kernel_rfl),_,zZ,_,zZ,_,zZ,b,da,m,o,L,dd,_,k,zZ,ax.keeps y.keeps,DA.same y,p0.g,(ns _ p0).2,y,?_⟩⟩;rw[zC,eI,eI];rfl
  .obtain⟨y,rfl⟩:=p;have ak:=cM ai (.lst (((List.range (L.us.length:Int).toNat).map (yM L dd (e8 a c i L).1)).map nv));refine⟨ah,_,zZ,.inl ⟨Q3 cF,λt2 al=>?_⟩⟩;exact q t2 _ (((aw.trans y).trans ak).trans (cM al _)) cF
def OS{a:LN}{f:cz->Bool}(h:true∈a.map f):((List.range a.length).filter λj=>f (a.getD j []))[0]? =some ((a.map f).idxOf true):=by
 have d:(a.map f).idxOf true<(a.map f).length:=uz.mpr h;have e:(a.map f).idxOf true<a.length:=by rw[cC]at d;exact d
 rw[<-List.head?_eq_getElem?,List.head?_filter,List.find?_range_eq_some];have b: ∀{j:Nat} (c:j<a.length),f (a.getD j [])=(a.map f)[j]'(by rw[cC];exact c):=λ{j} c=>by rw[eC,cE c,ui];rfl
 refine⟨by rw[b e];exact sw d,f'.mpr e,λj c=>?_⟩;have y:=CB (p:=(· ==true)) (xs:=a.map f) (i:=j) c;rw[b ()]
 revert y
 cases(a.map f)[j]'(by rw[cC];lia)with
 |true=>intro y;cases y
 |false=>intro _;rfl
inductive j5(K:Q5)(c:List V)(H:Hp)(Q:VK)(b:XK):Prop|mk:∀(a:Ad) (d:Zs),c=[.ref a]->SqL K H a (d.map V.int)->d.length<=63->Tabs H->(∀e,Q (.bl true) e)->j5 K c H Q b
inductive gE(e:List V)(H:Hp)(Q:VK)(c:XK):Prop|mk:∀(q g h m:Ad) (a:LN) (n:Nat) (b:LN) (L:Lv) (here:cz) (p:Nat×Nat) (l:Nat),e=[.ref q,.ref g,.ref h,nv l]->PlanAt H q m a L->Mach H m a n->FamOf a n b->LvOk a b L->H g=some (.tup [nv p.1,nv p.2])->H h=some (.tup (here.map nv))->PairOk L p->here∈L.c->cI a here l∈L.c->l<a.length->(∀t d,Same H d->d t=some (.tup [nv (L.gs.idxOf (eF (L.gs.getD p.1 []) (ft a L here l))),nv p.2])->Q (.ref t) d)->gE e H Q c
inductive fZ(i:List V)(H:Hp)(Q:VK)(g:XK):Prop|mk:∀(q j t e m:Ad) (b:LN) (n:Nat) (c:LN) (L:Lv) (a d:cz) (p:Nat×Nat),i=[.ref q,.ref j,.ref t,.ref e]->PlanAt H q m b L->Mach H m b n->FamOf b n c->LvOk b c L->H j=some (.tup [nv p.1,nv p.2])->H t=some (.tup (a.map nv))->H e=some (.tup (d.map nv))->d.length<=5->PairOk L p->a∈L.c->(∃t∈eA b L a,sub d t=true)->(∀t h,Same H h->h t=some (.tup [nv p.1,nv ((L.gs.getD p.1 []).idxOf (ig (eA b L a) d))])->Q (.ref t) h)->fZ i H Q g
inductive io(h:List V)(H:Hp)(Q:VK)(d:XK):Prop|mk:∀(i j m:Ad) (k:As) (b:LN) (n:Nat) (e:LN) (c:List Lv) (a:cz) (l:Nat),h=[.ref m,.ref i,.ref j,nv l]->H i=some (.lst (k.map .ref))->PlansAt H k m b c->Mach H m b n->RowOf b n e c->H j=some (.tup (a.map nv))->RowIn c a->l<b.length->(∀t g,Same H g->g t=some (.tup ((xm b n c a l).map nv))->Q (.ref t) g)->io h H Q d
def Kx(F:Fun K vD vD Bn f fd)(jJ:dE P w K mg base tR 9 [sA,sL,"k",sK] fI)(jD:mg "tuple"=none):FnOk P w K mg base de 11 f fd [sN,sR,tI,sO] gE:=by
 refine F.ok kR (λak A G s H vs Q E hr h=>?_)
 obtain⟨q,pa,h,m,a,n,I,L,here,p,l,rfl,PA,M,o,ok,hp,hh,po,J,B,hl,k⟩:=h;have hu:=hr.units;obtain⟨d,g,ml,lv,gr,O,s2,T,C,s5,s6⟩:=id PA;obtain⟨s',t',v',bs,ds,cs,h1,h2,U,h4,h5,h6,h7,h8⟩:=id s6;have nd:=ok.p.nd o;refine⟨_,(cQ (yc (cW dr (pv 0) cR (λ_ _=>rfl)) (J8 zZ (iA (fb (i:=4) kR.nd zZ (Or.inl zZ)) (iA (fb (i:=5) kR.nd zZ (Or.inl zZ)) nO)))) (cQ (dj (i:=6) kR.nd zZ (Or.inr zZ) (dH jJ hr.m zZ (c8 (cD (pv 4) (cD (pv 5) (cD (hE hV vv vw (xF hu) (cW dr (pv 5) cR (λ_ _=>rfl)) (cN (pv 2) cJ)) (cD (pv 3) db zZ) zZ) zZ) zZ)))) (cQ (dj (i:=7) kR.nd zZ (Or.inl zZ) (iN n6 zZ jD mz (cN (gW (CompSc.to (N:=[sN,sR,tI,sO,sD,vG,"_law_turn_here","_law_new"]) (osc:=cZ Bn) (vs:=["_law_place"]) {}) zZ zZ (ua (cW fX (cW dr (pv 0) cR (λ_ _=>rfl)) (cW dr (pv 1) cR (λ_ _=>rfl)) (λ_ _=>rfl))) (λ_ _ _ _=>i3) (λ_ _ _ _=>(cW (IxR.k (K:=K) mS dr zZ) (pv 7) (pv 0) (λ_ _=>rfl)))) cJ))) (cU (dG (jg (c8 (cD (hE hV vv vw (xF hu) (cW dr (pv 0) cR (λ_ _=>rfl)) (cN (pv 7) cJ)) (cD (cW dr (pv 1) cR (λ_ _=>rfl)) db zZ) zZ)))))))),?_⟩;obtain⟨lh,eh⟩:=iP J;obtain⟨lt,et⟩:=iP B;have w1:=fF (show dO L.c here<L.wds.length by rw[ok.p.len];exact lh);have w2:=fF (show dO L.c (cI a here l)<L.wds.length by rw[ok.p.len];exact lt);have ix:L.c.idxOf here=dO L.c here:=((u9 nd (by rw[cE (uz.mpr J)];exact dN some (sw _))).symm);refine⟨_,zZ,q,_,_,_,zZ,zZ,Q4 O,zZ,ml,_,_,zZ,Q3 s5,_,_,zZ,_,_,zZ,zZ,?_⟩;obtain⟨ib,al⟩: ∃ib,bs[dO L.c here]? =some ib:=⟨_,cE (by rw[U.len];exact lh)⟩;refine⟨_,zZ,_,zZ,_,zZ,lv,_,_,_,zZ,zZ,Q4 h1,zZ,.inl ⟨zZ,_,Q3 h2⟩,_,zZ,s',_,1,.tup (hI here),L.c.map λu=>Dt.tup (hI u),_,dO L.c here,zZ,zZ,Q3 h2,by rw[cC,cC,U.len],iX (Q4 hh),vp U,by decide,eW.mpr eh,λi D e=>?_,?_⟩
 .rw[<-ix]at D;exact D2 i D (eW.mp e)
 refine⟨_,zZ,m,lv,dO L.c here,l,a,n,I,L.c,L.us,L.wds,here,_,zZ,M,o,s6,ok.p,eh,w1,hl,λno Y b=>wC B no,λk' aa ek ew tp js Y b ab tb=>?_⟩;have ae:k'=dO L.c (cI a here l):=(u9 nd ek).symm;subst ae;have af:aa=L.wds.getD (dO L.c (cI a here l)) []:=by rw[eC,ew];rfl
 subst af;have ej:=ok.trn_eq M o B tb;subst ej;obtain⟨t,y⟩: ∃t,gr[p.1]? =some t:=⟨_,cE (by rw[C.len];exact po.g)⟩;have z:=C.is p.1 t _ y (fF po.g);have pm:=ok.pm M o (cY (fF po.g));have gl:(L.gs.getD p.1 []).length=L.us.length:=by rw[pm.length_eq,iU]
 have ag:(ft a L here l).length=L.us.length:=by unfold ft;rw[List.length_map,pX]
 have few:=(ok.p.inU M o).2;refine⟨_,zZ,q,_,_,_,zZ,zZ,Q4 (b _ _ O),zZ,_,zZ,pa,_,_,_,zZ,zZ,Q4 (b _ _ hp),zZ,g,_,_,_,zZ,zZ,Q3 (b _ _ T),gF (j:=p.1) (v:= .ref t) (by rw[cV,y];rfl),t,zZ,⟨_,Q4 (b _ _ z)⟩,?_⟩;refine zh (f:=λv=>match v with| .int i=>nv ((ft a L here l).getD i.toNat 0)|v=>v) (by rw[cC];exact small ()) (Q4 (b _ _ z)) (λv Q hv q=>?_) (λr ah=>?_)
 .obtain⟨x,hx,rfl⟩:=dh.mp hv;exact⟨_,zZ,_,zZ,tp,_,_,_,zZ,zZ,Q4 ab,mY (by rw[ag];exact f'.mp (pm.mem_iff.mp hx)),q⟩
 have em:((L.gs.getD p.1 []).map nv).map (λv=>match v with| .int i=>nv ((ft a L here l).getD i.toNat 0)|v=>v)=(eF (L.gs.getD p.1 []) (ft a L here l)).map nv:=by
  unfold eF;rw[i4,i4];rfl
 rw[em];have k1:=cM ah (.lst ((eF (L.gs.getD p.1 []) (ft a L here l)).map nv));refine⟨r,_,zZ,.inl ⟨Q3 cF,λr2 ai=>?_⟩⟩;have k2:=cM ai (.tup ((eF (L.gs.getD p.1 []) (ft a L here l)).map nv));have c:=(b.trans k1).trans k2;have e4:cA (cA Y r (.lst ((eF (L.gs.getD p.1 []) (ft a L here l)).map nv))) r2 (.tup ((eF (L.gs.getD p.1 []) (ft a L here l)).map nv)) r2=some (.tup ((eF (L.gs.getD p.1 []) (ft a L here l)).map nv)):=cF;generalize cA (cA Y r (.lst ((eF (L.gs.getD p.1 []) (ft a L here l)).map nv))) r2 (.tup ((eF (L.gs.getD p.1 []) (ft a L here l)).map nv))=H4 at c e4⊢;have mem:=ok.trn_gs M o hl J B (cY (fF po.g));obtain⟨l1,_⟩:=zL mem;refine⟨_,zZ,q,_,_,_,zZ,zZ,Q4 (c _ _ O),zZ,.inl ⟨zZ,_,Q3 (c _ _ T)⟩,_,zZ,g,_,1,.tup (hI (eF (L.gs.getD p.1 []) (ft a L here l))),L.gs.map λu=>Dt.tup (hI u),_,L.gs.idxOf (eF (L.gs.getD p.1 []) (ft a L here l)),zZ,zZ,Q3 (c _ _ T),by rw[cC,cC,C.len],iX (Q4 e4),vp (C.same c),by decide,eW.mpr (by rw[cE l1];exact dN some (sw l1)),λi D e=>D2 i D (eW.mp e),?_⟩;refine⟨_,zZ,pa,_,_,_,zZ,zZ,Q4 (c _ _ hp),zZ,by show 2<=sizeLine;decide,λr3 aj=>?_⟩;exact k r3 _ (c.trans (cM aj _)) cF
def JP(F:Fun K uW uW zr f fd)(jE:mg "enumerate"=none):FnOk P w K mg base de 1 f fd [sN,sR,tM,tO] fZ:=by
 refine F.ok rJ (λao A ag s H vs Q E hr h=>?_)
 obtain⟨q,pa,th,ea,m,y,n,ap,L,b,o,p,rfl,PA,M,ff,ok,hp,ht,he,aq,po,ct,ext,k⟩:=h;have hu:=hr.units;have ah:=jq hr;obtain⟨t,g,ml,lv,gr,s1,⟨ai,t1,t2,t3⟩,s3,s4,s5,s6⟩:=id PA;have nd:=ok.p.nd ff;have few:=(ok.p.inU M ff).2;obtain⟨l1,ei⟩:=iP ct;obtain⟨a,J⟩: ∃a,ai[dO L.c b]? =some a:=⟨_,cE ()⟩;have dg:=ph nd t1 ht ei J;have ew:L.wds[dO L.c b]? =some (L.wds.getD (dO L.c b) []):=fF (by rw[ok.p.len];exact l1);obtain⟨O,e1,e2⟩:=t3 _ _ _ ew J;have lt:(eA y L b).length=L.us.length:=pX;have U:O.length=L.us.length:=by rw[e2.len];exact lt
 refine⟨_,(cQ (Pw (CompSc1.to (N:=[sN,sR,tM,tO,"_law_fit"]) (osc:=cZ zr) (vs:=["_law_j",tS]) (x:=tS) ⟨zZ,by decide+kernel,by decide+kernel,by decide+kernel,by decide+kernel,by decide+kernel,by decide+kernel,by decide+kernel⟩) zZ rJ.nd (j:=4) zZ zZ (wF zZ jE (cN (og ah (cW dr (pv 0) cR (λ_ _=>rfl)) (pv 2) (λ_ _=>rfl)) cJ)) (NH (CompSc1.to (N:=[sN,sR,tM,tO,"_law_fit"]) (osc:=cZ zr) (vs:=["_law_j",tS]) (x:=tS) ⟨zZ,by decide+kernel,by decide+kernel,by decide+kernel,by decide+kernel,by decide+kernel,by decide+kernel,by decide+kernel⟩) zZ zZ) (λ_ _ _ _=>qx (gB (OpR.k (K:=K) (λK=>j7 K false) (tD hu) zZ) (gW (CompSc.toN (N:=["_law_j",tS,sN,sR,tM,tO,"_law_fit"]) (vs:=["_law_room"]) zZ zZ (by decide+kernel) (by decide+kernel) (by decide+kernel) (by decide+kernel) (by decide+kernel) (by kernel_rfl)) zZ zZ (JB (K:=K) (pv 5) zZ) (λ_ _ _ _=>qx (gB (OpR.k (K:=K) (λK=>yj K true) Ks zZ) (pv 0) (pv 2) (by with_unfolding_all rfl))) (λ_ _ _ _=>(pv 0))) (gI cJ) (fY _))) (λ_ _ _ _=>(pv 0))) (cU (dG (jg (c8 (cD (cW dr (pv 1) cR (λ_ _=>rfl)) (cD (Ix PySem.F.slot_tuple_index PySem.F.type_tuple_index Hf (cW fX (cW dr (pv 0) cR (λ_ _=>rfl)) (cW dr (pv 1) cR (λ_ _=>rfl)) (λ_ _=>rfl)) (cN (cW fX (pv 4) cR (λ_ _=>rfl)) cJ)) db zZ) zZ)))))),?_⟩;refine⟨_,zZ,q,_,_,_,zZ,zZ,Q4 s1,zZ,_,zZ,t,_,zZ,dg,a,_,zZ,Q3 e1,Lm (xs:=O.map .ref) (λj ys H'=>Same H H'/\ys=((List.range j).filter λj=>sub o ((eA y L b).getD j [])).map nv) (by rw[cC];exact small ()) ⟨Same.refl _,zZ⟩ (λj ys H' _ p=>?_) (λj T v ys Y hv nT p=>?_) (λys Y p sg aj=>?_)⟩
 .obtain⟨B,rfl⟩:=p;refine⟨Q3 (B _ _ e1),?_⟩;rw[cC];exact dL (iZ _ _) (pq iU)
 .obtain⟨B,rfl⟩:=p;rw[cV]at hv;obtain⟨d,ed,rfl⟩:=eU.mp hv;obtain⟨u,eu⟩: ∃u,(eA y L b)[j]? =some u:=⟨_,cE (by rw[lt,<-U];exact(cP.mp ed).1)⟩;have hd:=B _ _ (e2.is j d u ed eu);have kT:=cM nT (.tup [.int (j:Nat),.ref d]);have eT:cA Y T (.tup [.int (j:Nat),.ref d]) T=some (.tup [.int (j:Nat),.ref d]):=cF;generalize cA Y T (.tup [.int (j:Nat),.ref d])=H3 at kT eT⊢;have ak:(eA y L b).getD j []=u:=by rw[eC,eu];rfl
  have e5:o.length<=sizeLine:=small ();refine⟨T,_,zZ,Q4 eT,zZ,_,_,zZ,_,_,zZ,zZ,Jb,_,zZ,ea,zZ,⟨_,Q4 (kT _ _ (B _ _ he))⟩,Hl (f:=λv=>match v with| .int i=> !u.contains i.toNat|_=>false) (by rw[cC];exact e5) (Q4 (kT _ _ (B _ _ he))) (λv Q hv q=>?_) (λv Q hv q=>⟨_,zZ,q⟩) (λl hl=>?_)⟩
  .obtain⟨r,h1,rfl⟩:=dh.mp hv;refine⟨_,zZ,_,zZ,d,_,zZ,.inr (Q4 (kT _ _ hd)),zZ,IF _,_,zZ,?_⟩;try dsimp only
   rw[Ht];exact q
  .have e:(o.map nv).filter (λv=>match v with| .int i=> !u.contains i.toNat|_=>false)=(o.filter λr=> !u.contains r).map nv:=by
    rw[List.filter_map];rfl
   try dsimp only
   rw[e];refine⟨by show 0<=sizeLine;decide,λl2 al=>?_⟩;have k2:=cM al (.lst []);refine⟨l,l2,0,_,_,zZ,zZ,wV (Q3 (k2 _ _ cF)),wV (is:=[]) (Q3 cF),by decide,λc hc=>?_⟩;have e2:c=sub o u:=by
    rw[lH,hc,cX];constructor
    .intro z r D;have z2:o.filter (λr=> !u.contains r)=[]:=l7.mp z;cases c2:u.contains r with
     |true=>exact gV.mp c2
     |false=>
      have m:r∈o.filter (λr=> !u.contains r):=dP.mpr ⟨D,by rw[c2];rfl⟩;rw[z2]at m;cases m
    .intro z;refine l7.mpr ?_;rw[DD];intro r D z2;rw[gV.mpr (z r D)]at z2;cases z2
   have g4:=(B.trans kT).trans ((cM hl (.lst ((o.filter λr=> !u.contains r).map nv))).trans k2);rw[show(if false=true then !c else c)=sub o u from e2];try dsimp only
   rw[zC,tv,eI];have fs:[j].filter (λj=>sub o ((eA y L b).getD j []))=if sub o u=true then[j]else[]:=by
    rw[List.filter_cons,ak];rfl
   rw[fs];refine⟨_,zZ,mK (λG=>?_) (λG=>?_)⟩
   .have G:sub o u=true:=G;rw[wB G];exact⟨_,zZ,g4,zZ⟩
   .have G: ¬sub o u=true:=G;rw[wA G];exact⟨g4,(iV _).symm⟩
 .obtain⟨B,rfl⟩:=p;obtain⟨m1,m2,m3⟩:=Eo ext;have ks:=cM aj (.lst (((List.range (O.map V.ref).length).filter λj=>sub o ((eA y L b).getD j [])).map nv));have aa:cA Y sg (.lst (((List.range (O.map V.ref).length).filter λj=>sub o ((eA y L b).getD j [])).map nv)) sg=some (.lst (((List.range (eA y L b).length).filter λj=>sub o ((eA y L b).getD j [])).map nv)):=by rw[cF,cC,U,lt]
  have C:=B.trans ks;generalize cA Y sg (.lst (((List.range (O.map V.ref).length).filter λj=>sub o ((eA y L b).getD j [])).map nv))=H3 at ks aa C⊢;have am:=OS (f:=sub o) m1;rw[pX]at m2;obtain⟨I,ab⟩: ∃I,gr[p.1]? =some I:=⟨_,cE (by rw[s4.len];exact po.g)⟩;have ae:=s4.is p.1 I _ ab (fF po.g);have hz:(L.gs.getD p.1 []).map nv=(zN (L.gs.getD p.1 [])).map V.int:=by unfold zN;rw[List.map_map];rfl
  have af:=ae;rw[hz]at af;have pm:=ok.pm M ff (cY (fF po.g));have mj:ig (eA y L b) o∈L.gs.getD p.1 []:=pm.mem_iff.mpr (f'.mpr m2);refine⟨_,zZ,pa,_,_,_,zZ,zZ,Q4 (C _ _ hp),zZ,_,zZ,q,_,_,_,zZ,zZ,Q4 (C _ _ s1),zZ,_,zZ,pa,_,_,_,zZ,zZ,Q4 (C _ _ hp),zZ,g,_,_,_,zZ,zZ,Q3 (C _ _ s3),gF (j:=p.1) (v:= .ref I) (by rw[cV,ab];rfl),⟨I,_,zZ,C _ _ ae⟩,_,zZ,sg,_,_,_,zZ,zZ,Q3 aa,(gF (j:=0) (v:=nv (ig (eA y L b) o)) (by rw[cV,am];rfl):lF _ ((0:Nat):Int)=_),I,zN (L.gs.getD p.1 []),_,zZ,zZ,Q4 (C _ _ af),nX.mpr mj,?_⟩;rw[DX];refine⟨by show 2<=sizeLine;decide,λr3 an=>?_⟩;exact k r3 _ (C.trans (cM an _)) cF
def Mo(F:Fun K vP vP C5 f fd)(qV:dE P w K mg base vN 1 [sG,sM] iy)(kX:dE P w K mg base vM 1 [sN,tI,sR] ik)(qB:dE P w K mg base uV 1 [sD,sY,sO] (je K))(qG:dE P w K mg base vD 11 [sN,sR,tI,sO] gE)(qC:dE P w K mg base uW 1 [sN,sR,tM,tO] fZ)(rT:mg "zip"=none)(jD:mg "tuple"=none)(jC:mg "range"=none)(jA:mg "len"=none):FnOk P w K mg base de 13 f fd [sD,sG,sM,sO] io:=by
 refine F.ok jM (λa6 A aO s H vs Q E hr h=>?_)
 obtain⟨pl,ra,m,ap,k,n,aq,u,B,lt,rfl,ar,S,M,R,aP,ri,ll,q⟩:=h;have hu:=hr.units;have au:=jq hr;have lq:=S.len;have a7:=R.few;have po:=ri.po M R;have hl:(fT u B).length=u.length:=nh (cO _);obtain⟨rs,r0,hm,a8,aQ,aR,aS,_⟩:=M.at (l:=0) M.some1;have n5:=M.n5;refine⟨_,(cQ (dj (i:=4) jM.nd zZ (Or.inl zZ) (iN (Fo zZ) zZ jD mz (cN (iN DP zZ jC boot_range (cN (fc gv zZ jA gj (cN (cW dr (pv 0) cR (λ_ _=>rfl)) cJ)) cJ)) cJ))) (cQ (dj (i:=5) jM.nd zZ (Or.inl zZ) (pv 4)) (cQ (dj (i:=6) jM.nd zZ (Or.inl zZ) (gI cJ)) (cQ (iH gY zZ (Hj zZ rT (c8 (cD (pv 1) (cD (dH qV hr.m zZ (c8 (cD (pv 1) (cD (pv 2) db zZ) zZ))) db zZ) zZ))) (om zZ (iA (fb (i:=7) jM.nd zZ (Or.inl zZ)) (iA (fb (i:=8) jM.nd zZ (Or.inl zZ)) nO))) (cQ (dj (i:=9) jM.nd zZ (Or.inl zZ) (dH qB hr.m zZ (c8 (cD (pv 0) (cD (pv 4) (cD (pv 3) db zZ) zZ) zZ)))) (cQ (dj (i:=10) jM.nd zZ (Or.inl zZ) (pv 8)) (cQ (t6 (gk (PW.pt (uo (oB (uy au (pv 5) (cW dr (pv 7) cR (λ_ _=>rfl)))) (uo (oB (uy au (pv 4) (cW dr (pv 7) cR (λ_ _=>rfl)))) (wj (gB (tD hu) (pv 9) (pv 5) (fY _)))))) (cU (dj (i:=10) jM.nd zZ (Or.inl zZ) (dH qG hr.m zZ (c8 (cD (pv 7) (cD (pv 8) (cD (pv 4) (cD (pv 3) db zZ) zZ) zZ) zZ))))) (cU (gk (oB (uy au (pv 5) (cW dr (pv 7) cR (λ_ _=>rfl)))) (cU (dj (i:=10) jM.nd zZ (Or.inl zZ) (dH qC hr.m zZ (c8 (cD (pv 7) (cD (pv 8) (cD (pv 5) (cD (pv 9) db zZ) zZ) zZ) zZ))))) gO)))) (cQ (t6 (gk (gB vW (fc gv zZ jA gj (cN (cW dr (pv 7) cR (λ_ _=>rfl)) cJ)) cR (fY _)) (cU (ju (hE hV ko lE ku (pv 6) (cN (cW dr (pv 10) cR (λ_ _=>rfl)) cJ)))) gO)) (cQ (ju (hE hV ko lE ku (pv 6) (cN (cW dr (pv 10) cR (λ_ _=>rfl)) cJ))) (cQ (dj (i:=4) jM.nd zZ (Or.inl zZ) (dH kX hr.m zZ (c8 (cD (pv 7) (cD (pv 4) (cD (pv 8) db zZ) zZ) zZ)))) (cU (dj (i:=5) jM.nd zZ (Or.inl zZ) (dH kX hr.m zZ (c8 (cD (pv 7) (cD (pv 5) (cD (pv 10) db zZ) zZ) zZ)))))))))))) (cU (dG (iN n6 zZ jD mz (cN (pv 6) cJ)))))))),?_⟩;refine⟨_,zZ,m,_,_,_,zZ,zZ,Q4 hm,aQ,r0,_,zZ,.inr (Q4 aR),(n:Int),by rw[cC,aS],λrg aT=>⟨rg,(n:Int),zZ,cF,(),(),λr aU=>?_⟩⟩;have g0:=(cM aT (.rng 0 (n:Int))).trans (cM aU (.tup (ky (n:Int).toNat)));have er:cA (cA H rg (.rng 0 (n:Int))) r (.tup (ky (n:Int).toNat)) r=some (.tup ((List.range n).map nv)):=cF;generalize cA (cA H rg (.rng 0 (n:Int))) r (.tup (ky (n:Int).toNat))=H0 at g0 er⊢;refine⟨_,zZ,by show 0<=sizeLine;decide,λv ah=>?_⟩;have k0:=cM ah (.lst []);have av:cA H0 v (.lst []) v=some (.lst []):=cF;have aa:=g0.trans k0;have aC:=k0 _ _ er;have aV:H v=none:=by
  cases z:H v with
  |none=>rfl
  |some o=>rw[g0 _ _ z]at ah;cases ah
 generalize cA H0 v (.lst [])=a9 at k0 av aa aC⊢;refine⟨_,zZ,_,zZ,_,zZ,pl,ra,m,ap,k,u,B,zZ,aa _ _ ar,S.keeps aa.keeps,R.few,aa _ _ aP,ri.len,λl as H1 g1 nl el PA=>?_⟩;have lp:as.length=u.length:=by rw[PA.len];exact hl
 have aD:=aa.trans g1;have am:=g1 _ _ av;have aW:l≠v:=(dU av nl).symm;have aw:L2.drop H1 v v=none:=ov;have J:Same H (L2.drop H1 v):=λb o e=>by rw[eV (dU e aV)];exact aD _ _ e
 have aE:L2.drop H1 v l=some (.lst (as.map .ref)):=by rw[eV aW];exact el
 have ax:L2.drop H1 v r=some (.tup ((List.range n).map nv)):=by rw[eV (dU er ah)];exact g1 _ _ aC
 have ay:PairsAt (L2.drop H1 v) as (fT u B):=⟨PA.len,λi a p e1 e2=>by
  have z:=PA.is i a p e1 e2;rw[eV (λy=>by rw[y,am]at z;cases z)];exact z⟩
 have ai:Same (L2.drop H1 v) H1:=fL;generalize L2.drop H1 v=Hb at aw J aE ax ay ai
 let Pv:Nat->L2.St->Hp->Prop:=λi σ H'=>Same Hb H'/\ ∃(h t:Ad) (o7 o8 o9 az:Option V),H' h=some (.tup ((ge k n u (fT u B) i).map nv))/\H' t=some (.tup ((gw k n u (fT u B) lt i).map nv))/\H' v=some (.lst ((mZ u (lA k n u (fT u B) lt u.length) i).map nv))/\(mZ u (lA k n u (fT u B) lt u.length) i).length<=2 * i/\σ=[some (.ref m),some (.ref pl),some (.ref ra),some (nv lt),some (.ref h),some (.ref t),some (.ref v),o7,o8,o9,az]
 refine⟨pl,l,_,_,zZ,Q3 (aD _ _ ar),Q3 el,FL (xs:=ap.map .ref) (ys:=as.map .ref) Pv ⟨ai,r,r,_,_,_,_,ai _ _ ax,ai _ _ ax,am,cO _,zZ⟩ (λi σ H' p=>⟨Q3 (p.1 _ _ (J _ _ ar)),Q3 (p.1 _ _ aE)⟩) (λi x y Tp σ H2 hx hy nT pv=>?_) (λσ H2 pv=>?_)⟩
 .obtain⟨g2,h,t,o7,o8,o9,az,eh,et,ef,l2,rfl⟩:=pv;rw[cV]at hx hy;obtain⟨b,eb,rfl⟩:=eU.mp hx;obtain⟨U,aF,rfl⟩:=eU.mp hy;have li:=(cP.mp eb).1;obtain⟨L,eL⟩: ∃L,u[i]? =some L:=⟨_,cE ()⟩;obtain⟨C,Y⟩: ∃C,(fT u B)[i]? =some C:=⟨_,cE ()⟩;have ok:=R.ok L (cY eL);have bt:=yf M R hl po ll i ();have pk:=po i L C eL Y;obtain⟨n1,n2,n3,n4⟩:=xw M R eL pk ll bt.hf bt.hp bt.tf bt.s;have ew:=DB (ts:=k) (n:=n) eL Y;have aj:=DM (ts:=k) (n:=n) (l:=lt) eL Y;have ab:=AY (prs:=lA k n u (fT u B) lt u.length) eL (D' hl eL Y);have dt:=λO no=>Br M R eL ll bt.hf bt.hp bt.s O no;have fl:=FV M R eL ll bt.hf bt.hp;generalize ge k n u (fT u B) i=here at eh bt n1 n2 n3 n4 ew aj ab dt fl⊢;generalize gw k n u (fT u B) lt i=j at et bt n1 n2 n3 n4 aj ab dt⊢;have nd:=ok.p.nd R.ff;have kT:=cM nT (.tup [.ref b,.ref U]);have eT:cA H2 Tp (.tup [.ref b,.ref U]) Tp=some (.tup [.ref b,.ref U]):=cF;generalize cA H2 Tp (.tup [.ref b,.ref U])=H3 at kT eT⊢;have g3:=g2.trans kT;refine⟨Tp,_,zZ,Q4 eT,zZ,_,_,zZ,_,_,zZ,zZ,?_⟩;refine⟨_,zZ,_,zZ,_,zZ,m,h,k,n,lt,here,zZ,M.same (J.trans g3),kT _ _ eh,R.ff.inU M bt.hf,ll,λgo H4 g4 aA=>?_⟩;have ak:=g3.trans g4;have al:=g4 _ _ (kT _ _ eh);have N:=g4 _ _ (kT _ _ et);have aX:=g4 _ _ (kT _ _ ef);have ae:=ak _ _ (ay.is i U C aF Y);have PL:=(S.is i b L eb eL).keeps (J.trans ak).keeps;have M4:=M.same (J.trans ak);have l5:=z8 M (vc M (R.ff.inU M bt.hf) ll);obtain⟨d,g,ml,lv,gr,s1,⟨aG,t1,t2,t3⟩,s3,s4,s5,s6⟩:=id PL;refine⟨_,zZ,?_⟩;refine⟨λaf H'=>Same H4 H'/\ ∃I,H' I=some (.tup [nv (iI L (eQ k L here j lt) C).1,nv (iI L (eQ k L here j lt) C).2])/\af=[some (.ref m),some (.ref pl),some (.ref ra),some (nv lt),some (.ref h),some (.ref t),some (.ref v),some (.ref b),some (.ref U),some (.ref go),some (.ref I)],?_,λaf H' z=>?_⟩
  .by_cases O:j∈L.c
   .obtain⟨l1,ei⟩:=iP O;obtain⟨a,ea⟩: ∃a,aG[dO L.c j]? =some a:=⟨_,cE ()⟩;have dg:=ph nd t1 N ei ea;by_cases ch:here∈L.c
    .obtain⟨ba,aY⟩:=iP ch;obtain⟨a',aZ⟩: ∃a,aG[dO L.c here]? =some a:=⟨_,cE ()⟩;refine⟨_,zZ,_,zZ,b,_,_,_,zZ,zZ,Q4 s1,zZ,d,_,zZ,dg,_,zZ,fH ?_⟩;refine⟨_,zZ,_,zZ,b,_,_,_,zZ,zZ,Q4 s1,zZ,d,_,zZ,ph nd t1 al aY aZ,_,zZ,fH ?_⟩;refine⟨_,zZ,_,zZ,go,t,0,_,_,zZ,zZ,iX (Q4 aA),iX (Q4 N),by decide,λcc hc=>⟨_,zZ,?_⟩⟩;have a0:cc=decide (cI k here lt=j):=by
      rw[lH,vV,<-dC];exact hc
     subst a0;by_cases ee:cI k here lt=j
     .rw[eJ ee];have ed:eQ k L here j lt=(ft k L here lt,none):=by unfold eQ;rw[wB O,wB ⟨ch,ee⟩]
      rw[ed];exact fH ⟨_,zZ,_,zZ,_,zZ,_,zZ,b,U,h,m,k,n,aq,L,here,C,lt,zZ,PL,M4,R.ff,ok,ae,al,pk,ch,by rw[ee];exact O,ll,λI H5 T D=>⟨T,I,D,zZ⟩⟩
     .rw[fy ee];have no: ¬(here∈L.c/\cI k here lt=j):=λz=>ee z.2;have ed:eQ k L here j lt=(List.range L.us.length,some (ig (eA k L j) (cI k here lt))):=by unfold eQ;rw[wB O,wA no]
      have e1:mv L (List.range L.us.length,some (ig (eA k L j) (cI k here lt))) C.1=C.1:=ok.idx_still M R.ff pk.g;rw[ed];refine fq ⟨_,zZ,_,zZ,b,_,_,_,zZ,zZ,Q4 s1,zZ,d,_,zZ,dg,_,zZ,fH ⟨_,zZ,_,zZ,_,zZ,_,zZ,b,U,t,go,m,k,n,aq,L,j,cI k here lt,C,zZ,PL,M4,R.ff,ok,ae,N,aA,l5,pk,O,dt O no,λI H5 T D=>⟨T,I,?_,zZ⟩⟩⟩;show H5 I=some (.tup [nv (mv L _ C.1),_])
      rw[e1];exact D
    .have no: ¬(here∈L.c/\cI k here lt=j):=λz=>ch z.1;have ed:eQ k L here j lt=(List.range L.us.length,some (ig (eA k L j) (cI k here lt))):=by unfold eQ;rw[wB O,wA no]
     have e1:mv L (List.range L.us.length,some (ig (eA k L j) (cI k here lt))) C.1=C.1:=ok.idx_still M R.ff pk.g;rw[ed];refine⟨_,zZ,_,zZ,b,_,_,_,zZ,zZ,Q4 s1,zZ,d,_,zZ,dg,_,zZ,fH ?_⟩;refine⟨_,zZ,_,zZ,b,_,_,_,zZ,zZ,Q4 s1,zZ,d,_,zZ,sj t1 al ch,_,zZ,fq (fq ?_)⟩;refine⟨_,zZ,_,zZ,b,_,_,_,zZ,zZ,Q4 s1,zZ,d,_,zZ,dg,_,zZ,fH ⟨_,zZ,_,zZ,_,zZ,_,zZ,b,U,t,go,m,k,n,aq,L,j,cI k here lt,C,zZ,PL,M4,R.ff,ok,ae,N,aA,l5,pk,O,dt O no,λI H5 T D=>⟨T,I,?_,zZ⟩⟩⟩;show H5 I=some (.tup [nv (mv L _ C.1),_])
     rw[e1];exact D
   .have ed:eQ k L here j lt=(List.range L.us.length,none):=by unfold eQ;rw[wA O]
    have e1:mv L (List.range L.us.length,none) C.1=C.1:=ok.idx_still M R.ff pk.g;have en:iI L (List.range L.us.length,none) C=C:=Prod.ext e1 rfl;rw[ed,en];refine⟨_,zZ,_,zZ,b,_,_,_,zZ,zZ,Q4 s1,zZ,d,_,zZ,sj t1 N O,_,zZ,fq (fq ?_)⟩;exact⟨_,zZ,_,zZ,b,_,_,_,zZ,zZ,Q4 s1,zZ,d,_,zZ,sj t1 N O,_,zZ,fq ⟨Same.refl _,U,ae,zZ⟩⟩
  .obtain⟨T,I,D,rfl⟩:=z;have aH:=ak.trans T;generalize iI L (eQ k L here j lt) C=G at n1 n2 D aj ab⊢;have aI:=T _ _ al;have aJ:=T _ _ N;have ag:=T _ _ aX;generalize mZ u (lA k n u (fT u B) lt u.length) i=un at ag ab l2;have a5:=T _ _ ae;have bb:H' g=_:=T _ _ s3;refine⟨λaf H6=>Same Hb H6/\H6 h=some (.tup (here.map nv))/\H6 t=some (.tup (j.map nv))/\H6 I=some (.tup [nv G.1,nv G.2])/\H6 v=some (.lst ((un++(if 1<L.gs.length then[G.1]else[])).map nv))/\af=[some (.ref m),some (.ref pl),some (.ref ra),some (nv lt),some (.ref h),some (.ref t),some (.ref v),some (.ref b),some (.ref U),some (.ref go),some (.ref I)],⟨_,zZ,b,_,_,_,zZ,zZ,Q4 (T _ _ s1),zZ,g,_,zZ,.inl (Q3 (T _ _ s3)),_,_,zZ,zZ,_,zZ,mK (λc=>?_) (λc=>?_)⟩,λaf H6 z=>?_⟩
   .have c1:1<L.gs.length:=by
     have z:=ie c;rw[cC,s4.len]at z;lia
    rw[wB c1];refine⟨_,zZ,.inl ⟨zZ,_,Q3 ag⟩,_,zZ,I,_,_,_,zZ,zZ,Q4 D,zZ,v,_,_,zZ,zZ,ag,by rw[cC,dz];lia,?_⟩;have lo:mP _ (cA _ v (.lst (un.map nv++[nv G.1]))):=Stays.offL ag;exact⟨gR aH aw,lo.a aI,lo.a aJ,lo.a D,by rw[cF,eI];rfl,zZ⟩
   .have c1: ¬1<L.gs.length:=by
     have z:=wD (qd.mpr c);rw[cC,s4.len]at z;lia
    rw[wA c1,iV];exact⟨aH,aI,aJ,D,ag,zZ⟩
   .obtain⟨g6,a1,a2,an,aB,rfl⟩:=z;have l3:(un++(if 1<L.gs.length then[G.1]else[])).length<=2 * i+1:=by
     rw[dF];by_cases h:1<L.gs.length
     .rw[wB h];exact Nat.add_le_add_right l2 1
     .rw[wA h];exact dL l2 (oK _)
    refine⟨_,zZ,.inl ⟨zZ,_,Q3 aB⟩,_,zZ,I,_,_,_,zZ,zZ,Q4 an,zZ,v,_,_,zZ,zZ,aB,by rw[cC,dz];lia,?_⟩;have eu:mZ u (lA k n u (fT u B) lt u.length) (i+1)=un++(if 1<L.gs.length then[G.1]else[])++[G.2]:=by rw[ab,fO];rfl
    have lo:mP _ (cA _ v (.lst ((un++(if 1<L.gs.length then[G.1]else[])).map nv++[nv G.2]))):=Stays.offL aB;have g7:Same Hb (cA H6 v (.lst ((un++(if 1<L.gs.length then[G.1]else[])).map nv++[nv G.2]))):=gR g6 aw;have aK:cA H6 v (.lst ((un++(if 1<L.gs.length then[G.1]else[])).map nv++[nv G.2])) v=some (.lst ((un++(if 1<L.gs.length then[G.1]else[])++[G.2]).map nv)):=by rw[cF,eI (l₂:=[G.2])];rfl
    have aL:=lo.a a1;have aM:=lo.a a2;have ao:=lo.a an;generalize cA H6 v (.lst ((un++(if 1<L.gs.length then[G.1]else[])).map nv++[nv G.2]))=H7 at g7 aK aL aM ao⊢;have aN:=(S.is i b L eb eL).keeps (J.trans g7).keeps;refine⟨_,zZ,_,zZ,_,zZ,b,h,U,m,k,L,here,C,zZ,aN,aL,g7 _ _ (ay.is i U C aF Y),ok.wok M R.ff pk,λh' a3=>?_⟩;refine⟨_,zZ,_,zZ,_,zZ,b,t,I,m,k,L,j,G,zZ,aN,aM,ao,ok.wok M R.ff n1,λt' a4=>?_⟩;refine⟨g7,h',t',_,_,_,_,by rw[ew];exact a3,by rw[aj];exact a4,by rw[eu];exact aK,?_,zZ⟩;rw[eu,dF];exact dL (Nat.add_le_add_right l3 1) ()
 .obtain⟨g2,h,t,o7,o8,o9,az,eh,et,ef,l2,rfl⟩:=pv;have lm:min (ap.map V.ref).length (as.map V.ref).length=u.length:=by rw[cC,cC,lq,lp,Ay]
  rw[lm]at ef;refine⟨_,zZ,v,_,zZ,.inl ⟨Q3 ef,λt ht=>?_⟩⟩;exact q t _ ((J.trans g2).trans (cM ht _)) cF
def LD{H:Hp}{m:Ad}{c:LN}{n:Nat}{a:LN}{b:List Lv}(M:Mach H m c n)(R:RowOf c n a b){j:Nat}{p:Bool×Nat×Nat}(e:(eB b)[j]? =some p):p.2.2<=4000:=by
 obtain⟨k,L,g,h⟩:=yE b.length (cO _) j e;have ok:=R.ok L (cY g)
 rcases h with⟨rfl,_⟩|⟨rfl,_⟩
 .exact ok.few M R.ff
 .refine dL (oF (U:=a) (wq M R.ff ok.p) λu d=>?_) (dL (R.ff.few M) (by decide));rw[ok.p.tl]at d;exact((oN M R.ff).mp d).1
def RowIn.put{b:List Lv}{row:cz}{j k:Nat}{p:Bool×Nat×Nat}(h:RowIn b row)(e:(eB b)[j]? =some p)(g:k<p.2.2):RowIn b (row.set j k):=by
 refine⟨by rw[pN];exact h.len,λi q r d a=>?_⟩;rw[List.getElem?_set]at a;by_cases c:j=i
 .subst c;rw[e]at d;cases d;split at a
  .split at a
   .cases a;exact g
   .cases a
  .exact h.lt j p r e a
 .rw[wA c]at a;exact h.lt i q r d a
def Ku{t u:TT}{d:L2.St}{H:Hp}{Q:Bool->Hp->Prop}(a b:Bool)(e: ∀Q:Bool->Hp->Prop,Q a H->t d H Q)(g: ∀Q:Bool->Hp->Prop,Q b H->u d H Q)(q: ∀c,Q c H):E6 t u d H Q:=e _ (by
 cases a
 .exact fq (g _ (q _))
 .exact fH (q _))
def Jv{a:List Lv}(h:0<a.length):0<(eB a).length:=by
 obtain⟨k,b⟩:=pP (m9 h);have c:=cE (show k<a.length by lia);unfold eB;rw[b,r4 c,dF];have:0<(iL k (a[k]'())).length:=by
  unfold iL;split<;>simp
 lia
def Gq(a:Zs)(lo b:Option Int): ∃c:Zs,jB (a.map V.int) lo b=c.map V.int/\c.length<=a.length:=by
 refine⟨(a.drop (HT.sIx (a.map V.int).length 0 lo)).take (HT.sIx (a.map V.int).length (a.map V.int).length b-HT.sIx (a.map V.int).length 0 lo),?_,?_⟩
 .unfold jB;rw[List.map_take,List.map_drop]
 .rw[fi,oD];lia
inductive iu(h CR:Ad)(i:List V)(H:Hp)(Q:VK)(e:XK):Prop|mk:∀(m j x k:Ad) (c:Int) (l:As) (d:LN) (n:Nat) (g:LN) (a:List Lv) (b:cz),i=[.ref m,.ref j,.ref x,.int c,.ref k]->H j=some (.lst (l.map .ref))->PlansAt H l m d a->Mach H m d n->RowOf d n g a->RowAt h CR H x m d n a->H k=some (.tup (b.map nv))->RowIn a b->0<(eB a).length->(∀o,Same H o->Q (.bl true) o)->iu h CR i H Q e
def OU{CL CR:Ad}(F:Fun K vQ vQ Ek f fd)(P8:OwnC K CR [sB,tV])(kA:dE P w K mg base uQ 3 [sG] gn)(rF:gq P w K mg base CR "move" 9 [sC,"n",vE,sK] (lT CL CR))(qH:dE P w K mg base vB 3 [sP] jh)(qW:dE P w K mg base vP 13 [sD,sG,sM,sO] io)(jA:mg "len"=none)(jC:mg "range"=none):FnOk P w K mg base de 15 f fd [sD,sG,tT,tH,sM] (iu CL CR):=by
 refine F.ok kM (λav A ak s H vs Q E o h=>?_)
 obtain⟨m,pl,x,ra,c,as,e,n,J,b,a,rfl,N,PL,M,R,RA,v,ri,p1,q⟩:=h;have hu:=o.units;have aw:=jq o;refine⟨_,(cQ (dj (i:=5) kM.nd zZ (Or.inl zZ) (dH kA o.m zZ (cN (pv 1) cJ))) (cQ (dj (i:=6) kM.nd zZ (Or.inl zZ) (fv nB (fv wy (pv 3) cR) (fc gv zZ jA gj (cN (pv 5) cJ)))) (cQ (dj (i:=7) kM.nd zZ (Or.inl zZ) (fv nB (pv 3) (fc gv zZ jA gj (cN (pv 0) cJ)))) (cQ (dj (i:=8) kM.nd zZ (Or.inl zZ) (mM (pv 2) P8.cl rF o.m (c8 (cD (pv 6) (cD (ve ET (pv 4) z7 (qE (pv 6))) (cD (pv 7) db zZ) zZ) zZ)))) (cQ (gk (PW.pt (IJ (xc (re (dH qH o.m zZ (cN (pv 8) cJ)))) (Fh (gB Fy (fc gv zZ jA gj (cN (pv 8) cJ)) (cW dr (cW fX (pv 5) (pv 6) (λ_ _=>rfl)) cR (λ_ _=>rfl)) (fY _))))) (cU (dG tj)) gO) (cQ (iH gY zZ (m8 zZ jC (cN (cW dr (cW fX (pv 5) (pv 6) (λ_ _=>rfl)) cR (λ_ _=>rfl)) cJ)) (fb (i:=9) kM.nd zZ (Or.inl zZ)) (cU (gk (PW.pt (IJ (gB yI (pv 9) cR (fY _)) (Fh (gB Ak (pv 9) (fv Gf (cW dr (cW fX (pv 5) (pv 6) (λ_ _=>rfl)) cR (λ_ _=>rfl)) cR) (fY _))))) (cU (gk (gB Fy (cW dr (dH qW o.m zZ (c8 (cD (pv 0) (cD (pv 1) (cD (fv DR (fv DR (ve ET (pv 4) z7 (qE (pv 6))) (jg (cN (pv 9) cJ))) (ve ET (pv 4) (qE (fv ug (pv 6) cR)) z7)) (cD (pv 7) db zZ) zZ) zZ) zZ))) (pv 6) (λ_ _=>rfl)) (cW dr (pv 8) (pv 9) (λ_ _=>rfl)) (fY _)) (cU (dG tj)) gO)) gO))) (cU (dG tj)))))))),?_⟩;obtain⟨dx,r,st,qs,r1,r2⟩:=id RA;have ax:=R.few;have lz:(eB b).length<=2 * b.length:=tr b b.length;refine⟨_,zZ,pl,m,as,e,b,zZ,N,PL,R.few,λl ps H1 g1 nl el PS=>?_⟩;have y:=PS.len;refine⟨_,zZ,_,_,zZ,zZ,⟨by decide,by decide⟩,_,zZ,l,_,zZ,.inl (Q3 el),_,_,zZ,zZ,(by rw[cC,y];show(0:Int)<(((eB b).length:Nat):Int);lia),?_⟩
 try dsimp only
 rw[cC,y];obtain⟨j,ej,jl⟩:=gb (c:=c/4) p1;rw[ej];have M1:=M.same g1;obtain⟨rs,hm,O,_⟩:=M1.refs;have t1:=M.some1;obtain⟨lt,al,eR⟩:=gb (c:=c) (show 0<e.length by lia);refine⟨_,zZ,_,zZ,m,_,zZ,.inr (Q4 hm),_,_,zZ,zZ,(by rw[cC,O];show(0:Int)<((e.length:Nat):Int);lia),?_⟩
 try dsimp only
 rw[cC,O];rw[al];obtain⟨pt,d⟩: ∃pt,(eB b)[j]? =some pt:=⟨_,cE jl⟩;obtain⟨L,eL⟩:=JK (cY d);have rl:=ri.len;have pos: ∀p∈eB b,0<p.2.2:=λp hp=>R.pos M hp;refine⟨_,zZ,x,dx,_,zZ,g1 _ _ r1,(by kernel_rfl),_,zZ,_,zZ,_,zZ,_,zZ,ra,_,zZ,g1 _ _ v,λs1 H2 g2 T=>?_⟩;rw[Hi]at T;have z:=g1.trans g2;refine⟨_,zZ,x,s1,m,e,n,J,b,a.take j,j,lt,pt,L,zZ,RA.keeps z.keeps,M.same z,R,T,by rw[fi];lia,ri.zeros pos (),d,eL,eR,λfo H3 g3 B=>?_⟩;have few:=LD M R d;have lx:((List.range pt.2.2).map (qb e n b (a.take j++List.replicate ((eB b).length-j) 0) lt pt L)).length=pt.2.2:=by rw[cC,iU]
 have U: ∀r,r<pt.2.2->((List.range pt.2.2).map (qb e n b (a.take j++List.replicate ((eB b).length-j) 0) lt pt L)).getD r 0=qb e n b (a.take j++List.replicate ((eB b).length-j) 0) lt pt L r:=λr o=>Fv o;generalize(List.range pt.2.2).map (qb e n b (a.take j++List.replicate ((eB b).length-j) 0) lt pt L)=xs at B lx U;have am:=z.trans g3;have an:=g2.trans g3;obtain⟨C,Y⟩: ∃C,ps[j]? =some C:=⟨_,cE (by rw[y];exact jl)⟩;have D:=PS.is j C pt Y d;refine⟨_,zZ,fo,xs,zZ,B,(),λH4 g4=>⟨_,zZ,fq ?_⟩⟩;have g:=an.trans g4;have aa:=am.trans g4;have t:=g4 _ _ B;have G:(ps.map V.ref)[j]? =some (V.ref C):=by rw[cV,Y];rfl
 refine⟨_,zZ,fo,_,zZ,.inr (Q4 t),?_⟩
 try dsimp only
 rw[cC,lx];refine⟨_,zZ,_,zZ,l,_,_,_,zZ,zZ,Q3 (g _ _ el),gF G,C,_,_,_,zZ,zZ,Q4 (g _ _ D),zZ,zZ,_,zZ,?_⟩;rw[eJ (show V.int ((pt.2.2:Nat):Int)=nv pt.2.2 from rfl)];refine fq ?_
 let Pk:Nat->L2.St->Hp->Prop:=λk σ H'=>Same H4 H'/\ ∃o9:Option V,σ=[some (.ref m),some (.ref pl),some (.ref x),some (.int c),some (.ref ra),some (.ref l),some (nv j),some (nv lt),some (.ref fo),o9]
 refine⟨_,zZ,_,zZ,l,_,_,_,zZ,zZ,Q3 (g _ _ el),gF G,C,_,_,_,zZ,zZ,Q4 (g _ _ D),zZ,((pt.2.2:Nat):Int),zZ,(),(),wK Pk ⟨Same.refl _,none,zZ⟩ (λk σ H5 hk p=>?_) (λσ H5 p=>q _ (aa.trans p.1))⟩;obtain⟨g5,o9,rfl⟩:=p;rw[show V.int (0+((k:Nat):Int))=nv k by rw[pF]];have ab:=g.trans g5;have ae:=aa.trans g5;refine Ku _ _ (λQ q=>⟨_,zZ,_,_,zZ,zZ,_,zZ,q⟩) (λQ q=>⟨_,zZ,_,zZ,_,zZ,l,_,_,_,zZ,zZ,Q3 (ab _ _ el),gF G,C,_,_,_,zZ,zZ,Q4 (ab _ _ D),zZ,_,_,zZ,zZ,zZ,_,zZ,q⟩) λcb=>?_;cases cb with
 |false=>exact fq ⟨g5,_,zZ⟩
 |true=>
 refine fH ?_;refine⟨_,zZ,_,zZ,_,zZ,_,zZ,_,zZ,ra,_,zZ,ae _ _ v,λs2 H6 g6 af=>⟨_,zZ,by show 1<=sizeLine;decide,λt1 ao=>?_⟩⟩;have kt:=cM ao (.tup [nv k]);rw[Hi]at af;refine⟨s2,t1,_,_,zZ,zZ,kt _ _ af,cF,?_,λt2 H7 g7 ap=>?_⟩
 .rw[cC,fi,dz];show _+1<=_;lia
 have ag:=ae.trans ((g6.trans kt).trans g7);refine⟨_,zZ,_,zZ,_,_,zZ,zZ,_,zZ,ra,_,zZ,ag _ _ v,λs3 H8 g8 ah=>?_⟩;rw[show((j:Nat):Int)+1=((j+1:Nat):Int)from rfl,Ow (show j+1<=a.length by lia)]at ah;have er:((a.take j).map nv++[nv k])++(a.drop (j+1)).map nv=(a.set j k).map nv:=by
  rw[List.set_eq_take_append_cons_drop,wB (),eI,fO];rfl
 refine⟨t2,s3,_,_,zZ,zZ,g8 _ _ ap,ah,?_,λt4 H9 g9 ai=>?_⟩
 .rw[<-dF,er,cC,pN,dz];lia
 rw[er]at ai;have I:=ag.trans (g8.trans g9);have aj:=ri.put d hk;refine⟨_,zZ,pl,t4,m,as,e,n,J,b,a.set j k,lt,zZ,I _ _ N,PL.keeps I.keeps,M.same I,R,ai,aj,eR,λt5 ay aq ar=>?_⟩;have au:=NO M R aj eR;have az:=au.len;have em:=PD (ts:=e) (n:=n) (l:=lt) (row:=a.set j k) (row':=a.take j++List.replicate ((eB b).length-j) 0) d eL (by rw[List.take_append_of_le_length (by rw[fi];lia),zT,Ay,List.take_set_of_le (cO j)]);have ek:(a.set j k).getD j 0=k:=by rw[eC,BR ()];rfl
 rw[ek,<-U k hk]at em;have u:=(((g6.trans kt).trans g7).trans (g8.trans g9)).trans aq;refine⟨_,zZ,t5,_,_,_,zZ,zZ,Q4 ar,mY (k:=j) (),_,zZ,_,zZ,fo,_,_,_,zZ,zZ,Q4 ((g5.trans u) _ _ t),mY (k:=k) (),zZ,?_⟩;rw[show(xm e n b (a.set j k) lt).getD j 0=xs.getD k 0 by rw[eC,em];rfl];refine⟨_,zZ,?_⟩
 try dsimp only
 rw[eJ zZ];exact fq ⟨g5.trans u,_,zZ⟩
def Lj{CL CR:Ad}(F:Fun K "law" "law" sk f fd)(P8:OwnC K CR [sB,tV])(qD:dE P w K mg base uT 3 [sH] (gL K))(rB:dE P w K mg base "_law_plan" 20 [sD] lI)(jG:dE P w K mg base tQ 1 [sH,tL] (fu K))(uD:yo P w K mg base "Row" CR 20 [sC,sA] (gG CL CR))(jY:gq P w K mg base CR "parts" 3 [sC] (gZ CL CR))(rG:dE P w K mg base "_law_row" 5 [sG,sH,vH] (lY K))(qX:dE P w K mg base vQ 15 [sD,sG,tT,tH,sM] (iu CL CR))(jE:mg "enumerate"=none):FnOk P w K mg base de 22 f fd [sH] (j5 K):=by
 refine F.ok rP (λaz A af s H vs Q E g h=>?_)
 obtain⟨a,G,rfl,hS,aA,hT,q⟩:=h;have hu:=g.units;have aB:=jq g;refine⟨_,(cQ (dj (i:=1) rP.nd zZ (Or.inl zZ) (dH qD g.m zZ (cN (pv 0) cJ))) (cQ (dj (i:=2) rP.nd zZ (Or.inl zZ) (dH rB g.m zZ (cN (pv 1) cJ))) (cQ (dj (i:=3) rP.nd zZ (Or.inl zZ) (G2 uD g.m zZ (cN (pv 1) cJ))) (cQ (gk (gB (MB hu) (pv 2) (gI cJ) (fY _)) (cU (dG (wm (tD hu) (xC (pv 3) P8.cl jY g.m) (gI cJ) (fY _)))) gO) (cQ (iH gY zZ (wF zZ jE (cN (fv C8 (gI (cN (dH jG g.m zZ (c8 (cD (pv 0) (cD cR db zZ) zZ))) cJ)) (ve Dc (pv 0) (qE cR) (qE cR))) cJ)) (om zZ (iA (fb (i:=4) rP.nd zZ (Or.inr zZ)) (iA (fb (i:=5) rP.nd zZ (Or.inr zZ)) nO))) (cQ (dj (i:=6) rP.nd zZ (Or.inl zZ) (dH rG g.m zZ (c8 (cD (pv 2) (cD (gW (CompSc.to (N:=[sH,sD,sG,tT,tL,tH,sM]) (osc:=cZ sk) (vs:=[uZ]) {}) zZ zZ (iT (ve Dc (pv 0) (qE cR) (qE cR))) (λ_ _ _ _=>i3) (λ_ _ _ _=>(fv ug (fv wy (pv 0) (fv ug (pv 5) cR)) (fv wy (pv 6) cR)))) (cD cR db zZ) zZ) zZ)))) (cU (gk (xc (re (dH qX g.m zZ (c8 (cD (pv 1) (cD (pv 2) (cD (pv 3) (cD (pv 5) (cD (pv 6) db zZ) zZ) zZ) zZ) zZ))))) (cU (dG tj)) gO)))) (cU (dG tj))))))),?_⟩;refine⟨_,zZ,a,G,zZ,hS,λm I n H1 g1 M=>?_⟩;refine⟨_,zZ,m,I,n,zZ,M,hT.same g1,λpl B J j H2 C T2 R ag PL=>?_⟩;refine⟨_,zZ,λx dx nx ah aC=>?_⟩;have gx:Same H2 (cA (cA H2 dx (.own x)) x (.ins CR dx [])):=λb o hb=>by
  rw[cK (dU hb nx),cK (dU hb ah)];exact hb
 refine⟨H2,x,dx,m,I,n,zZ,gx,nx,cF,M.keeps C,T2,λay aD H4 k4 T4 R2 RA=>⟨zZ,?_⟩⟩;obtain⟨rfl,rfl⟩:=R.uniq R2;obtain⟨ai,r,st,qs,r1,r2⟩:=id RA;have L:=C.trans k4;have M4:=M.keeps L;have O:=PL.keeps k4;have e:=k4 _ _ (nz ag);have T:SqL K H4 a (G.map V.int):=(SqL.keeps (g1.seq hS) L);have aE:=R.few;have lz:(eB j).length<=2 * j.length:=tr j j.length;refine⟨_,zZ,by show 0<=sizeLine;decide,λe0 aj=>?_⟩;have D:=cM aj (.lst []);refine⟨pl,e0,_,zZ,zZ,Q3 (D _ _ e),Q3 cF,_,zZ,?_⟩;have U:=PL.len;by_cases ea:B=[]
 .subst ea;have eL:j=[]:=pZ.mp U.symm;refine fH ⟨_,zZ,x,ai,_,zZ,D _ _ r1,(by kernel_rfl),x,m,I,n,j,zZ,RA.keeps D.keeps,R.few,λl ps H5 g5 nl el PS=>⟨by show 0<=sizeLine;decide,λe1 ak=>?_⟩⟩;have k5:=cM ak (.lst []);refine⟨l,e1,1,_,_,zZ,zZ,LQ (k5 _ _ el) (PS.st (lM k5)),wV (is:=[]) (Q3 cF),by decide,λcc hc=>?_⟩;have al:cc=true:=hc.mpr (by rw[eL];rfl);subst al;exact q _
 rw[show(B.map V.ref).isEmpty=false by cases B with|nil=>exact wC rfl ea|cons _ _=>rfl];have p1:0<(eB j).length:=Jv (by cases B with|nil=>exact wC rfl ea|cons _ _=>rw[<-U];exact Nat.succ_pos _);have t:=D.seq T;refine fq ⟨_,zZ,a,G,6,zZ,(),t,λY=>⟨by show 1<=sizeLine;decide,λs2 am=>?_⟩⟩;have k1:=cM am (.lst [V.int Y]);refine⟨_,zZ,_,zZ,_,zZ,a,_,zZ,k1.seq t,λsl an=>?_⟩;obtain⟨u,ao,aF⟩:=Gq G (some 7) (some 22);rw[ao];have C:=cM an (.lst (u.map V.int));refine⟨s2,sl,_,_,zZ,zZ,Q3 (C _ _ cF),Q3 cF,by rw[cC,dz];show 1+u.length<=_;lia,λce ap=>?_⟩;obtain⟨k,aq,aG⟩: ∃k:Zs,[V.int Y]++u.map V.int=k.map V.int/\k.length=u.length+1:=⟨Y::u,zZ,zZ⟩;rw[aq];have k3:=cM ap (.lst (k.map V.int));have y:cA (cA (cA (cA H4 e0 (.lst [])) s2 (.lst [V.int Y])) sl (.lst (u.map V.int))) ce (.lst (k.map V.int)) ce=some (.lst (k.map V.int)):=cF;have g6:=((D.trans k1).trans C).trans k3;generalize cA (cA (cA (cA H4 e0 (.lst [])) s2 (.lst [V.int Y])) sl (.lst (u.map V.int))) ce (.lst (k.map V.int))=H6 at y g6⊢;clear k1 C k3 D t
 let P2:Nat->L2.St->Hp->Prop:=λi σ H'=>Same H6 H'/\ ∃(o4 o5 o6:Option V),σ=[some (.ref a),some (.ref m),some (.ref pl),some (.ref x),o4,o5,o6]
 refine⟨ce,_,zZ,Q3 y,yV (xs:=k.map V.int) P2 ⟨Same.refl _,none,none,none,zZ⟩ (λi σ H' _ p=>Q3 (p.1 _ _ y)) (λi Tp v σ H7 hv nT pv=>?_) (λσ H7 pv=>q _)⟩;obtain⟨g7,o4,o5,o6,rfl⟩:=pv;rw[cV]at hv;obtain⟨c,ec,rfl⟩:=eU.mp hv;have li:=(cP.mp ec).1;have kT:=cM nT (.tup [.int (i:Nat),.int c]);have eT:cA H7 Tp (.tup [.int (i:Nat),.int c]) Tp=some (.tup [.int (i:Nat),.int c]):=cF;have g8:=g7.trans kT;generalize cA H7 Tp (.tup [.int (i:Nat),.int c])=H8 at eT g8⊢;have aa:=g6.trans g8;refine⟨Tp,_,zZ,Q4 eT,zZ,_,_,zZ,_,_,zZ,zZ,?_⟩;refine⟨_,zZ,_,zZ,_,zZ,_,zZ,a,_,zZ,aa.seq T,λs4 ar=>?_⟩;obtain⟨d0,au,aH⟩:=Gq G (some 6) (some 70);rw[au];have ab:=cM ar (.lst (d0.map V.int));refine⟨s4,zZ,⟨_,Q3 cF⟩,OI (f:=λv=>match v with| .int z=> .int (z/ (((i:Nat):Int)+1)+c/64)|v=>v) (by rw[cC];exact small ()) (Q3 cF) (λv Q hv q=>?_) (λp hp=>?_)⟩
 .obtain⟨z,hz,rfl⟩:=dh.mp hv;exact⟨_,zZ,_,zZ,_,_,zZ,zZ,_,_,zZ,zZ,⟨(),()⟩,_,zZ,_,_,zZ,zZ,⟨by decide,by decide⟩,_,_,zZ,zZ,q⟩
 have er:(d0.map V.int).map (λv=>match v with| .int z=>V.int (z/ (((i:Nat):Int)+1)+c/64)|v=>v)=(d0.map λz=>z/ (((i:Nat):Int)+1)+c/64).map V.int:=by
  rw[i4,i4];rfl
 rw[er];have kp:=cM hp (.lst ((d0.map λz=>z/ (((i:Nat):Int)+1)+c/64).map V.int));have g9:=aa.trans (ab.trans kp);refine⟨pl,p,m,B,I,n,J,j,_,0,zZ,g9 _ _ e,O.keeps g9.keeps,M4.same g9,R,Q3 cF,λra av aI ae aw ri=>?_⟩;have d:=g9.trans ae;exact⟨_,zZ,_,zZ,_,zZ,_,zZ,_,zZ,m,pl,x,ra,c,B,I,n,J,j,av,zZ,d _ _ e,O.keeps d.keeps,M4.same d,R,RA.keeps d.keeps,aw,ri,p1,λaJ ax=>⟨_,zZ,fq ⟨g8.trans (((ab.trans kp).trans ae).trans ax),_,_,_,zZ⟩⟩⟩
theorem lV{b:Type}{P:List b->Prop}(h: ∀a,P [a]): ∀c:List b,c.length=1->P c
 | [a],_=>h a
theorem lO{c:Type}{P:List c->Prop}(h: ∀a b,P [a,b]): ∀d:List c,d.length=2->P d
 | [a,b],_=>h a b
theorem mo{d:Type}{P:List d->Prop}(h: ∀a b c,P [a,b,c]): ∀e:List d,e.length=3->P e
 | [a,b,c],_=>h a b c
theorem qq{e:Type}{P:List e->Prop}(h: ∀a b c d,P [a,b,c,d]): ∀g:List e,g.length=4->P g
 | [a,b,c,d],_=>h a b c d
theorem Ms{e:Type}{P:List e->Prop}(h: ∀a b c d a4,P [a,b,c,d,a4]): ∀g:List e,g.length=5->P g
 | [a,b,c,d,a4],_=>h a b c d a4
abbrev Rw(K:Q5)(x:Str)(st:Stmt)(f:Ad)(fd:Fd):Prop:=PySem.W.nsIn K mainGlobals x=some (some (.ref f))/\Fun K x x st f fd
def fm{K:Q5}{mg:SV}{x:Str}{k:Nat}{a:Ss}{e:Sp}{st:Stmt}{f:Ad}{fd:Fd}{h:Heap}(P:Pg)(w:World)(base:Heap)(X:K.In h)(G:h.Ns mainGlobals mg)(r:Rw K x st f fd)(o:FnOk P w K mg base de k f fd a e)
  (g: ∀(kV b pm:Vl) (i:Option Ad) (c j:Vl) (d:Vs),d.length=a.length->bindArgs (PySem.W.fnOf x x (mW st) (ka st) (cZ st) .none kV b pm i c j) ⟨d,[]⟩=pure (a.zip d)):dE P w K mg base x k a e:=⟨f,fd,o,PySem.W.mg_of X G r.1,r.2.kp,r.2.binds g⟩
set_option maxHeartbeats 0 in
def e0g{l:W.OpenLaw}{w:World}{K:Q5}{h:Heap}{mg:SV}{fa f1 f2 f3 f4 f5 f6 f7 f8 f9 bk bl bm bn bo bp bq br bs bt bu bv bw bx bz bA af bB bC bD bE bF bG bH bI bJ bK bL bM bN bO bP bQ ag aa M:Ad}{d1 d2 d3 d5 d6 d7 d8 bR bS bT bU bV bW bX bY bZ b0 b1 b2 b3 b4 b5 b6 b7 b8 b9 ca cb cc cd ce cf cg ch ci cj ck cl cm:Fd}(X:K.In h)(G:h.Ns mainGlobals mg)(cn:mg "law"=some (.ref fa))
  {co ax cp ay az ak:Option Ad} {cq cr aA:Array (Option Vl)} {cs aB aC aD ah aE cu aF aG aH aI aJ al am ao ap:Vl} {aK:Obj} {cw:Nat}
  (r1:Rw K "_wall" xB f1 d1)
  (r2:Rw K "led" ss f2 d2)
  (r3:Rw K vA EC f3 d3)
  (a4:W.nsIn K mainGlobals tK=some (some (.ref f4))) (l4:K.lookup f4=some ⟨cs,co,.func (W.fnOf tK tK (mW pC) (ka pC) (cZ pC) (.ref ag) aB aC aD ax ah aE),cq⟩) (c4:W.codeIn K ah tK=true) (k4:W.keepIn K (.ref f4)=true)
  (lD4:K.lookup ag=some aK) (qD4:aK.data= .seq ([.none]:Vs).toArray cw)
  (r5:Rw K "place_of" Cr f5 d5)
  (r6:Rw K "in_order" DO f6 d6)
  (r7:Rw K uY Bl f7 d7)
  (r8:Rw K tY AJ f8 d8)
  (a9:W.nsIn K mainGlobals sU=some (some (.ref f9))) (l9:K.lookup f9=some ⟨cu,cp,.func (W.fnOf sU sU (mW oz) (ka oz) (cZ oz) .none aF aG aH ay (.ref aa) aI),cr⟩) (c9:W.codeIn K (.ref aa) sU=true) (k9:W.keepIn K (.ref f9)=true)
  (hd9:W.codeHdIn K aa 101=true)
  (aL:Rw K "still" Do bk bR)
  (aM:Rw K vI BF bl bS)
  (aN:Rw K "pictures" Cp bm bT)
  (aO:Rw K "family" vz bn bU)
  (aP:Rw K vJ BE bo bV)
  (aQ:Rw K sJ xp bp bW)
  (aR:Rw K uO CP bq bX)
  (aS:Rw K vK Bw br bY)
  (aT:Rw K uJ Dk bs bZ)
  (aU:Rw K "is_led_to" Bk bt b0)
  (aV:Rw K uG wY bu b1)
  (aW:Rw K "levels" Av bv b2)
  (aX:Rw K "tile" Cv bw b3)
  (aY:Rw K uF AK bx b4)
  (aZ:Rw K tR Az bz b5)
  (a0:Rw K tZ Dx bA b6)
  (a26:W.nsIn K mainGlobals sV=some (some (.ref af))) (l26:K.lookup af=some ⟨aJ,az,.func (W.fnOf sV sV (mW oC) (ka oC) (cZ oC) .none al am ao ak (.ref M) ap),aA⟩) (c26:W.codeIn K (.ref M) sV=true) (k26:W.keepIn K (.ref af)=true)
  (hd26:W.codeHdIn K M 200=true)
  (a1:Rw K tQ Du bB b7)
  (a2:Rw K "_law_turn" C4 bC b8)
  (a3:Rw K uT zM bD b9)
  (a5:Rw K vL CO bE ca)
  (a6:Rw K vB zS bF cb)
  (a7:Rw K "_law_plan" z6 bG cc)
  (a8:Rw K uQ DS bH cd)
  (ba:Rw K "_law_row" EB bI ce)
  (bb:Rw K vN BU bJ cf)
  (bc:Rw K vM EN bK cg)
  (bd:Rw K uV AE bL ch)
  (be:Rw K vD Bn bM ci)
  (bf:Rw K uW zr bN cj)
  (bg:Rw K vP C5 bO ck)
  (bh:Rw K vQ Ek bP cl)
  (bi:Rw K "law" sk bQ cm)
  {H:Ad} (n_LevelParts:W.nsIn K mainGlobals "LevelParts"=some (some (.ref H))) (M2:OwnC K H [sA,sI,sJ,sS,sQ]) (mk_LevelParts:W.makesIn K H=true) (kp_LevelParts:W.keepIn K (.ref H)=true)
  {Q:Ad} (n_Row:W.nsIn K mainGlobals "Row"=some (some (.ref Q))) (P8:OwnC K Q [sB,tV]) (mk_Row:W.makesIn K Q=true) (kp_Row:W.keepIn K (.ref Q)=true)
  {j:Ad} {k:Fd} (P7:mO K H "__init__" "LevelParts.__init__" BI j k)
  {c:Ad} {d:Fd} (P1:mO K H uP "LevelParts.is_turning" CT c d)
  {q:Ad} {r:Fd} (P6:mO K H uR "LevelParts.within" B8 q r)
  {g:Ad} {i:Fd} (P0:mO K H vO "LevelParts.least_tile" zF g i)
  {m:Ad} {n:Fd} (P3:mO K H "deed_of" "LevelParts.deed_of" Er m n)
  {t:Ad} {u:Fd} (P5:mO K H "turned" "LevelParts.turned" CU t u)
  {o:Ad} {p:Fd} (P4:mO K H "brought" "LevelParts.brought" D5 o p)
  {a:Ad} {b:Fd} (P':mO K H vC "LevelParts.pair_behind" Cn a b)
  {x:Ad} {y:Fd} (P9:mO K Q "__init__" "Row.__init__" BN x y)
  {I:Ad} {J:Fd} (Q1:mO K Q "parts" "Row.parts" E4 I J)
  {z:Ad} {A:Fd} (Q0:mO K Q "paired" "Row.paired" Di z A)
  {B:Ad} {C:Fd} (Q':mO K Q "walked" "Row.walked" C2 B C)
  {N:Ad} {O:Fd} (Q2:mO K Q "move" "Row.move" zq N O)
  (aq:W.nsIn K mainGlobals "len"=some none) (ab:W.nsIn K mainGlobals "range"=some none) (ae:W.nsIn K mainGlobals "tuple"=some none) (ai:W.nsIn K mainGlobals "list"=some none) (T:W.nsIn K mainGlobals "sorted"=some none) (ar:W.nsIn K mainGlobals "set"=some none) (as:W.nsIn K mainGlobals "all"=some none) (au:W.nsIn K mainGlobals "any"=some none) (L:W.nsIn K mainGlobals "enumerate"=some none) (av:W.nsIn K mainGlobals "zip"=some none) (D:W.nsIn K mainGlobals "isinstance"=some none) (aw:W.nsIn K mainGlobals "int"=some none) (aj:W.nsIn K mainGlobals "bool"=some none):
  ∃fd:Fd,(∀(s:Sh) (v:Vl),BindsTo s fd ⟨[v],[]⟩ [(sH,v)])/\ ∀base:Heap,K.In base->base.Ns mainGlobals mg->oQ mg base->FnOk l.prog w K mg base de 22 fa fd [sH] (j5 K):=by
 have e:=cn.symm.trans (W.mg_of X G bi.1);cases e;have F4:DefAt K tK pC f4 (W.fnOf tK tK (mW pC) (ka pC) (cZ pC) (.ref ag) aB aC aD ax ah aE) (.ref ag) ah:=⟨c4,⟨_,_,_,_,_,zZ⟩,_,_,_,l4⟩;have F9:DefAt K sU oz f9 (W.fnOf sU sU (mW oz) (ka oz) (cZ oz) .none aF aG aH ay (.ref aa) aI) .none (.ref aa):=⟨c9,⟨_,_,_,_,_,zZ⟩,_,_,_,l9⟩;have cx:DefAt K sV oC af (W.fnOf sV sV (mW oC) (ka oC) (cZ oC) .none al am ao ak (.ref M) ap) .none (.ref M):=⟨c26,⟨_,_,_,_,_,zZ⟩,_,_,_,l26⟩;have E:=mQ X G aq;have U:=mQ X G ab;have Y:=mQ X G ae;have qO:=mQ X G ai;have jW:=mQ X G T;have rR:=mQ X G ar;have uB:=mQ X G as;have rS:=mQ X G au;have jE:=mQ X G L;have rT:=mQ X G av;have jV:=mQ X G D;have uC:=mQ X G aw;have rX:=mQ X G aj;have rL:=bi.2;obtain⟨_,_,kV,dc,pm,an,cv,ct,_,rfl,_,_⟩:=id rL.ex;refine⟨W.fnOf "law" "law" (mW sk) (ka sk) (cZ sk) .none kV dc pm an cv ct,λs v=> .of_eq zZ,λbase KB _ bj=>?_⟩;have rN:=W.codeHd_of_K KB hd9;have rQ:=W.codeHd_of_K KB hd26;have jG:=fm l.prog w base X G a1 (NG a1.2 E) λ_ _ _ _ _ _=>lO λ_ _=>rfl;have qZ:=fm l.prog w base X G a2 (KC a2.2 U Y qO) λ_ _ _ _ _ _=>lO λ_ _=>rfl;have qD:=fm l.prog w base X G a3 (LB a3.2 jG qZ U Y) λ_ _ _ _ _ _=>lV λ_=>rfl;have uA:=fm l.prog w base X G r2 (N3 r2.2) λ_ _ _ _ _ _=>mo λ_ _ _=>rfl;have rC:=fm l.prog w base X G r5 (Mt r5.2 E) λ_ _ _ _ _ _=>lV λ_=>rfl;have rE:=fm l.prog w base X G r6 (Kh r6.2 rC jW) λ_ _ _ _ _ _=>lV λ_=>rfl;have jK:=fm l.prog w base X G r8 (Lk r8.2 uA Y jW rR) λ_ _ _ _ _ _=>mo λ_ _ _=>rfl;have kQ:=fm l.prog w base X G r3 (Ng r3.2 E) λ_ _ _ _ _ _=>lO λ_ _=>rfl;have kZ:AX l.prog w K mg base tK _ _ _ [.non]:=⟨_,_,[.none],OQ (P:=l.prog) (w:=w) (base:=base) F4 kQ U,W.mg_of X G a4,k4,(λs us KX hl=>by have cy:us.length=3:=(by simpa using hl);clear hl;revert us;exact mo (λ_ _ _=>BindsTo.of_defaults zZ (KX _ _ lD4) qD4 zZ zZ)),.cons zZ .nil⟩;have jS:dE l.prog w K mg base sU _ _ _:=⟨_,_,O4 (P:=l.prog) (w:=w) (base:=base) F9 rN bj Ea jK kZ E,W.mg_of X G a9,k9,.all (lO (λ_ _=>rfl))⟩;have kW:=fm l.prog w base X G aL (Ot aL.2 Y U) λ_ _ _ _ _ _=>lV λ_=>rfl;have kK:=fm l.prog w base X G aM (Jy aM.2 Y) λ_ _ _ _ _ _=>lO λ_ _=>rfl;have rD:=fm l.prog w base X G aN (KH aN.2 kW jS E qO) λ_ _ _ _ _ _=>lV λ_=>rfl;have qJ:=fm l.prog w base X G aO (Lq aO.2 rD rE E U) λ_ _ _ _ _ _=>lV λ_=>rfl;have jZ:=fm l.prog w base X G r7 (L7 r7.2 uB) λ_ _ _ _ _ _=>lO λ_ _=>rfl;have qP:=fm l.prog w base X G aP (OK aP.2 jZ rS) λ_ _ _ _ _ _=>lO λ_ _=>rfl;have rV:=fm l.prog w base X G aQ (Ld aQ.2 qJ jZ qP) λ_ _ _ _ _ _=>lO λ_ _=>rfl;have kU:=fm l.prog w base X G aR (MD aR.2 qJ jS E) λ_ _ _ _ _ _=>lV λ_=>rfl;have qQ:=fm l.prog w base X G aS (Ju aS.2) λ_ _ _ _ _ _=>lO λ_ _=>rfl;have kP:=fm l.prog w base X G aT (LC aT.2 qQ) λ_ _ _ _ _ _=>lV λ_=>rfl;have rA:=fm l.prog w base X G aU (Jp aU.2 rS) λ_ _ _ _ _ _=>mo λ_ _ _=>rfl;have kJ:=fm l.prog w base X G aV (Pp aV.2 rA) λ_ _ _ _ _ _=>lO λ_ _=>rfl;have qK:=fm l.prog w base X G aW (OA aW.2 kU kP kJ rV) λ_ _ _ _ _ _=>lV λ_=>rfl;have rM:=fm l.prog w base X G aX (Ou aX.2 jK) λ_ _ _ _ _ _=>qq λ_ _ _ _=>rfl;have jN:=fm l.prog w base X G aY (Nh aY.2 rM E U) λ_ _ _ _ _ _=>mo λ_ _ _=>rfl;have jJ:=fm l.prog w base X G aZ (K3 aZ.2 jK jN Y) λ_ _ _ _ _ _=>qq λ_ _ _ _=>rfl;have kF:=fm l.prog w base X G a0 (LG a0.2 jJ E U) λ_ _ _ _ _ _=>lO λ_ _=>rfl;have jX:dE l.prog w K mg base sV _ _ _:=⟨_,_,MT (P:=l.prog) (w:=w) (base:=base) cx rQ bj DH kF kW kK kZ E jW,W.mg_of X G a26,k26,.all (lO (λ_ _=>rfl))⟩;have qS:yo l.prog w K mg base "LevelParts" H _ _ _:=⟨_,_,K' (P:=l.prog) (w:=w) (mg:=mg) (base:=base) P7.2.2 M2 jX jN jJ jE U E,⟨mk_LevelParts,P7.1,P7.2.1,kp_LevelParts⟩,W.mg_of X G n_LevelParts,P7.2.2.binds (ps:=[sC,sA,sL]) λ_ _ _ _ _ _=>mo (λ_ _ _=>rfl)⟩;have jF:gq l.prog w K mg base H uP _ _ _:=⟨_,_,O1 (P:=l.prog) (w:=w) (mg:=mg) (base:=base) P1.2.2 M2 E,⟨P1.1,P1.2.1,P1.2.2.kp⟩,P1.2.2.binds (ps:=[sC]) λ_ _ _ _ _ _=>lV (λ_=>rfl)⟩;have jQ:gq l.prog w K mg base H uR _ _ _:=⟨_,_,Lp (P:=l.prog) (w:=w) (mg:=mg) (base:=base) P6.2.2 M2,⟨P6.1,P6.2.1,P6.2.2.kp⟩,P6.2.2.binds (ps:=[sC,sZ,uI]) λ_ _ _ _ _ _=>mo (λ_ _ _=>rfl)⟩;have jT:gq l.prog w K mg base H vO _ _ _:=⟨_,_,Pz (P:=l.prog) (w:=w) (mg:=mg) (base:=base) P0.2.2 M2 jZ,⟨P0.1,P0.2.1,P0.2.2.kp⟩,P0.2.2.binds (ps:=[sC,sZ,sB]) λ_ _ _ _ _ _=>mo (λ_ _ _=>rfl)⟩;have jI:gq l.prog w K mg base H "deed_of" _ _ _:=⟨_,_,OG (P:=l.prog) (w:=w) (mg:=mg) (base:=base) P3.2.2 M2 jK jT,⟨P3.1,P3.2.1,P3.2.2.kp⟩,P3.2.2.binds (ps:=[sC,sZ,uK,sK]) λ_ _ _ _ _ _=>qq (λ_ _ _ _=>rfl)⟩;have jL:gq l.prog w K mg base H "turned" _ _ _:=⟨_,_,MA (P:=l.prog) (w:=w) (mg:=mg) (base:=base) P5.2.2 M2 kK,⟨P5.1,P5.2.1,P5.2.2.kp⟩,P5.2.2.binds (ps:=[sC,tE,sW]) λ_ _ _ _ _ _=>mo (λ_ _ _=>rfl)⟩;have jH:gq l.prog w K mg base H "brought" _ _ _:=⟨_,_,MG (P:=l.prog) (w:=w) (mg:=mg) (base:=base) P4.2.2 M2,⟨P4.1,P4.2.1,P4.2.2.kp⟩,P4.2.2.binds (ps:=[sC,tE,sW,uN]) λ_ _ _ _ _ _=>qq (λ_ _ _ _=>rfl)⟩;have jP:gq l.prog w K mg base H vC _ _ _:=⟨_,_,L8 (P:=l.prog) (w:=w) (mg:=mg) (base:=base) P'.2.2 M2 jL jH,⟨P'.1,P'.2.1,P'.2.2.kp⟩,P'.2.2.binds (ps:=[sC,tE,uI]) λ_ _ _ _ _ _=>mo (λ_ _ _=>rfl)⟩;have uD:yo l.prog w K mg base "Row" Q _ _ _:=⟨_,_,Jl (P:=l.prog) (w:=w) (mg:=mg) (base:=base) P9.2.2 P8 qS qK kW E,⟨mk_Row,P9.1,P9.2.1,kp_Row⟩,W.mg_of X G n_Row,P9.2.2.binds (ps:=[sC,sA]) λ_ _ _ _ _ _=>lO (λ_ _=>rfl)⟩;have jY:gq l.prog w K mg base Q "parts" _ _ _:=⟨_,_,LO (P:=l.prog) (w:=w) (mg:=mg) (base:=base) Q1.2.2 M2 P8 jF jE E,⟨Q1.1,Q1.2.1,Q1.2.2.kp⟩,Q1.2.2.binds (ps:=[sC]) λ_ _ _ _ _ _=>lV (λ_=>rfl)⟩;have qT:gq l.prog w K mg base Q "paired" _ _ _:=⟨_,_,Ko (P:=l.prog) (w:=w) (mg:=mg) (base:=base) Q0.2.2 M2 P8 jF,⟨Q0.1,Q0.2.1,Q0.2.2.kp⟩,Q0.2.2.binds (ps:=[sC,"row"]) λ_ _ _ _ _ _=>lO (λ_ _=>rfl)⟩;have qU:gq l.prog w K mg base Q "walked" _ _ _:=⟨_,_,JX (P:=l.prog) (w:=w) (mg:=mg) (base:=base) Q'.2.2 M2 P8 jI jP jQ rT,⟨Q'.1,Q'.2.1,Q'.2.2.kp⟩,Q'.2.2.binds (ps:=[sC,uL,sK]) λ_ _ _ _ _ _=>mo (λ_ _ _=>rfl)⟩;have rF:gq l.prog w K mg base Q "move" _ _ _:=⟨_,_,KN (P:=l.prog) (w:=w) (mg:=mg) (base:=base) Q2.2.2 M2 P8 jY qT qU jI jL jH E Y U,⟨Q2.1,Q2.2.1,Q2.2.2.kp⟩,Q2.2.2.binds (ps:=[sC,"n",vE,sK]) λ_ _ _ _ _ _=>qq (λ_ _ _ _=>rfl)⟩;have qR:=fm l.prog w base X G a5 (MW a5.2 jV uC rX) λ_ _ _ _ _ _=>lV λ_=>rfl;have qH:=fm l.prog w base X G a6 (NK a6.2 qR jV Y) λ_ _ _ _ _ _=>lV λ_=>rfl;have rB:=fm l.prog w base X G a7 (Js a7.2 qK rM jX jE U E) λ_ _ _ _ _ _=>lV λ_=>rfl;have kA:=fm l.prog w base X G a8 (O8 a8.2 jE E) λ_ _ _ _ _ _=>lV λ_=>rfl;have rG:=fm l.prog w base X G ba (Jn ba.2 kA jG E Y) λ_ _ _ _ _ _=>mo λ_ _ _=>rfl;have qV:=fm l.prog w base X G bb (Jt bb.2 qO E) λ_ _ _ _ _ _=>lO λ_ _=>rfl;have kX:=fm l.prog w base X G bc (J2 bc.2) λ_ _ _ _ _ _=>mo λ_ _ _=>rfl;have qB:=fm l.prog w base X G bd (O7 bd.2 Y jW rR) λ_ _ _ _ _ _=>mo λ_ _ _=>rfl;have qG:=fm l.prog w base X G be (Kx be.2 jJ Y) λ_ _ _ _ _ _=>qq λ_ _ _ _=>rfl;have qC:=fm l.prog w base X G bf (JP bf.2 jE) λ_ _ _ _ _ _=>qq λ_ _ _ _=>rfl;have qW:=fm l.prog w base X G bg (Mo bg.2 qV kX qB qG qC rT Y U E) λ_ _ _ _ _ _=>qq λ_ _ _ _=>rfl;have qX:=fm l.prog w base X G bh (OU bh.2 P8 kA rF qH qW E U) λ_ _ _ _ _ _=>Ms λ_ _ _ _ _=>rfl;exact Lj (P:=l.prog) (w:=w) (base:=base) rL P8 qD rB jG uD jY rG qX jE
def tabsW:List (Str×Ad):=[(sU,101),(sV,200)]
def walk{l:PySem.W.OpenLaw}{q:Pg}{b:Ss}{m:SV->Heap->Prop}{j:World->Heap->Prop}{d:DefRec}{K:Params->Q5}(o:l.most=some 63)(g:d.params.defaults=[])
  (p: ∀(w:World) (h:Heap),j w h->(K w.params).In h) (hT: ∀w:World,∀t∈tabsW,(K w.params).lookup t.2=none/\(∃c,PySem.W.tabIn (K w.params) t.1=some (c,t.2))/\ ∃e,(recsOf q).find? (λr=>r.name==t.1)=some e)
  (F: ∀(w:World) (mg:SV) (fa:Ad) (h:Heap),(K w.params).In h->h.Ns mainGlobals mg->mg d.name=some (.ref fa)->
   ∃fd:Fd,(∀(s:Sh) (u:Vl),BindsTo s fd ⟨[u],[]⟩ [(sH,u)])/\ ∀base:Heap,(K w.params).In base->base.Ns mainGlobals mg->oQ mg base->FnOk l.prog w (K w.params) mg base de 22 fa fd [sH] (j5 (K w.params))):
  PySem.W.WalkO q b m j l.row.toRowW d [] (λf v=>PySem.call f v):=
 L2.d2e (n:=63) (k:=22) (x:=sH) (tabs:=tabsW) (sp:=λw=>j5 (K w.params)) o (by decide) g ⟨zZ,by decide,by decide⟩ p hT F λw H a y A ht B=>⟨a,y,zZ,B,A,(λq C=>by
  have z:q.2.2∈tabsW.map (·.2):=(show fS.map (·.2.2)=tabsW.map (·.2)from rfl)▸List.mem_map_of_mem C;obtain⟨t,i,e⟩:=dh.mp z;rw[<-e];exact .inl (ht t i)),λ_=>rfl⟩
end My
namespace PySem.W.Fast
def tw5139227874111861820:=0
theorem te5139227874111861820 : True := ⟨⟩
def tw15461113750929150629:=0
def tw16854326049430312400:=0
def tw13544459121925309117:=0
def tw12661282663864565524:=0
def tw5583990627997728872:=0
def tw17602794972234035199:=0
def tw13298653331969890879:=0
def tw6267238490822076600:=0
def tw18030152804453357373:=0
def tw12369610663715455672:=0
def tw82536765245910618:=0
def tw11443570853163425662:=0
def tw6785949693885444787:=0
def tw6202137502426422213:=0
def tw17317777694342722753:=0
def tw9089880953684682788:=0
def tw1470385410663793120:=0
def tw850802903312985001:=0
def tw1223181516448731383:=0
def tw6215973358513963552:=0
def tw17237086053721203110:=0
def tw14362510341279875709:=0
def tw10356779391041883968:=0
def tw15491234933941287777:=0
def tw3807145274902814995:=0
def tw716649124515404213:=0
def tw17648071527310410008:=0
def tw9053930326401512912:=0
def tw11398755552405984886:=0
def tw1847322000662643337:=0
def tw10592068514471503569:=0
def tw18365343176685598284:=0
def tw13287163913833514906:=0
def tw17769730437414999506:=0
def tw7424590659114466851:=0
def tw3869265869709822322:=0
def tw1963764680653979036:=0
def tw7711235309668637086:=0
def tw11096624678137010136:=0
def tw18120744802648587075:=0
def tw18256898023180072587:=0
def tw13953119125228018930:=0
def tw7410685619414980353:=0
def tw16905991419206102355:=0
def tw17088575500830599454:=0
def tw9047779963343043852:=0
def tw7201443509314863107:=0
def tw14524309409669192060:=0
def tw15155247344038776094:=0
def tw14971258277215000476:=0
def tw6616057368765091519:=0
def tw17488444934922410225:=0
def tw6269720864590924208:=0
def tw16405655819327190845:=0
def tw9931032230281747743:=0
def tw5294887450267128513:=0
def tw2440012602930328974:=0
def tw8646768315388145818:=0
def tw12704105127143016587:=0
def tw8380281099558397280:=0
def tw16604277957684168057:=0
def tw16983373153632814290:=0
def tw16429094605446132530:=0
def tw785860813561738193:=0
def tw10520445486293933905:=0
def tw12235131370054832484:=0
def tw16963839656514378161:=0
def tw12524904373437027971:=0
def tw9472008836281891222:=0
def tw7598327489033508801:=0
def tw13558067107047716808:=0
def tw8278171207057206025:=0
def tw1009204276006310190:=0
def tw11732109628878952108:=0
def tw15903359086407319004:=0
def tw8991377789928618975:=0
def tw902732946253444183:=0
def tw13453693090909500209:=0
def tw6605273135395333804:=0
def tw3534708149947866833:=0
def tw7755299071148957337:=0
def tw7333687070102431701:=0
def tw8957295424177112101:=0
def tw10218371666357041864:=0
def tw3361536075762602627:=0
def tw9264476054401796246:=0
def tw8713568932586368093:=0
def tw12648598759467198856:=0
def tw17578065885429515564:=0
def tw4909992838028072964:=0
def tw18063535661658402539:=0
def tw8814786737178601322:=0
def tw7394505900043862809:=0
def tw13661443333924899025:=0
def tw15545440613041739101:=0
def tw661631079753747289:=0
def tw3782634164675261705:=0
def tw10320746518287523148:=0
def tw7190192488876698666:=0
def tw5836647463077983852:=0
def tw1958424656247016986:=0
def tw3141432615977196537:=0
def tw11979490069819707940:=0
def tw16551719887084812627:=0
def tw10120865965535138096:=0
def tw6893639584220689181:=0
def tw11052628606329526318:=0
def tw15584097862924424863:=0
def tw15135733001214300080:=0
def tw7924213778979714230:=0
def tw15139295414396690582:=0
def tw12079968569246555669:=0
def tw14391942347070122114:=0
def tw5307803464360207372:=0
def tw16018971908886539466:=0
def tw10256905070408415500:=0
def tw2154385090488573941:=0
def tw8302433506042044551:=0
def tw4276067153429587101:=0
def tw13393127362577812981:=0
def tw13124879708301102162:=0
def tw10881963718651140391:=0
def tw7430422061062703592:=0
def tw11886152534995944622:=0
def tw7160900015693521549:=0
def tw4006302823540562043:=0
def tw404588892004996579:=0
def tw17256948222252393538:=0
def tw14158872663935330313:=0
def tw10871566895358490635:=0
end PySem.W.Fast
open PySem PySem.W PyProof.Rows
set_option maxRecDepth 100000 in
set_option maxHeartbeats 0 in
theorem PySem.Challenge.cw_cascade_k54_moves_of_parts_holds : PySem.Challenge.rw_cascade_k54_moves_of_parts.Holds := by
 w_on; o_law; k_head; (case hw => w_witness2)
 k_fill
 refine' My.walk (l := PySem.Challenge.rw_cascade_k54_moves_of_parts) rfl rfl (fun w h Y => PySem.W.km_in_of Y) ?hT ?F
 case hT =>
  intro w t ht
  simp only [My.tabsW, List.mem_cons, List.not_mem_nil, or_false] at ht
  rcases ht with rfl | rfl
  ·exact ⟨by kernel_rfl, ⟨105, by kernel_rfl⟩, _, rfl⟩
  ·exact ⟨by kernel_rfl, ⟨204, by kernel_rfl⟩, _, rfl⟩
 case F =>
  intro w mg fa h KX G hmg
  refine' My.e0g KX G hmg ?_ ?_ ?_ ?a4 ?l4 ?c4 ?k4 ?lD4 ?qD4 ?_ ?_ ?_ ?_ ?a9 ?l9 ?c9 ?k9 ?hd9 ?_ ?_ ?_ ?_ ?_ ?_ ?_ ?_ ?_ ?_ ?_ ?_ ?_ ?_ ?_ ?_ ?a26 ?l26 ?c26 ?k26 ?hd26 ?_ ?_ ?_ ?_ ?_ ?_ ?_ ?_ ?_ ?_ ?_ ?_ ?_ ?_ ?_ ?_  ?n_LevelParts ?M2 ?mk_LevelParts ?kp_LevelParts ?n_Row ?P8 ?mk_Row ?kp_Row ?P7 ?P1 ?P6 ?P0 ?P3 ?P5 ?P4 ?P' ?P9 ?Q1 ?Q0 ?Q' ?Q2  ?_ ?_ ?_ ?_ ?_ ?_ ?_ ?_ ?_ ?_ ?_ ?_ ?_
  (case a4 => k_is); (case l4 => k_is); (case c4 => k_is); (case k4 => k_is)
  (case lD4 => k_is); (case qD4 => rfl)
  (case a9 => k_is); (case l9 => k_is); (case c9 => k_is); (case k9 => k_is)
  (case hd9 => kernel_rfl)
  (case a26 => k_is); (case l26 => k_is); (case c26 => k_is); (case k26 => k_is)
  (case hd26 => kernel_rfl)
  (case n_LevelParts => k_is); (case M2 => exact ⟨⟨by k_is, by k_is, by k_is, by k_is⟩, (.cons (by k_is) (.cons (by k_is) (.cons (by k_is) (.cons (by k_is) (.cons (by k_is) .nil)))))⟩); (case mk_LevelParts => k_is); (case kp_LevelParts => k_is)
  (case n_Row => k_is); (case P8 => exact ⟨⟨by k_is, by k_is, by k_is, by k_is⟩, (.cons (by k_is) (.cons (by k_is) .nil))⟩); (case mk_Row => k_is); (case kp_Row => k_is)
  (case P7 => refine' ⟨?a, ?i, L2.a5e ?l ?c ?k⟩; (case a => k_is); (case i => k_is); (case l => k_is); (case c => k_is); (case k => k_is))
  (case P1 => refine' ⟨?a, ?i, L2.a5e ?l ?c ?k⟩; (case a => k_is); (case i => k_is); (case l => k_is); (case c => k_is); (case k => k_is))
  (case P6 => refine' ⟨?a, ?i, L2.a5e ?l ?c ?k⟩; (case a => k_is); (case i => k_is); (case l => k_is); (case c => k_is); (case k => k_is))
  (case P0 => refine' ⟨?a, ?i, L2.a5e ?l ?c ?k⟩; (case a => k_is); (case i => k_is); (case l => k_is); (case c => k_is); (case k => k_is))
  (case P3 => refine' ⟨?a, ?i, L2.a5e ?l ?c ?k⟩; (case a => k_is); (case i => k_is); (case l => k_is); (case c => k_is); (case k => k_is))
  (case P5 => refine' ⟨?a, ?i, L2.a5e ?l ?c ?k⟩; (case a => k_is); (case i => k_is); (case l => k_is); (case c => k_is); (case k => k_is))
  (case P4 => refine' ⟨?a, ?i, L2.a5e ?l ?c ?k⟩; (case a => k_is); (case i => k_is); (case l => k_is); (case c => k_is); (case k => k_is))
  (case P' => refine' ⟨?a, ?i, L2.a5e ?l ?c ?k⟩; (case a => k_is); (case i => k_is); (case l => k_is); (case c => k_is); (case k => k_is))
  (case P9 => refine' ⟨?a, ?i, L2.a5e ?l ?c ?k⟩; (case a => k_is); (case i => k_is); (case l => k_is); (case c => k_is); (case k => k_is))
  (case Q1 => refine' ⟨?a, ?i, L2.a5e ?l ?c ?k⟩; (case a => k_is); (case i => k_is); (case l => k_is); (case c => k_is); (case k => k_is))
  (case Q0 => refine' ⟨?a, ?i, L2.a5e ?l ?c ?k⟩; (case a => k_is); (case i => k_is); (case l => k_is); (case c => k_is); (case k => k_is))
  (case Q' => refine' ⟨?a, ?i, L2.a5e ?l ?c ?k⟩; (case a => k_is); (case i => k_is); (case l => k_is); (case c => k_is); (case k => k_is))
  (case Q2 => refine' ⟨?a, ?i, L2.a5e ?l ?c ?k⟩; (case a => k_is); (case i => k_is); (case l => k_is); (case c => k_is); (case k => k_is))
  any_goals (refine' ⟨?a, L2.a5e ?l ?c ?k⟩; (case a => k_is); (case l => k_is); (case c => k_is); (case k => k_is))
  any_goals k_is
